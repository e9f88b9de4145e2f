/- Columns of the program: Sort and Compact at an owned row of ints. -/
import Derived.Test.YtmikeifkmjhioaaGreatDoorXf
import Derived.Test.YtmikeifkmjhioaaGreatDoorSh
namespace Go.Proofs.YtmikeifkmjhioaaGreatDoor
open Go.RowKit Go.Proofs.EB
set_option maxHeartbeats 8000000
set_option maxRecDepth 100000
attribute [local go_sem] World.cell?_alloc_some
theorem below_put {α : Type} [Inhabited α] (enc : α → Value) (w : World) (n B blk off : Nat) (d : Array α) (os : Array Obj) (hB : B ≤ blk) (hw : B ≤ w.heap.size) : Below B w (Sort.grow (Sort.putRow enc (Sort.ahead w n) blk off d) os) := by
  refine ⟨rfl, rfl, rfl, by simp, fun k hk => ?_⟩
  rw [Sort.heap_grow_old _ _ (by simp; omega)]
  simp only [Sort.putRow, Sort.mapBlock, Sort.heap_ahead, Array.getElem?_modify]
  rw [if_neg (by omega)]
theorem holds_own {w : World} {B g cap : Nat} {e : TypeId} {cs : List Int} (h : OwnsR encInt 1 w B e (.slice (some ⟨g, 0, none⟩) cs.length cap) cs) : Sort.Holds (Value.int .i64) w g 0 cs.toArray := by
  intro j hj
  have hj' : j < cs.length := by simpa using hj
  refine ⟨?_, OwnsR.marks h _⟩
  obtain ⟨ao, cp, heq, hr, _⟩ := OwnsR.rAt encInt_len h
  simp only [Value.slice.injEq, true_and] at heq
  obtain ⟨rfl, rfl⟩ := heq
  rw [RAt.int hr hj']
  simp [getElem!_pos, hj']
theorem sort_own (B g cap : Nat) (e : TypeId) (cs : List Int) (hc : 0 < cs.length) (hl : cs.length ≤ 1000000) (w : World) (h : OwnsR encInt 1 w B e (.slice (some ⟨g, 0, none⟩) cs.length cap) cs) :
    Calls Tryz.prog 23 #[.slice (some ⟨g, 0, none⟩) cs.length cap] w fun e w' => e = .returned (.tuple #[]) ∧ Sort.Holds (Value.int .i64) w' g 0 (cs.mergeSort fun x y => decide (x ≤ y)).toArray ∧ B ≤ g ∧ g < w'.heap.size ∧ Below B w w' := by
  have hH := holds_own h
  obtain ⟨hBg, hgw⟩ := h.lt g rfl
  refine (Tryz.slices_Sort_int g 0 cap cs w hH hgw (by omega)).mono ?_
  rintro e w' ⟨rfl, n, os, rfl⟩
  refine ⟨rfl, ?_, hBg, by simp; omega, below_put _ _ _ _ _ _ _ _ hBg (by omega)⟩
  refine Sort.holds_grow _ _ _ _ _ _ (by simpa using hgw) (Sort.holds_putRow _ _ _ _ cs.toArray _ (Sort.holds_ahead _ _ _ _ _ _ hH) (by simp))
theorem compactUpTo_len (d : Array Int) : ∀ m, (Lib.compactUpTo d m).length ≤ m := by
  intro m
  induction m with
  | zero => simp [Lib.compactUpTo]
  | succ m ih =>
    rw [Lib.compactUpTo_succ]
    split <;> simp <;> omega
theorem compact_own (B g cap : Nat) (zs : List Int) (hl : zs.length ≤ 1000000) (hc : zs.length ≤ cap) (hBg : B ≤ g) (w : World) (hg : g < w.heap.size) (hH : Sort.Holds (Value.int .i64) w g 0 zs.toArray) :
    Calls Tryz.prog 24 #[.slice (some ⟨g, 0, none⟩) zs.length cap] w fun e w' => e = .returned (.slice (some ⟨g, 0, none⟩) (Lib.compact zs).length cap) ∧ RAt encInt 1 w' w'.heap.size (some ⟨g, 0, none⟩) (Lib.compact zs) ∧ Below B w w' := by
  have hlen : (Lib.compact zs).length ≤ zs.length := compactUpTo_len _ _
  refine (Tryz.slices_Compact_int g 0 cap zs w hH (by omega) hc).mono ?_
  rintro e w' ⟨rfl, q, rfl⟩
  have hb := below_put (Value.int .i64) w q B g 0 (Lib.compact zs ++ List.replicate (zs.length - (Lib.compact zs).length) 0).toArray #[] hBg (by omega)
  rw [Sort.grow_empty] at hb
  refine ⟨rfl, .inr ⟨g, 0, rfl, by simpa using hg, fun i hi j u hu => ?_⟩, hb⟩
  have hj : j = 0 := by
    have := (List.getElem?_eq_some_iff.1 hu).1
    simpa [encInt] using this
  subst hj
  simp only [encInt, List.getElem?_cons_zero, Option.some.injEq] at hu
  subst hu
  have h1 := Sort.cell?_putRow (Value.int .i64) (Sort.ahead w q) g 0 zs.toArray (Lib.compact zs ++ List.replicate (zs.length - (Lib.compact zs).length) 0).toArray hH (by simp; omega) i (by simp; omega)
  rw [show 0 + i * 1 + 0 = 0 + i by omega, h1]
  simp [getElem!_pos, show i < (Lib.compact zs).length + (zs.length - (Lib.compact zs).length) by omega, List.getElem_append_left hi]
/-- The program's columns come back: an owned row, or none. -/
def GaveM (w : World) (L : List Int) (e : Ending) (w' : World) : Prop := ∃ ao cap, e = .returned (.slice ao L.length cap) ∧ RAt encInt 1 w' w'.heap.size ao L ∧ (L = [] ∨ ∀ b o, ao = some ⟨b, o, none⟩ → w.heap.size ≤ b) ∧ Below w.heap.size w w'
theorem exCols_any (ao : Option Addr) (cap : Nat) (l : List Tm) (hl : l.length ≤ maxLen) (hok : ∀ t ∈ l, t.okT) (w : World) (hO : Ops w) (hT : TmsAt w w.heap.size ao l) :
    Calls Tryz.prog 8 #[.slice ao l.length cap] w (GaveM w (colsL l)) := by
  have hV := exValid_any ao cap l hl hok w hO hT
  have HT := Lib.hid hT
  unfold colsL
  obtain ⟨vb, hvb⟩ : ∃ vb, vb = validL l := ⟨_, rfl⟩
  rw [← hvb] at hV ⊢
  unfold maxLen at hl
  have HV := Lib.hid hV
  clear hok hT hO hV
  cases vb
  · clear hvb
    rw [if_neg (by decide)]
    go_enter Tryz.func8, Tryz.ntmps8
    go_wp2_with fail
    refine HV.out.mono ?_
    rintro e w1 ⟨rfl, hb⟩
    go_wp2_with fail
    go_ret
    exact ⟨none, 0, rfl, .inl rfl, .inl rfl, hb⟩
  · have h64 : l.length ≤ 64 := by obtain ⟨_, _, _, _, h⟩ := validL_get hvb.symm; exact h
    clear hvb
    rw [if_pos rfl]
    go_enter Tryz.func8, Tryz.ntmps8
    go_wp2_with fail
    refine HV.out.mono ?_
    rintro e w1 ⟨rfl, hb⟩
    have HB := Lib.hid hb
    clear hb
    go_wp2_with fail
    go_loopw [3, 11] (fun v i wr => ∃ (k : Nat) (out : List Int) (ad : Option Addr) (cp : Nat), i = .int .i64 k ∧ v = .slice ad out.length cp ∧ k ≤ l.length ∧ out.length ≤ k ∧ Hid (out = colsO (l.take k)) ∧ Hid (OwnsR encInt 1 wr w.heap.size 3 (.slice ad out.length cp) out) ∧ Hid (Below w.heap.size w wr)) (fun _ i _ => l.length - (intOf i).toNat)
    case atStart => exact ⟨0, [], none, 0, rfl, rfl, by omega, by simp, by simp [Hid, colsO], OwnsR.nil, HB.out⟩
    case round =>
      obtain ⟨k, out, ad, cp, rfl, rfl, hk, hol, hX, hown, hB⟩ := hrel
      have hsz := hB.out.size
      by_cases hlt : k < l.length
      · obtain ⟨b, off, rfl, _⟩ := HT.out.form (by omega)
        obtain ⟨c0, c1, c2, c3, c4⟩ := RAt.tm (HT.out.later hB.out) hlt
        have htk : l.take (k + 1) = l.take k ++ [l[k]] := by rw [List.take_succ_eq_append_getElem hlt]
        have hlt2 : k + 1 ≤ l.length := hlt
        generalize l[k] = t at *
        have Htk := Lib.hid htk
        have hbl : b < wr.heap.size := World.block_lt_of_cell? wr _ c0
        clear htk
        by_cases h2 : t.op = 2
        · obtain ⟨o, ⟨tk, tn, ts⟩, tc⟩ := t
          simp only at h2 c0 c1 c2 c3 c4
          subst h2
          have hown1 := OwnsR.below hown.out (al1 wr (.cells #[.int .i64 2, .int .i64 tk, .int .i64 tn, .string ts, .int .i64 tc] 48))
          have hsz1 : w.heap.size ≤ (wr.alloc (.cells #[.int .i64 2, .int .i64 tk, .int .i64 tn, .string ts, .int .i64 tc] 48)).heap.size := by simp; omega
          have HB1 := Lib.hid (bt hB.out (al1 wr (.cells #[.int .i64 2, .int .i64 tk, .int .i64 tn, .string ts, .int .i64 tc] 48)))
          clear hown
          go_wp2_with (at_builtin; refine wpList_appR (enc := encInt) (m := 1) Tryz.underlying22 infoI rfl (by decide) encInt_len encInt_one _ (wr.alloc (.cells #[.int .i64 2, .int .i64 tk, .int .i64 tn, .string ts, .int .i64 tc] 48)) rfl (.tmp 18) (.tmp 21) rfl w.heap.size _ out rfl hown1 [tc] 1 1 #[.int .i64 tc] (by simp [go_sem]) rfl rfl rfl rfl rfl rfl (by decide) (by omega) (by unfold maxLen; omega) hsz1 ?_; intro l3 g3 cap3 w3 hl3 hown3 haw3 hb3 hat3 hlt3)
          refine ⟨⟨k + 1, l3, _, _, by go_num, rfl, hlt2, by rw [hl3.out]; simp; omega, ?_, hown3, HB1.out.trans hb3⟩, by simp [intOf]; omega⟩
          unfold Hid
          rw [hl3.out, Htk.out, colsO_snoc, if_pos rfl, hX.out]
        · have y2 : (t.op == 2) = false := by simpa using h2
          obtain ⟨o, ⟨tk, tn, ts⟩, tc⟩ := t
          simp only at h2 y2 c0 c1 c2 c3 c4
          have hown1 := OwnsR.below hown.out (al1 wr (.cells #[.int .i64 o, .int .i64 tk, .int .i64 tn, .string ts, .int .i64 tc] 48))
          have HB1 := Lib.hid (bt hB.out (al1 wr (.cells #[.int .i64 o, .int .i64 tk, .int .i64 tn, .string ts, .int .i64 tc] 48)))
          have H2 := Lib.hid h2
          clear h2 hown
          go_wp2_with fail
          refine ⟨⟨k + 1, out, ad, cp, by go_num, rfl, hlt2, by omega, ?_, hown1, HB1.out⟩, by simp [intOf]; omega⟩
          unfold Hid
          rw [Htk.out, colsO_snoc, if_neg H2.out, hX.out]
      · have hke : k = l.length := by omega
        subst hke
        rw [List.take_of_length_le (Nat.le_refl _)] at hX
        by_cases h0 : out.length = 0
        · have hnil : out = [] := List.eq_nil_of_length_eq_zero h0
          have hX2 := hX.out
          rw [hnil] at hX2
          have HX := Lib.hid hX2
          have hS := Tryz.slices_Sort_int_none ad cp wr
          have hC := Tryz.slices_Compact_int_empty ad cp wr
          subst hnil
          clear hX2 h0
          have HS := Lib.hid hS
          have HC := Lib.hid hC
          clear hS hC
          go_wp2_with fail
          refine HS.out.mono ?_
          rintro e w2 ⟨rfl, rfl⟩
          go_wp2_with fail
          refine HC.out.mono ?_
          rintro e w3 ⟨rfl, rfl⟩
          go_wp2_with fail
          go_ret
          rw [← HX.out]
          exact ⟨ad, cp, rfl, .inl rfl, .inl rfl, hB.out⟩
        · have hpos : 0 < out.length := by omega
          obtain ⟨g, rfl, hcp⟩ : ∃ g, ad = some ⟨g, 0, none⟩ ∧ out.length ≤ cp := by
            rcases hown.out.2 with ⟨h1, h2⟩ | ⟨g, cap', cur, h1, _, _, h2, _⟩
            · omega
            · simp only [Value.slice.injEq, true_and] at h1
              obtain ⟨rfl, rfl⟩ := h1
              exact ⟨g, rfl, h2⟩
          have HS := Lib.hid (sort_own w.heap.size g cp _ out hpos (by omega) wr hown.out)
          have hlen : (out.mergeSort fun x y => decide (x ≤ y)).length = out.length := by simp
          have Hlen := Lib.hid hlen
          clear hlen
          go_wp2_with fail
          refine HS.out.mono ?_
          rintro e w2 ⟨rfl, hH, hBg, hg2, hb2⟩
          have hC := compact_own w.heap.size g cp (out.mergeSort fun x y => decide (x ≤ y)) (by rw [Hlen.out]; omega) (by rw [Hlen.out]; exact hcp) hBg w2 hg2 hH
          rw [Hlen.out, compact_sort] at hC
          have HC := Lib.hid hC
          have HB2 := Lib.hid (hB.out.trans hb2)
          have HBg := Lib.hid hBg
          clear hC hH hBg hg2 hb2
          have HX := Lib.hid hX.out
          clear hX
          go_wp2_with fail
          refine HC.out.mono ?_
          rintro e w3 ⟨rfl, hr, hb3⟩
          go_wp2_with fail
          go_ret
          rw [← HX.out]
          exact ⟨_, cp, rfl, hr, .inr (fun b o h => by simp only [Option.some.injEq, Addr.mk.injEq] at h; have := HBg.out; omega), HB2.out.trans hb3⟩
end Go.Proofs.YtmikeifkmjhioaaGreatDoor
