/- Columns of the reference, SameInts. -/
import Derived.Test.YtmikeifkmjhioaaGreatDoorXe
namespace Go.Proofs.YtmikeifkmjhioaaGreatDoor
open Go.RowKit Go.Proofs.EB
set_option maxHeartbeats 8000000
set_option maxRecDepth 100000
attribute [local go_sem] World.cell?_alloc_some
/-- A list that grows by Add: nil while it is empty. -/
def ISt (w : World) (v : Value) (L : List Int) : Prop := (L = [] ∧ v = .slice none 0 0) ∨ ∃ b off cp, v = .slice (some ⟨b, off, none⟩) L.length cp ∧ RAt encInt 1 w w.heap.size (some ⟨b, off, none⟩) L ∧ L.length ≤ cp
theorem ISt.later {w w' : World} {v : Value} {L : List Int} (h : ISt w v L) (hb : Below w.heap.size w w') : ISt w' v L := by
  rcases h with h | ⟨b, off, cp, h1, h2, h3⟩
  · exact .inl h
  · exact .inr ⟨b, off, cp, h1, h2.later hb, h3⟩
theorem rAdd_any (n : Int) (v : Value) (L : List Int) (hl : L.length ≤ 1000000) (w : World) (h : ISt w v L) :
    Calls Tryz.prog 26 #[v, .int .i64 n] w fun e w' => ∃ v', e = .returned v' ∧ ISt w' v' (addI L n) ∧ Below w.heap.size w w' := by
  rcases h with ⟨rfl, rfl⟩ | ⟨b, off, cp, rfl, h2, h3⟩
  · refine (rAdd_nil n w).mono ?_
    rintro e w' ⟨b, off, cp, rfl, h1, h2, h3⟩
    exact ⟨_, rfl, .inr ⟨b, off, cp, rfl, h1, h2⟩, h3⟩
  · refine (rAdd_some n b off cp L hl h3 w h2).mono ?_
    rintro e w' ⟨b, off, cp, rfl, h1, h2, h3⟩
    exact ⟨_, rfl, .inr ⟨b, off, cp, rfl, h1, h2⟩, h3⟩
theorem addI_len (n : Int) : ∀ L : List Int, (addI L n).length ≤ L.length + 1
  | [] => by simp [addI]
  | x :: L => by
    have := addI_len n L
    unfold addI
    split
    · simp; omega
    · split <;> simp
/-- The columns of an expression. -/
def colsL (l : List Tm) : List Int := if validL l = true then (colsO l).foldl addI [] else []
/-- A row of ints comes back. -/
def GaveL (w : World) (L : List Int) (e : Ending) (w' : World) : Prop := ∃ ao cap, e = .returned (.slice ao L.length cap) ∧ RAt encInt 1 w' w'.heap.size ao L ∧ Below w.heap.size w w'
theorem rCols_any (ao : Option Addr) (cap : Nat) (l : List Tm) (hl : l.length ≤ maxLen) (hok : ∀ t ∈ l, t.okT) (w : World) (hT : TmsAt w w.heap.size ao l) :
    Calls Tryz.prog 10 #[.slice ao l.length cap] w (GaveL w (colsL l)) := by
  have hV := fun w hT => rexValid_any ao cap l hl hok w hT
  have HT := Lib.hid hT
  unfold colsL
  obtain ⟨vb, hvb⟩ : ∃ vb, vb = validL l := ⟨_, rfl⟩
  rw [← hvb] at hV ⊢
  unfold maxLen at hl
  clear hok hT
  cases vb
  · have HV := Lib.hid hV
    clear hV hvb
    rw [if_neg (by decide)]
    go_enter Tryz.func10, Tryz.ntmps10
    go_wp2_with fail
    go_loopw [3, 4] (fun v i wr => v = .slice none 0 0 ∧ i = .int .i64 0 ∧ wr = w) (fun _ _ _ => 0)
    case atStart => exact ⟨rfl, rfl, rfl⟩
    case round =>
      obtain ⟨rfl, rfl, rfl⟩ := hrel
      by_cases h0 : l.length = 0
      · have h0' : (l.length : Int) = 0 := by omega
        go_wp2_with fail
        go_ret
        exact ⟨none, 0, rfl, .inl rfl, Below.refl _ _⟩
      · have hpos : (0 : Int) < (l.length : Int) := by omega
        go_wp2_with fail
        refine (HV.out _ HT.out).mono ?_
        rintro e w2 ⟨rfl, hb⟩
        go_wp2_with fail
        go_ret
        exact ⟨none, 0, rfl, .inl rfl, hb⟩
  · have HV := Lib.hid hV
    have h64 : l.length ≤ 64 := by obtain ⟨_, _, _, _, h⟩ := validL_get hvb.symm; exact h
    clear hV hvb
    rw [if_pos rfl]
    go_enter Tryz.func10, Tryz.ntmps10
    go_wp2_with fail
    go_loopw [3, 4] (fun v i wr => ∃ (k : Nat) (L : List Int), i = .int .i64 k ∧ k ≤ l.length ∧ L.length ≤ k ∧ Hid (L = (colsO (l.take k)).foldl addI []) ∧ Hid (ISt wr v L) ∧ Hid (Below w.heap.size w wr)) (fun _ i _ => l.length - (intOf i).toNat)
    case atStart => exact ⟨0, [], rfl, by omega, by simp, by simp [Hid, colsO], .inl ⟨rfl, rfl⟩, Below.refl _ _⟩
    case round =>
      obtain ⟨k, L, rfl, hk, hLk, hX, hS, hB⟩ := hrel
      by_cases hlt : k < l.length
      · obtain ⟨b, off, rfl, _⟩ := HT.out.form (by omega)
        have hlt2 : k + 1 ≤ l.length := hlt
        have htk : l.take (k + 1) = l.take k ++ [l[k]] := by rw [List.take_succ_eq_append_getElem hlt]
        have Hc := Lib.hid (show ∀ wr', Below w.heap.size w wr' → _ from fun wr' hb' => RAt.tm (HT.out.later hb') hlt)
        generalize l[k] = t at *
        have Htk := Lib.hid htk
        clear htk
        go_wp2_with fail
        refine (HV.out _ (HT.out.later hB.out)).mono ?_
        rintro e w2 ⟨rfl, hb⟩
        have HB2 := Lib.hid (bt hB.out hb)
        have HS2 := Lib.hid (hS.out.later hb)
        obtain ⟨c0, c1, c2, c3, c4⟩ := Hc.out _ HB2.out
        have hbl : b < w2.heap.size := World.block_lt_of_cell? w2 _ c0
        clear hb
        by_cases h2 : t.op = 2
        · obtain ⟨o, ⟨tk, tn, ts⟩, tc⟩ := t
          simp only at h2 c0 c1 c2 c3 c4
          subst h2
          go_wp2_with fail
          refine (rAdd_any tc _ L (by omega) w2 HS2.out).mono ?_
          rintro e w3 ⟨v3, rfl, hS3, hb3⟩
          have HS3 := Lib.hid hS3
          have HB3 := Lib.hid (bt HB2.out hb3)
          clear hS3 hb3
          go_wp2_with fail
          refine ⟨⟨k + 1, addI L tc, by go_num, hlt2, ?_, ?_, HS3.out, HB3.out⟩, by simp [intOf]; omega⟩
          · have := addI_len tc L; omega
          · unfold Hid
            rw [Htk.out, colsO_snoc, if_pos rfl, List.foldl_append, ← hX.out]; rfl
        · have y2 : (t.op == 2) = false := by simpa using h2
          obtain ⟨o, ⟨tk, tn, ts⟩, tc⟩ := t
          simp only at h2 y2 c0 c1 c2 c3 c4
          have H2 := Lib.hid h2
          clear h2
          go_wp2_with fail
          refine ⟨⟨k + 1, L, by go_num, hlt2, by omega, ?_, HS2.out, HB2.out⟩, by simp [intOf]; omega⟩
          unfold Hid
          rw [Htk.out, colsO_snoc, if_neg H2.out, ← hX.out]
      · have hke : k = l.length := by omega
        subst hke
        rw [List.take_of_length_le (Nat.le_refl _)] at hX
        rcases hS.out with ⟨h1, rfl⟩ | ⟨b, off, cp, rfl, h2, h3⟩
        · have HL := Lib.hid h1
          clear h1
          go_wp2_with fail
          go_ret
          rw [← hX.out, HL.out]
          exact ⟨none, 0, rfl, .inl rfl, hB.out⟩
        · have H2 := Lib.hid h2
          clear h2
          go_wp2_with fail
          go_ret
          rw [← hX.out]
          exact ⟨some ⟨b, off, none⟩, cp, rfl, H2.out, hB.out⟩
theorem sameInts_refl (a1 a2 : Option Addr) (c1 c2 : Nat) (L : List Int) (hl : L.length ≤ maxLen) (w : World) (h1 : RAt encInt 1 w w.heap.size a1 L) (h2 : RAt encInt 1 w w.heap.size a2 L) :
    Calls Tryz.prog 9 #[.slice a1 L.length c1, .slice a2 L.length c2] w (Gives (.bool true) w) := by
  have H1 := Lib.hid h1
  have H2 := Lib.hid h2
  unfold maxLen at hl
  have yl : ((L.length : Int) != (L.length : Int)) = false := by simp
  clear h1 h2
  go_enter Tryz.func9, Tryz.ntmps9
  go_wp2_with fail
  clear yl
  go_loopw [5] (fun i wr => ∃ k : Nat, k ≤ L.length ∧ i = .int .i64 k ∧ Hid (Below w.heap.size w wr)) (fun i _ => L.length - (intOf i).toNat)
  case atStart => exact ⟨0, by omega, rfl, Below.refl _ _⟩
  case round =>
    obtain ⟨k, hk, rfl, hB⟩ := hrel
    by_cases hlt : k < L.length
    · obtain ⟨b1, o1, rfl, _⟩ := H1.out.form (by omega)
      obtain ⟨b2, o2, rfl, _⟩ := H2.out.form (by omega)
      have c0 := RAt.int (H1.out.later hB.out) hlt
      have d0 := RAt.int (H2.out.later hB.out) hlt
      generalize L[k] = x at *
      have hlt2 : k + 1 ≤ L.length := hlt
      have yx : (x != x) = false := by simp
      go_wp2_with fail
      go_quiet (fail)
      go_wp2_with fail
      exact ⟨⟨k + 1, hlt2, by go_num, ⟨hB.out.os, hB.out.tape, hB.out.output, hB.out.size, hB.out.block⟩⟩, by simp [intOf]; omega⟩
    · have hke : k = L.length := by omega
      subst hke
      go_wp2_with fail
      go_ret
      exact ⟨rfl, hB.out⟩
end Go.Proofs.YtmikeifkmjhioaaGreatDoor
