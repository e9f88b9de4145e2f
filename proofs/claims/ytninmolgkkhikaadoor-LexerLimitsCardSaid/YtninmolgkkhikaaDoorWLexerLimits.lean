/- The walk of the law LexerLimits. -/
import Derived.Test.YtninmolgkkhikaaDoorLi
import Derived.OwnWalk
import Derived.OpenShut
import Derived.Laws.OwnMore
namespace Go.Proofs.EB
open Go.RowKit
open Go.Lib (byteCells)
section
variable {P : Program} {t e : TypeId}
/-- 'string(b)' of a row that reads as the bytes l, at a guarded operation whose guard holds. -/
theorem wpList_b2sg {dst : TypeId} (hd : P.underlying dst = some .string) (ht : P.underlying t = some (.slice e)) (he : P.underlying e = some (.int .u8)) (w : World)
    {ops : Array Oper} {rest : List Oper} {o : Oper} {a : Act} {Q : Exit → Act → World → Prop} (hw : Region.wanted o (yielded ops a.tmps) = true) (x : Operand) (ho : o.op = .convert t dst x) (B : Nat) (v : Value) (l : List UInt8)
    (hx : a.eval x = v) (hown : OwnsB w B e v l)
    (h : wpList P ops Q rest (a.put o.dst (.string ⟨l.toArray⟩)) w) : wpList P ops Q (o :: rest) a w := by
  refine wpList_step fun K hK => ?_
  rw [if_pos hw]
  unfold Oper.wp execOp
  have hr : (convert t dst v).run P w = .ok (.string ⟨l.toArray⟩) w := by
    rcases hown.2 with ⟨rfl, hl⟩ | ⟨g, cap, cur, rfl, _, _⟩
    · have : l = [] := List.eq_nil_of_length_eq_zero hl
      subst this
      exact Lib.run_convert_nil_bytes w t dst e 0 ht he hd
    · refine run_convert_bytes_back w t dst e _ _ l ht he hd fun j hj => ?_
      refine hown.cells (g := g) rfl j _ ?_
      simp [byteCells, hj]
  simp only [ho, hx, Sem.run_bind, hr, Result.andThen_ok, Sem.run_pure]
  exact hK _ _ h
end
theorem byteCells_set (l : List UInt8) (j : Nat) (b : UInt8) : (byteCells l).set j (.int .u8 (b.toNat : Int)) = byteCells (l.set j b) := by
  simp [byteCells, List.map_set]
theorem made_bytes (n : Nat) : (madeCells #[.int .u8 0] (n * 1)).toList = byteCells (List.replicate n 0) := by
  apply List.ext_getElem
  · simp [madeCells, byteCells]
  · intro i h1 h2
    simp only [madeCells, Array.toList_map, Array.toList_range, List.getElem_map, List.getElem_range, byteCells, List.getElem_replicate]
    have : i % (#[Value.int .u8 0] : Array Value).size = 0 := Nat.mod_one i
    rw [this]; rfl
/-- A row of bytes of which some have been written. -/
def Filled (w : World) (B : Nat) (e : TypeId) (g n : Nat) : Prop := ∃ l : List UInt8, l.length = n ∧ OwnsB w B e (.slice (some ⟨g, 0, none⟩) n n) l
theorem Filled.cell {w : World} {B g n : Nat} {e : TypeId} (h : Filled w B e g n) {j : Nat} (hj : j < n) : (∃ x : Int, w.cell? ⟨g, j, none⟩ = some (.int .u8 x)) ∧ w.frozen? ⟨g, j, none⟩ = false := by
  obtain ⟨l, rfl, ho⟩ := h
  refine ⟨?_, World.ownsRow.frozenAt ho j⟩
  have := World.ownsRow.cellAt ho j (by omega)
  rw [this]
  exact ⟨_, by simp [byteCells, hj]; rfl⟩
theorem Filled.stored {w : World} {B g n : Nat} {e : TypeId} (h : Filled w B e g n) (j : Nat) (b : UInt8) : Filled (w.setCell ⟨g, j, none⟩ (.int .u8 (b.toNat : Int))) B e g n := by
  obtain ⟨l, hl, ho⟩ := h
  subst hl
  refine ⟨l.set j b, by simp, ?_⟩
  have := (World.ownsRow.stored ho j (.int .u8 (b.toNat : Int))).1
  rw [byteCells_set] at this
  unfold OwnsB
  rw [List.length_set]
  exact this
theorem Filled.away {w w' : World} {B g n : Nat} {e : TypeId} {r : Option Nat} (h : Filled w B e g n) (ha : Away r w w') (hr : some g ≠ r) : Filled w' B e g n := by
  obtain ⟨l, hl, ho⟩ := h
  exact ⟨l, hl, ha.ownsB ho (.inr hr)⟩
theorem Filled.lt {w : World} {B g n : Nat} {e : TypeId} (h : Filled w B e g n) : B ≤ g ∧ g < w.heap.size := by
  obtain ⟨l, hl, ho⟩ := h
  exact World.ownsRow.lt ho g rfl
end Go.Proofs.EB
namespace Go.Proofs.YtninmolgkkhikaaDoor
open Go.RowKit Go.Proofs.EB
set_option maxHeartbeats 4000000
attribute [local go_sem] World.cell?_alloc_some
theorem made_away' {w w' : World} (h : w.grownBy w' none) : Away none w w' := ⟨h.os, h.tape, h.output, h.size, h.block⟩
theorem filled_made {w : World} {B g n : Nat} (h : w.ownsRow B 5 1 (.slice (some ⟨g, 0, none⟩) n n) n (madeCells (Value.int .u8 0).cells (n * 1)).toList) : Filled w B 5 g n := by
  refine ⟨List.replicate n 0, by simp, ?_⟩
  unfold OwnsB
  rw [← made_bytes, List.length_replicate]
  exact h
set_option maxRecDepth 100000 in
theorem W_LexerLimits (n : Int) (w : World) (hwf : (Lit.int .u8 n).wf = true) (hE : ErrV w) :
    Calls Tryd.prog 9 #[.int .u8 n] w fun e w' => e = .returned (.bool true) ∧ Below w.heap.size w w' := by
  have hn := bounds_u8 hwf
  clear hwf
  obtain ⟨c, hc, hc2⟩ : ∃ c : Nat, n % 3 = (c : Int) ∧ c ≤ 2 := ⟨(n % 3).toNat, by omega, by omega⟩
  obtain ⟨i0, hi, hz0, hz1, hz2⟩ := info_parts infoU8
  have HE := Lib.hid hE
  have hn0 := hn.1
  have hn1 := hn.2
  have hc0 : (0 : Int) ≤ (c : Int) := by omega
  have hc3 : (c : Int) ≤ 2 := by omega
  have hcN : c < 3 := by omega
  have Hz2 := Lib.hid hz2
  obtain ⟨num, hnum, hns⟩ : ∃ num : ByteArray, ([Value.string ⟨#[52, 50, 57, 52, 57, 54, 55, 50, 57, 53]⟩, Value.string ⟨#[52, 50, 57, 52, 57, 54, 55, 50, 57, 54]⟩, Value.string ⟨#[52, 50, 57, 52, 57, 54, 55, 50, 57, 55]⟩] : List Value)[c] = .string num ∧ num.size ≤ 20 := by
    match c, hcN with
    | 0, _ => exact ⟨_, rfl, by decide⟩
    | 1, _ => exact ⟨_, rfl, by decide⟩
    | 2, _ => exact ⟨_, rfl, by decide⟩
    | n + 3, h => omega
  have hL1 : (4096 : Int) + ((c : Int) - 1) = ((4095 + c : Nat) : Int) := by omega
  have hL2 : (32768 : Int) + ((c : Int) - 1) = ((32767 + c : Nat) : Int) := by omega
  have HL1 := Lib.hid hL1
  have HL2 := Lib.hid hL2
  have Hns := Lib.hid hns
  clear hE hn hz2 hL1 hL2 hns
  go_enter Tryd.func9, Tryd.ntmps9
  go_wp2_with fail
  go_loop [4, 6] (fun v i => ∃ (j : Nat) (u : ByteArray), j ≤ 17 ∧ i = .int .i64 j ∧ v = .string u ∧ u.size ≤ j) (fun _ i => 17 - (intOf i).toNat)
  case atStart => exact ⟨0, ⟨#[]⟩, by omega, rfl, rfl, by simp [ByteArray.size]⟩
  case round =>
    obtain ⟨j, u, hj, rfl, rfl, hu⟩ := hrel
    by_cases hlt : (j : Int) < 16 + ((c : Int) - 1)
    · go_wp2_with fail
      have e1 : (⟨#[120]⟩ : ByteArray).size = 1 := rfl
      go_round
      case rel => exact ⟨j + 1, u ++ ⟨#[120]⟩, by omega, by go_num, rfl, by simp; omega⟩
      case measure => simp [intOf]; omega
    · go_wp2_with fail
      have hu17 : u.size ≤ 17 := by omega
      have Hu := Lib.hid hu17
      clear hlt hj hu17
      clear hu
      go_loop [5, 7] (fun v i => ∃ (k : Nat) (x : ByteArray), k ≤ 33 ∧ i = .int .i64 k ∧ v = .string x ∧ x.size ≤ k) (fun _ i => 33 - (intOf i).toNat)
      case atStart => exact ⟨0, ⟨#[]⟩, by omega, rfl, rfl, by simp [ByteArray.size]⟩
      case round =>
        obtain ⟨k, x, hk, rfl, rfl, hx⟩ := hrel
        by_cases hlt : (k : Int) < 32 + ((c : Int) - 1)
        · go_wp2_with fail
          have e1 : (⟨#[121]⟩ : ByteArray).size = 1 := rfl
          go_round
          case rel => exact ⟨k + 1, x ++ ⟨#[121]⟩, by omega, by go_num, rfl, by simp; omega⟩
          case measure => simp [intOf]; omega
        · have hx33 : x.size ≤ 33 := by omega
          have Hx := Lib.hid hx33
          clear hx hk hx33
          go_wp2_with (at_make; refine wpList_make_full _ rfl (.tmp 39) (.tmp 39) 42 rfl w.heap.size 5 i0 _ 1 Tryd.underlying42 hi hz0 hz1 .i64 .i64 _ _ (4095 + c) rfl rfl HL1.out HL1.out (by rw [Hz2.out]; omega) (by unfold maxLen; omega) (by simp) ?_; intro w3 hown3 hg3)
          have hF : Filled w3 w.heap.size 5 (w.heap.size + 1) (4095 + c) := filled_made (by simpa using hown3)
          have hb3 : Below w.heap.size w w3 := ((Below.refl _ _).alloc (Nat.le_refl _) _).trans ((made_away' hg3).below (by simp) (by simp))
          have hNN : 4095 + c ≤ 4097 := by omega
          generalize 4095 + c = N at *
          generalize hgg : w.heap.size + 1 = g1 at *
          have Hgg := Lib.hid hgg
          clear hown3 hg3 hgg HL1 hlt
          go_loopw [10] (fun i wr => ∃ k : Nat, k ≤ N ∧ i = .int .i64 k ∧ Filled wr w.heap.size 5 g1 N ∧ Below w.heap.size w wr) (fun i _ => N - (intOf i).toNat)
          case atStart => exact ⟨0, by omega, rfl, hF, hb3⟩
          case round =>
            obtain ⟨p, hp, rfl, hF1, hb4⟩ := hrel
            clear hF hb3
            by_cases hpl : p < N
            · obtain ⟨⟨xv, hcell⟩, hfr⟩ := hF1.cell hpl
              have hst := hF1.stored p 59
              have hst' : Filled (wr.setCell ⟨g1, p, none⟩ (.int .u8 59)) w.heap.size 5 g1 N := hst
              have hb5 : Below w.heap.size w (wr.setCell ⟨g1, p, none⟩ (.int .u8 59)) := hb4.setCell hF1.lt.1 _
              have hpi : (p : Int) < (N : Int) := by omega
              clear hst
              go_wp2_with fail
              go_roundw
              case rel => exact ⟨p + 1, by omega, by go_num, hst', hb5⟩
              case measure => simp [intOf]; omega
            · have hpi : ¬ (p : Int) < (N : Int) := by omega
              have hs4 := hb4.size
              go_wp2_with (at_make; refine wpList_make_full _ rfl (.tmp 51) (.tmp 51) 42 rfl w.heap.size 5 i0 _ 1 Tryd.underlying42 hi hz0 hz1 .i64 .i64 _ _ (32767 + c) rfl rfl HL2.out HL2.out (by rw [Hz2.out]; omega) (by unfold maxLen; omega) hs4 ?_; intro w5 hown5 hg5)
              have hA5 := made_away' hg5
              have hF2 : Filled w5 w.heap.size 5 wr.heap.size (32767 + c) := filled_made hown5
              have hF3 : Filled w5 w.heap.size 5 g1 N := hF1.away hA5 (by simp)
              have hb5 : Below w.heap.size w w5 := hb4.trans (hA5.below hs4 (by simp))
              have hMM : 32767 + c ≤ 32769 := by omega
              have hg12 : g1 < wr.heap.size := hF1.lt.2
              generalize 32767 + c = M at *
              generalize wr.heap.size = g2 at *
              clear hown5 hg5 hA5 HL2 hF1 hb4 hpl hpi hs4
              go_loopw [12] (fun i wr => ∃ k : Nat, k ≤ M ∧ i = .int .i64 k ∧ Filled wr w.heap.size 5 g1 N ∧ Filled wr w.heap.size 5 g2 M ∧ Below w.heap.size w wr) (fun i _ => M - (intOf i).toNat)
              case atStart => exact ⟨0, by omega, rfl, hF3, hF2, hb5⟩
              case round =>
                obtain ⟨q, hq, rfl, hF4, hF5, hb6⟩ := hrel
                clear hF2 hF3 hb5
                by_cases hql : q < M
                · obtain ⟨⟨xv, hcell⟩, hfr⟩ := hF5.cell hql
                  have hst := hF5.stored q 32
                  have hst' : Filled (wr.setCell ⟨g2, q, none⟩ (.int .u8 32)) w.heap.size 5 g2 M := hst
                  have hst2 : Filled (wr.setCell ⟨g2, q, none⟩ (.int .u8 32)) w.heap.size 5 g1 N := hF4.away (away_setCell _ _ _) (by simp; omega)
                  have hb7 : Below w.heap.size w (wr.setCell ⟨g2, q, none⟩ (.int .u8 32)) := hb6.setCell hF5.lt.1 _
                  have hqi : (q : Int) < (M : Int) := by omega
                  clear hst
                  go_wp2_with fail
                  go_roundw
                  case rel => exact ⟨q + 1, by omega, by go_num, hst2, hst', hb7⟩
                  case measure => simp [intOf]; omega
                · have hqi : ¬ (q : Int) < (M : Int) := by omega
                  have H6 := Lib.hid hb6
                  have HF4 := Lib.hid hF4
                  have HF5 := Lib.hid hF5
                  have hqu : (⟨#[34]⟩ : ByteArray).size = 1 := rfl
                  have hqa : (⟨#[97, 32]⟩ : ByteArray).size = 2 := rfl
                  have Hsu : Hid (u.size ≤ 1000000 ∧ ((⟨#[97, 32]⟩ : ByteArray) ++ num).size ≤ 1000000 ∧ ((⟨#[34]⟩ : ByteArray) ++ x ++ ⟨#[34]⟩).size ≤ 1000000) := by
                    have h1 := Hu.out
                    have h2 := Hx.out
                    have h3 := Hns.out
                    refine ⟨by omega, by simp; omega, by simp; omega⟩
                  have hb7 := hb6
                  clear hF4 hF5 hb6 hqu hqa hql hq
                  go_wp2_with fail
                  refine (scans_any u _ Hsu.out.1 (err_below HE.out H6.out)).mono ?_
                  rintro e w6 ⟨rfl, hb8⟩
                  have H7 := Lib.hid (H6.out.trans (hb8.mono H6.out.size))
                  have HF6 := Lib.hid (HF4.out.away (away_weak (r := none) hb8) (by simp))
                  have HF7 := Lib.hid (HF5.out.away (away_weak (r := none) hb8) (by simp))
                  have hns2 := Hns.out
                  clear hb8 hb7
                  go_wp2_with fail
                  refine (scans_any _ _ Hsu.out.2.1 (err_below HE.out H7.out)).mono ?_
                  rintro e w7 ⟨rfl, hb8⟩
                  have H8 := Lib.hid (H7.out.trans (hb8.mono H7.out.size))
                  have HF8 := Lib.hid (HF6.out.away (away_weak (r := none) hb8) (by simp))
                  have HF9 := Lib.hid (HF7.out.away (away_weak (r := none) hb8) (by simp))
                  have hx2 := Hx.out
                  have hqu : (⟨#[34]⟩ : ByteArray).size = 1 := rfl
                  have hxq : ((⟨#[34]⟩ : ByteArray) ++ x).size ≤ 40 := by simp; omega
                  clear hb8 hqu
                  go_wp2_with fail
                  refine (scans_any _ _ Hsu.out.2.2 (err_below HE.out H8.out)).mono ?_
                  rintro e w8 ⟨rfl, hb8⟩
                  have H9 := Lib.hid (H8.out.trans (hb8.mono H8.out.size))
                  obtain ⟨l1, hl1, hown1⟩ := HF8.out.away (away_weak (r := none) hb8) (by simp)
                  have HF10 := Lib.hid (HF9.out.away (away_weak (r := none) hb8) (by simp))
                  have Hl1 := Lib.hid hl1
                  clear hb8 hl1
                  go_wp2_with (refine wpList_b2sg Tryd.underlying9 Tryd.underlying42 Tryd.underlying5 _ (by rfl) (.tmp 76) rfl _ _ l1 rfl hown1 ?_)
                  refine (scans_any _ _ (by have := Hl1.out; simp only [ByteArray.size, List.size_toArray]; omega) (err_below HE.out H9.out)).mono ?_
                  rintro e w9 ⟨rfl, hb8⟩
                  have H10 := Lib.hid (H9.out.trans (hb8.mono H9.out.size))
                  obtain ⟨l2, hl2, hown2⟩ := HF10.out.away (away_weak (r := none) hb8) (by simp)
                  have Hl2 := Lib.hid hl2
                  clear hb8 hl2 hown1
                  go_wp2_with (refine wpList_b2sg Tryd.underlying9 Tryd.underlying42 Tryd.underlying5 _ (by rfl) (.tmp 81) rfl _ _ l2 rfl hown2 ?_)
                  refine (scans_any _ _ (by have := Hl2.out; simp only [ByteArray.size, List.size_toArray]; omega) (err_below HE.out H10.out)).mono ?_
                  rintro e w10 ⟨rfl, hb8⟩
                  have H11 := Lib.hid (H10.out.trans (hb8.mono H10.out.size))
                  clear hb8 hown2
                  go_wp2_with fail
                  refine (lawake_any _ (err_below HE.out H11.out)).mono ?_
                  rintro e w11 ⟨rfl, hb8⟩
                  have H12 := Lib.hid (H11.out.trans (hb8.mono H11.out.size))
                  clear hb8
                  go_wp2_with fail
                  go_ret
                  exact ⟨rfl, H12.out⟩
end Go.Proofs.YtninmolgkkhikaaDoor
