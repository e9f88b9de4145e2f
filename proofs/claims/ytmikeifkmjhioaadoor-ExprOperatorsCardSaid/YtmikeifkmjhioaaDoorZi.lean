/- Apply of the reference: and, or. -/
import Derived.Test.YtmikeifkmjhioaaDoorZb
import Derived.LoopN
import Derived.Test.YtmikeifkmjhioaaDoorZh
namespace Go.Proofs.YtmikeifkmjhioaaDoor
open Go.RowKit Go.Proofs.EB
set_option maxHeartbeats 4000000
set_option maxRecDepth 100000
attribute [local go_sem] World.cell?_alloc_some
theorem rapply_three14 (b off cap : Nat) (k n : Int) (s : ByteArray) (k' n' : Int) (s' : ByteArray) (w : World) (hA : At1 w b off k n s) (hB : At1 w b (off + 3) k' n' s') :
    Calls Tryd.prog 83 #[.int .i64 14, .slice (some ⟨b, off, none⟩) 2 cap] w (GivesV (threeV 14 (truthV ⟨k, n, s⟩) (truthV ⟨k', n', s'⟩)) w) := by
  have hR := fun w => rthree_any 14 _ _ (by decide) (truthV_cases ⟨k, n, s⟩) (truthV_cases ⟨k', n', s'⟩) w
  have HR := Lib.hid hR
  clear hR
  obtain ⟨hq, _⟩ := bcell (al2 w (.cells #[.int .i64 0, .int .i64 0, .string ⟨#[]⟩] 34) (.cells #[.int .i64 0, .int .i64 0, .string ⟨#[]⟩] 34))
  obtain ⟨c0, c1, c2⟩ := hA
  obtain ⟨d0, d1, d2⟩ := hB
  have hbl : b < w.heap.size := World.block_lt_of_cell? w _ c0
  have hb2 : b < w.heap.size + 1 + 1 := by omega
  have hw2 : w.heap.size < w.heap.size + 1 + 1 := by omega
  have HB := Lib.hid (Below.refl ((w.alloc (.cells #[.int .i64 0, .int .i64 0, .string ⟨#[]⟩] 34)).alloc (.cells #[.int .i64 0, .int .i64 0, .string ⟨#[]⟩] 34)).heap.size ((w.alloc (.cells #[.int .i64 0, .int .i64 0, .string ⟨#[]⟩] 34)).alloc (.cells #[.int .i64 0, .int .i64 0, .string ⟨#[]⟩] 34)))
  go_enter Tryd.func83, Tryd.ntmps83
  go_wp2_with fail
  go_region_law (go_simp; first | (go_at_call 57; ((with_reducible refine (rtruth_any _ _ _ _).mono ?_); rintro e w1 ⟨rfl, hb1⟩; have HB := Lib.hid (show Below ((w.alloc (.cells #[.int .i64 0, .int .i64 0, .string ⟨#[]⟩] 34)).alloc (.cells #[.int .i64 0, .int .i64 0, .string ⟨#[]⟩] 34)).heap.size ((w.alloc (.cells #[.int .i64 0, .int .i64 0, .string ⟨#[]⟩] 34)).alloc (.cells #[.int .i64 0, .int .i64 0, .string ⟨#[]⟩] 34)) w1 by first | exact bt HB.out hb1 | exact bt HB.out.drew hb1 | exact bt HB.out.drew.drew hb1); obtain ⟨hc, hf⟩ := bcell HB.out)) | (go_at_call 101; ((with_reducible refine (HR.out _).mono ?_); rintro e w3 ⟨k1, m1, s1, hv, rfl, hb1⟩; have HB := Lib.hid (show Below ((w.alloc (.cells #[.int .i64 0, .int .i64 0, .string ⟨#[]⟩] 34)).alloc (.cells #[.int .i64 0, .int .i64 0, .string ⟨#[]⟩] 34)).heap.size ((w.alloc (.cells #[.int .i64 0, .int .i64 0, .string ⟨#[]⟩] 34)).alloc (.cells #[.int .i64 0, .int .i64 0, .string ⟨#[]⟩] 34)) w3 by first | exact bt HB.out hb1 | exact bt HB.out.drew hb1 | exact bt HB.out.drew.drew hb1); obtain ⟨hc, hf⟩ := bcell HB.out)))
  all_goals
    go_wp2_with fail
    refine bodyPost_ret (by simp [results, Tryd.results83, go_sem, hc, hw2]; rfl) rfl ?_
    exact GivesV.mk hv.out (bl3 (bt (al2 _ _ _) HB.out) (Nat.le_refl _))
theorem rapply_three15 (b off cap : Nat) (k n : Int) (s : ByteArray) (k' n' : Int) (s' : ByteArray) (w : World) (hA : At1 w b off k n s) (hB : At1 w b (off + 3) k' n' s') :
    Calls Tryd.prog 83 #[.int .i64 15, .slice (some ⟨b, off, none⟩) 2 cap] w (GivesV (threeV 15 (truthV ⟨k, n, s⟩) (truthV ⟨k', n', s'⟩)) w) := by
  have hR := fun w => rthree_any 15 _ _ (by decide) (truthV_cases ⟨k, n, s⟩) (truthV_cases ⟨k', n', s'⟩) w
  have HR := Lib.hid hR
  clear hR
  obtain ⟨hq, _⟩ := bcell (al2 w (.cells #[.int .i64 0, .int .i64 0, .string ⟨#[]⟩] 34) (.cells #[.int .i64 0, .int .i64 0, .string ⟨#[]⟩] 34))
  obtain ⟨c0, c1, c2⟩ := hA
  obtain ⟨d0, d1, d2⟩ := hB
  have hbl : b < w.heap.size := World.block_lt_of_cell? w _ c0
  have hb2 : b < w.heap.size + 1 + 1 := by omega
  have hw2 : w.heap.size < w.heap.size + 1 + 1 := by omega
  have HB := Lib.hid (Below.refl ((w.alloc (.cells #[.int .i64 0, .int .i64 0, .string ⟨#[]⟩] 34)).alloc (.cells #[.int .i64 0, .int .i64 0, .string ⟨#[]⟩] 34)).heap.size ((w.alloc (.cells #[.int .i64 0, .int .i64 0, .string ⟨#[]⟩] 34)).alloc (.cells #[.int .i64 0, .int .i64 0, .string ⟨#[]⟩] 34)))
  go_enter Tryd.func83, Tryd.ntmps83
  go_wp2_with fail
  go_region_law (go_simp; first | (go_at_call 57; ((with_reducible refine (rtruth_any _ _ _ _).mono ?_); rintro e w1 ⟨rfl, hb1⟩; have HB := Lib.hid (show Below ((w.alloc (.cells #[.int .i64 0, .int .i64 0, .string ⟨#[]⟩] 34)).alloc (.cells #[.int .i64 0, .int .i64 0, .string ⟨#[]⟩] 34)).heap.size ((w.alloc (.cells #[.int .i64 0, .int .i64 0, .string ⟨#[]⟩] 34)).alloc (.cells #[.int .i64 0, .int .i64 0, .string ⟨#[]⟩] 34)) w1 by first | exact bt HB.out hb1 | exact bt HB.out.drew hb1 | exact bt HB.out.drew.drew hb1); obtain ⟨hc, hf⟩ := bcell HB.out)) | (go_at_call 101; ((with_reducible refine (HR.out _).mono ?_); rintro e w3 ⟨k1, m1, s1, hv, rfl, hb1⟩; have HB := Lib.hid (show Below ((w.alloc (.cells #[.int .i64 0, .int .i64 0, .string ⟨#[]⟩] 34)).alloc (.cells #[.int .i64 0, .int .i64 0, .string ⟨#[]⟩] 34)).heap.size ((w.alloc (.cells #[.int .i64 0, .int .i64 0, .string ⟨#[]⟩] 34)).alloc (.cells #[.int .i64 0, .int .i64 0, .string ⟨#[]⟩] 34)) w3 by first | exact bt HB.out hb1 | exact bt HB.out.drew hb1 | exact bt HB.out.drew.drew hb1); obtain ⟨hc, hf⟩ := bcell HB.out)))
  all_goals
    go_wp2_with fail
    refine bodyPost_ret (by simp [results, Tryd.results83, go_sem, hc, hw2]; rfl) rfl ?_
    exact GivesV.mk hv.out (bl3 (bt (al2 _ _ _) HB.out) (Nat.le_refl _))
theorem rapply_three (op : Int) (ho : op = 14 ∨ op = 15) (b off cap : Nat) (k n : Int) (s : ByteArray) (k' n' : Int) (s' : ByteArray) (w : World) (hA : At1 w b off k n s) (hB : At1 w b (off + 3) k' n' s') :
    Calls Tryd.prog 83 #[.int .i64 op, .slice (some ⟨b, off, none⟩) 2 cap] w (GivesV (threeV op (truthV ⟨k, n, s⟩) (truthV ⟨k', n', s'⟩)) w) := by
  rcases ho with rfl | rfl
  · exact rapply_three14 b off cap k n s k' n' s' w hA hB
  · exact rapply_three15 b off cap k n s k' n' s' w hA hB
end Go.Proofs.YtmikeifkmjhioaaDoor
/- Apply of the reference: if, and the operators that give null for a null operand. -/
namespace Go.Proofs.YtmikeifkmjhioaaDoor
open Go.RowKit Go.Proofs.EB
set_option maxHeartbeats 4000000
set_option maxRecDepth 100000
attribute [local go_sem] World.cell?_alloc_some
theorem AtV.below {w w' : World} {b off : Nat} {v : V} (h : AtV w b off v) (hb : Below w.heap.size w w') : AtV w' b off v := by
  have hl : b < w.heap.size := World.block_lt_of_cell? w _ h.1
  exact ⟨(hb.cell (p := ⟨b, off, none⟩) hl).trans h.1, (hb.cell (p := ⟨b, off + 1, none⟩) hl).trans h.2.1, (hb.cell (p := ⟨b, off + 2, none⟩) hl).trans h.2.2⟩
theorem rapply_if (b off cap : Nat) (k n : Int) (s : ByteArray) (k' n' : Int) (s' : ByteArray) (k2 n2 : Int) (s2 : ByteArray) (w : World) (hA : At1 w b off k n s) (hB : At1 w b (off + 3) k' n' s') (hC : At1 w b (off + 6) k2 n2 s2) :
    Calls Tryd.prog 83 #[.int .i64 18, .slice (some ⟨b, off, none⟩) 3 cap] w (GivesV (if truthV ⟨k, n, s⟩ = 1 then ⟨k', n', s'⟩ else ⟨k2, n2, s2⟩) w) := by
  have hT := fun w => rtruth_any k n s w
  generalize truthV ⟨k, n, s⟩ = t at *
  have HT := Lib.hid hT
  clear hT
  obtain ⟨c0, c1, c2⟩ := hA
  obtain ⟨d0, d1, d2⟩ := hB
  obtain ⟨e0, e1, e2⟩ := hC
  obtain ⟨hq, _⟩ := bcell (al2 w (.cells #[.int .i64 0, .int .i64 0, .string ⟨#[]⟩] 34) (.cells #[.int .i64 0, .int .i64 0, .string ⟨#[]⟩] 34))
  have hbl : b < w.heap.size := World.block_lt_of_cell? w _ c0
  have hb2 : b < w.heap.size + 1 + 1 := by omega
  have hw2 : w.heap.size < w.heap.size + 1 + 1 := by omega
  by_cases ht : t = 1
  · rw [if_pos ht]
    have y : (t == 1) = true := by simpa using ht
    clear ht
    go_enter Tryd.func83, Tryd.ntmps83
    go_wp2_with fail
    refine (HT.out _).mono ?_
    rintro e w1 ⟨rfl, hb1⟩
    obtain ⟨hc, hf⟩ := bcell hb1
    go_wp2_with fail
    refine bodyPost_ret (by simp [results, Tryd.results83, go_sem, hc, hw2]; rfl) rfl ?_
    exact GivesV.mk rfl (bl3 (bt (al2 _ _ _) hb1) (Nat.le_refl _))
  · rw [if_neg ht]
    have y : (t == 1) = false := by simpa using ht
    clear ht
    go_enter Tryd.func83, Tryd.ntmps83
    go_wp2_with fail
    refine (HT.out _).mono ?_
    rintro e w1 ⟨rfl, hb1⟩
    obtain ⟨hc, hf⟩ := bcell hb1
    go_wp2_with fail
    refine bodyPost_ret (by simp [results, Tryd.results83, go_sem, hc, hw2]; rfl) rfl ?_
    exact GivesV.mk rfl (bl3 (bt (al2 _ _ _) hb1) (Nat.le_refl _))
theorem rapply_s1 (op : Int) (b off cap : Nat) (v : V) (w : World) (hA : AtV w b off v) (hv : Small v) (ho : op = 3 ∨ op = 13 ∨ op = 9) :
    Calls Tryd.prog 83 #[.int .i64 op, .slice (some ⟨b, off, none⟩) 1 cap] w (GivesV (if nullB v = true then V.zero else strictV cmpV op [v]) w) := by
  obtain ⟨k, n, s⟩ := v
  have hS := fun w hA => rstrict1_any op b off cap ⟨k, n, s⟩ w hA hv ho
  have y14 : (op == 14) = false := by rcases ho with rfl | rfl | rfl <;> rfl
  have y15 : (op == 15) = false := by rcases ho with rfl | rfl | rfl <;> rfl
  have y16 : (op == 16) = false := by rcases ho with rfl | rfl | rfl <;> rfl
  have y17 : (op == 17) = false := by rcases ho with rfl | rfl | rfl <;> rfl
  have y18 : (op == 18) = false := by rcases ho with rfl | rfl | rfl <;> rfl
  have heq := fun w => eqlV k n 0 0 s ⟨#[]⟩ w
  have hz : (k == 0 && (n == 0 && s.toList.isEmpty)) = nullB ⟨k, n, s⟩ := by simp [nullB, zeroB, Bool.and_assoc]
  rw [← hz]
  generalize strictV cmpV op [⟨k, n, s⟩] = r at *
  have HS := Lib.hid hS
  have HA := Lib.hid hA
  clear hS hv ho hz
  obtain ⟨c0, c1, c2⟩ := hA
  simp only at c0 c1 c2
  obtain ⟨hq, _⟩ := bcell (al2 w (.cells #[.int .i64 0, .int .i64 0, .string ⟨#[]⟩] 34) (.cells #[.int .i64 0, .int .i64 0, .string ⟨#[]⟩] 34))
  have hbl : b < w.heap.size := World.block_lt_of_cell? w _ c0
  have hb2 : b < w.heap.size + 1 + 1 := by omega
  have hw2 : w.heap.size < w.heap.size + 1 + 1 := by omega
  cases hn : (k == 0 && (n == 0 && s.toList.isEmpty))
  · go_enter Tryd.func83, Tryd.ntmps83
    go_wp2_with fail
    refine wp_loop_rounds 2 ?_
    rw [rounds_succ]
    go_wp2_with fail
    go_region
    go_wp2_with fail
    rw [rounds_succ]
    go_wp2_with fail
    refine (HS.out _ (HA.out.below (al2 _ _ _).drew)).mono ?_
    rintro e w1 ⟨k1, m1, s1, hv, rfl, hb1⟩
    obtain ⟨hc, hf⟩ := bcell hb1
    go_wp2_with fail
    refine bodyPost_ret (by simp [results, Tryd.results83, go_sem, hc, hw2]; rfl) rfl ?_
    exact GivesV.mk hv.out (bl3 (bt (al2 _ _ _).drew hb1) (Nat.le_refl _))
  · go_enter Tryd.func83, Tryd.ntmps83
    go_wp2_with fail
    refine wp_loop_rounds 2 ?_
    rw [rounds_succ]
    go_wp2_with fail
    go_region
    go_wp2_with fail
    refine bodyPost_ret (by simp [results, Tryd.results83, go_sem]; rfl) rfl ?_
    exact GivesV.mk rfl (al2 _ _ _).drew
theorem rapply_s2 (op : Int) (b off cap : Nat) (u v : V) (w : World) (hA : AtV w b off u) (hB : AtV w b (off + 3) v) (hu : Small u) (hv : Small v) (ho : op = 4 ∨ op = 5 ∨ op = 6 ∨ op = 7 ∨ op = 8 ∨ op = 10 ∨ op = 11 ∨ op = 12) :
    Calls Tryd.prog 83 #[.int .i64 op, .slice (some ⟨b, off, none⟩) 2 cap] w (GivesV (if nullB u = true ∨ nullB v = true then V.zero else strictV cmpV op [u, v]) w) := by
  obtain ⟨k, n, s⟩ := u
  obtain ⟨k', n', s'⟩ := v
  have hS := fun w hA hB => rstrict2_any op b off cap ⟨k, n, s⟩ ⟨k', n', s'⟩ w hA hB hu hv ho
  have y14 : (op == 14) = false := by rcases ho with rfl | rfl | rfl | rfl | rfl | rfl | rfl | rfl <;> rfl
  have y15 : (op == 15) = false := by rcases ho with rfl | rfl | rfl | rfl | rfl | rfl | rfl | rfl <;> rfl
  have y16 : (op == 16) = false := by rcases ho with rfl | rfl | rfl | rfl | rfl | rfl | rfl | rfl <;> rfl
  have y17 : (op == 17) = false := by rcases ho with rfl | rfl | rfl | rfl | rfl | rfl | rfl | rfl <;> rfl
  have y18 : (op == 18) = false := by rcases ho with rfl | rfl | rfl | rfl | rfl | rfl | rfl | rfl <;> rfl
  have heq := fun w => eqlV k n 0 0 s ⟨#[]⟩ w
  have heq' := fun w => eqlV k' n' 0 0 s' ⟨#[]⟩ w
  have hz : (k == 0 && (n == 0 && s.toList.isEmpty)) = nullB ⟨k, n, s⟩ := by simp [nullB, zeroB, Bool.and_assoc]
  have hz' : (k' == 0 && (n' == 0 && s'.toList.isEmpty)) = nullB ⟨k', n', s'⟩ := by simp [nullB, zeroB, Bool.and_assoc]
  rw [← hz, ← hz']
  generalize strictV cmpV op [⟨k, n, s⟩, ⟨k', n', s'⟩] = r at *
  have HS := Lib.hid hS
  have HA := Lib.hid hA
  have HB := Lib.hid hB
  clear hS hu hv ho hz hz'
  obtain ⟨c0, c1, c2⟩ := hA
  obtain ⟨d0, d1, d2⟩ := hB
  simp only at c0 c1 c2 d0 d1 d2
  obtain ⟨hq, _⟩ := bcell (al2 w (.cells #[.int .i64 0, .int .i64 0, .string ⟨#[]⟩] 34) (.cells #[.int .i64 0, .int .i64 0, .string ⟨#[]⟩] 34))
  have hbl : b < w.heap.size := World.block_lt_of_cell? w _ c0
  have hb2 : b < w.heap.size + 1 + 1 := by omega
  have hw2 : w.heap.size < w.heap.size + 1 + 1 := by omega
  cases hn : (k == 0 && (n == 0 && s.toList.isEmpty))
  · cases hn' : (k' == 0 && (n' == 0 && s'.toList.isEmpty))
    · go_enter Tryd.func83, Tryd.ntmps83
      go_wp2_with fail
      refine wp_loop_rounds 3 ?_
      rw [rounds_succ]
      go_wp2_with fail
      go_region
      go_wp2_with fail
      rw [rounds_succ]
      go_wp2_with fail
      go_region
      go_wp2_with fail
      rw [rounds_succ]
      go_wp2_with fail
      refine (HS.out _ (HA.out.below (al2 _ _ _).drew.drew) (HB.out.below (al2 _ _ _).drew.drew)).mono ?_
      rintro e w1 ⟨k1, m1, s1, hv, rfl, hb1⟩
      obtain ⟨hc, hf⟩ := bcell hb1
      go_wp2_with fail
      refine bodyPost_ret (by simp [results, Tryd.results83, go_sem, hc, hw2]; rfl) rfl ?_
      exact GivesV.mk hv.out (bl3 (bt (al2 _ _ _).drew.drew hb1) (Nat.le_refl _))
    · go_enter Tryd.func83, Tryd.ntmps83
      go_wp2_with fail
      refine wp_loop_rounds 3 ?_
      rw [rounds_succ]
      go_wp2_with fail
      go_region
      go_wp2_with fail
      rw [rounds_succ]
      go_wp2_with fail
      go_region
      go_wp2_with fail
      refine bodyPost_ret (by simp [results, Tryd.results83, go_sem]; rfl) rfl ?_
      exact GivesV.mk rfl (al2 _ _ _).drew.drew
  · rw [if_pos (.inl rfl)]
    go_enter Tryd.func83, Tryd.ntmps83
    go_wp2_with fail
    refine wp_loop_rounds 3 ?_
    rw [rounds_succ]
    go_wp2_with fail
    go_region
    go_wp2_with fail
    refine bodyPost_ret (by simp [results, Tryd.results83, go_sem]; rfl) rfl ?_
    exact GivesV.mk rfl (al2 _ _ _).drew
end Go.Proofs.YtmikeifkmjhioaaDoor
/- Apply of the reference for any operands; eval, Eval and Holds of the reference. -/
namespace Go.Proofs.YtmikeifkmjhioaaDoor
open Go.RowKit Go.Proofs.EB
set_option maxHeartbeats 4000000
set_option maxRecDepth 100000
attribute [local go_sem] World.cell?_alloc_some
theorem small_of {v : V} (h : vB v = true) : Small v := by
  obtain ⟨k, n, s⟩ := v
  refine ⟨?_, ?_⟩
  · rintro hk
    simp only at hk
    subst hk
    exact (valid_int h).1
  · show s.size ≤ _
    rcases valid_kind h with rfl | rfl | rfl
    · rw [(valid_null h).2]; simp [ByteArray.size]
    · rw [(valid_int h).2]; simp [ByteArray.size]
    · have := (valid_text h).2; omega
theorem RAt.atV {w : World} {B b off : Nat} {l : List V} (h : RAt encVal 3 w B (some ⟨b, off, none⟩) l) {i : Nat} (hi : i < l.length) : AtV w b (off + i * 3) l[i] := RAt.val h hi
theorem rapply_any (op : Int) (ao : Option Addr) (cap : Nat) (vs : List V) (hl : arityI op = vs.length) (h0 : 0 < vs.length) (hv : ∀ v ∈ vs, vB v = true) (w : World) (hR : RAt encVal 3 w w.heap.size ao vs) :
    Calls Tryd.prog 83 #[.int .i64 op, .slice ao vs.length cap] w (GivesV (appV cmpV op vs) w) := by
  obtain ⟨b, off, rfl, _⟩ := hR.form h0
  have h3 := arity_cases op
  rcases vs with _ | ⟨u, _ | ⟨v, _ | ⟨x, _ | ⟨y, l⟩⟩⟩⟩
  · simp at h0
  · have hA := RAt.atV hR (i := 0) (by simp)
    have hu := hv u (by simp)
    simp only [Nat.zero_mul, Nat.add_zero, List.getElem_cons_zero] at hA
    have ho : op = 3 ∨ op = 9 ∨ op = 13 ∨ op = 16 := by
      simp only [List.length_cons, List.length_nil] at hl
      unfold arityI at hl
      by_cases h : op = 3 ∨ op = 9 ∨ op = 13 ∨ op = 16
      · exact h
      · rw [if_neg h] at hl
        repeat' split at hl
        all_goals omega
    by_cases h16 : op = 16
    · subst h16
      have := rapply_isnull b off cap u.k u.n u.s w hA
      simpa [appV] using this
    · have := rapply_s1 op b off cap u w hA (small_of hu) (by omega)
      simpa [appV, h16] using this
  · have hA := RAt.atV hR (i := 0) (by simp)
    have hB := RAt.atV hR (i := 1) (by simp)
    have hu := hv u (by simp)
    have hv' := hv v (by simp)
    simp only [Nat.zero_mul, Nat.add_zero, Nat.one_mul, List.getElem_cons_zero, List.getElem_cons_succ] at hA hB
    have ho : op = 4 ∨ op = 5 ∨ op = 6 ∨ op = 7 ∨ op = 8 ∨ op = 10 ∨ op = 11 ∨ op = 12 ∨ op = 14 ∨ op = 15 ∨ op = 17 := by
      have hin := arity_in (op := op) (by rw [hl]; simp)
      simp only [List.length_cons, List.length_nil] at hl
      unfold arityI at hl
      by_cases h1 : op = 1 ∨ op = 2
      · rw [if_pos h1] at hl; omega
      · rw [if_neg h1] at hl
        by_cases h2 : op = 3 ∨ op = 9 ∨ op = 13 ∨ op = 16
        · rw [if_pos h2] at hl; omega
        · rw [if_neg h2] at hl
          by_cases h4 : op = 18
          · rw [if_pos h4] at hl; omega
          · omega
    by_cases h1 : op = 14 ∨ op = 15
    · have := rapply_three op h1 b off cap u.k u.n u.s v.k v.n v.s w hA hB
      simpa [appV, h1] using this
    · by_cases h17 : op = 17
      · subst h17
        have := rapply_coal b off cap u.k u.n u.s v.k v.n v.s w hA hB
        simpa [appV] using this
      · have := rapply_s2 op b off cap u v w hA hB (small_of hu) (small_of hv') (by omega)
        simpa [appV, h1, h17] using this
  · have hA := RAt.atV hR (i := 0) (by simp)
    have hB := RAt.atV hR (i := 1) (by simp)
    have hC := RAt.atV hR (i := 2) (by simp)
    simp only [Nat.zero_mul, Nat.add_zero, Nat.one_mul, List.getElem_cons_zero, List.getElem_cons_succ] at hA hB hC
    have ho : op = 18 := by
      simp only [List.length_cons, List.length_nil] at hl
      unfold arityI at hl
      repeat' split at hl
      all_goals omega
    subst ho
    have := rapply_if b off cap u.k u.n u.s v.k v.n v.s x.k x.n x.s w hA hB hC
    simpa [appV] using this
  · simp only [List.length_cons] at hl; omega
/-- The row that eval is handed. -/
structure RowOk (w : World) (ro : Option Addr) (row : List V) : Prop where
  at_ : RAt encVal 3 w w.heap.size ro row
  small : ∀ v ∈ row, v.s.size ≤ maxLen
  len : row.length ≤ maxLen
theorem RowOk.later {w w' : World} {ro : Option Addr} {row : List V} (h : RowOk w ro row) (hb : Below w.heap.size w w') : RowOk w' ro row := ⟨h.at_.later hb, h.small, h.len⟩
theorem reval_any (ro : Option Addr) (rcap : Nat) (row : List V) : ∀ x : Ex, x.ok → x.depth ≤ 16 → ∀ (ao : Option Addr) (cap : Nat) (l : List Tm), Hid (l = x.flat) → l.length ≤ 64 → l.length ≤ cap → (∀ t ∈ l, t.okT) → ∀ w : World, TmsAt w w.heap.size ao l → RowOk w ro row →
    Calls Tryd.prog 55 #[.slice ao l.length cap, .slice ro row.length rcap] w (GivesV (x.fold (evT cmpV row)) w) := by
  intro x
  induction x using Ex.ind with
  | h x ih =>
    intro hxo hxd ao cap l hl h64 hcap hok w hT hR
    have hpos : 0 < l.length := by rw [hl.out]; exact x.flat_pos
    obtain ⟨b, off, rfl, _⟩ := hT.form hpos
    obtain ⟨c0, c1, c2, c3, c4⟩ := RAt.tm hT hpos
    have h0 : l[0] = x.head := by
      have h1 : l = x.head :: flats x.args := hl.out.trans (Ex.flat_eq x)
      subst h1; rfl
    rw [h0] at c0 c1 c2 c3 c4
    simp only [Nat.zero_mul, Nat.add_zero] at c0 c1 c2 c3 c4
    obtain ⟨hx1, hx2, hx3⟩ := (Ex.ok_iff x).1 hxo
    have hfe := Ex.fold_eq (evT cmpV row) x
    have hbl : b < w.heap.size := World.block_lt_of_cell? w _ c0
    obtain ⟨hq, _⟩ := bcell (al1 w (.cells #[.int .i64 0, .int .i64 0, .string ⟨#[]⟩] 34))
    by_cases h1 : x.head.op = 1
    · have he : Hid (x.fold (evT cmpV row) = ⟨x.head.v.k, x.head.v.n, x.head.v.s⟩) := by unfold Hid; rw [hfe]; simp [evT, h1]
      rw [h1] at c0
      generalize x.head.v.k = k at *
      generalize x.head.v.n = n at *
      generalize x.head.v.s = s at *
      clear hT hR hok hl ih hfe hx1 hx2 hx3 hxo hxd h0 h1 c4
      go_enter Tryd.func55, Tryd.ntmps55
      go_wp2_with fail
      refine bodyPost_ret (by simp [results, Tryd.results55, go_sem]; rfl) rfl ?_
      exact GivesV.mk he.out (al1 _ _)
    · have y1 : (x.head.op == 1) = false := by simpa using h1
      by_cases h2 : x.head.op = 2
      · have he : Hid (x.fold (evT cmpV row) = colV row x.head.c) := by unfold Hid; rw [hfe]; simp [evT, h2]
        have htc : 0 ≤ x.head.c := by
          unfold termB fieldsB at hx1
          rw [if_neg h1, if_pos h2] at hx1
          simp at hx1; exact hx1.2.2
        rw [h2] at c0
        obtain ⟨m, hm⟩ : ∃ m : Nat, x.head.c = m := ⟨x.head.c.toNat, by omega⟩
        rw [hm] at c4 he
        have hlen := hR.len
        unfold maxLen at hlen
        by_cases hlt : m < row.length
        · obtain ⟨b2, off2, rfl, _⟩ := hR.at_.form (by omega)
          obtain ⟨d0, d1, d2⟩ := RAt.val hR.at_ hlt
          have hsz := hR.small _ (List.getElem_mem hlt)
          have hbl2 : b2 < w.heap.size := World.block_lt_of_cell? w _ d0
          have e2 : colV row m = cleanV ⟨row[m].k, row[m].n, row[m].s⟩ := by unfold colV; simp [List.getElem?_eq_getElem hlt]
          rw [e2] at he
          generalize row[m].k = xk at *
          generalize row[m].n = xn at *
          generalize row[m].s = xs at *
          have Hsz := Lib.hid hsz
          clear hT hR hok hl ih hfe hx1 hx2 hx3 hxo hxd h0 h1 h2 c1 c2 c3 y1 htc hm e2 hsz
          go_enter Tryd.func55, Tryd.ntmps55
          go_wp2_with fail
          refine (rclean_any _ _ _ _ Hsz.out).mono ?_
          rintro e w1 ⟨k1, n1, s1, rfl, hcl, hb1⟩
          have Hcl := Lib.hid hcl
          obtain ⟨hc, hf⟩ := bcell hb1
          clear hcl
          go_wp2_with fail
          refine bodyPost_ret (by simp [results, Tryd.results55, go_sem, hc]; rfl) rfl ?_
          exact GivesV.mk (he.out.trans Hcl.out.symm) (bl3 (bt (al1 _ _) hb1) (Nat.le_refl _))
        · have e2 : colV row m = V.zero := by unfold colV; simp [List.getElem?_eq_none (show row.length ≤ m by omega)]
          rw [e2] at he
          clear hT hR hok hl ih hfe hx1 hx2 hx3 hxo hxd h0 h1 h2 c1 c2 c3 y1 htc hm e2
          go_enter Tryd.func55, Tryd.ntmps55
          go_wp2_with fail
          refine bodyPost_ret (by simp [results, Tryd.results55, go_sem]; rfl) rfl ?_
          exact GivesV.mk he.out (al1 _ _)
      · have y2 : (x.head.op == 2) = false := by simpa using h2
        have he : Hid (x.fold (evT cmpV row) = appV cmpV x.head.op (x.args.map (Ex.fold (evT cmpV row)))) := by unfold Hid; rw [hfe]; simp [evT, h1, h2]
        have hO := fun w hT => roperands_any (some ⟨b, off, none⟩) cap l x ⟨⟨by rw [List.append_nil]; exact hl.out, hxo⟩, by omega⟩ h64 hcap hok w hT
        have hap : 0 < x.args.length := by
          rcases Nat.eq_zero_or_pos x.args.length with h | h
          · rcases arity0 (op := x.head.op) (by rw [hx2, h]; rfl) with h' | h' <;> omega
          · exact h
        have hap3 := x.args_le
        have IH := Lib.hid ih
        have HO := Lib.hid hO
        have HT := Lib.hid hT
        have HR := Lib.hid hR
        have Hx2 := Lib.hid hx2
        have Hsub := Lib.hid (show ∀ a ∈ x.args, a.ok ∧ a.depth ≤ 16 ∧ a.flat.length ≤ 64 ∧ ∀ t ∈ a.flat, t.okT by
          intro a ha
          have h3 := le_depths ha
          rw [Ex.depth_eq] at hxd
          have h4 : ∀ t ∈ a.flat, t ∈ l := by
            intro t ht
            rw [hl.out, Ex.flat_eq]
            refine List.mem_cons_of_mem _ ?_
            exact flats_mem ha ht
          have h5 : a.flat.length ≤ l.length := by
            rw [hl.out, Ex.flat_eq x]
            have := flats_mem_len ha
            simp only [List.length_cons]; omega
          exact ⟨hx3 a ha, by omega, by omega, fun t ht => hok t (h4 t ht)⟩)
        generalize x.head.op = op at *
        clear hT hR hok hl ih hO hfe hx1 hx2 hx3 hxo hxd h0 h1 h2 c1 c2 c3 c4
        go_enter Tryd.func55, Tryd.ntmps55
        go_wp2_with fail
        refine (HO.out _ (HT.out.later (al1 _ _))).mono ?_
        rintro e w1 ⟨io, icap, its, rfl, hits, hI, hb1⟩
        have hil : its.length = x.args.length := by have := congrArg List.length hits.out.1; simpa using this
        have HI := Lib.hid hI
        have HL := Lib.hid hb1
        have HB := Lib.hid (bt (al1 _ _) hb1)
        have hw1s : w.heap.size < w1.heap.size := by have := hb1.size; simp at this; omega
        have hil1 : its.length ≤ 3 := by omega
        have hil0 : 0 < its.length := by omega
        have Hil := Lib.hid hil
        clear hb1 hI hil
        go_wp2_with fail
        go_loopw [5, 7] (fun v i wr => ∃ (k : Nat) (vs : List V) (ad : Option Addr) (cp : Nat), i = .int .i64 k ∧ v = .slice ad vs.length cp ∧ k ≤ its.length ∧ vs.length ≤ 3 ∧ Hid (vs = (x.args.take k).map (Ex.fold (evT cmpV row))) ∧ Hid (OwnsR encVal 3 wr w1.heap.size 34 (.slice ad vs.length cp) vs) ∧ Hid (Below w1.heap.size w1 wr)) (fun _ i _ => its.length - (intOf i).toNat)
        case atStart => exact ⟨0, [], none, 0, rfl, rfl, by omega, by simp, by simp [Hid], OwnsR.nil, Below.refl _ _⟩
        case round =>
          obtain ⟨k, vs, ad, cp, rfl, rfl, hk, hvl, hV, hown, hB⟩ := hrel
          have hsz := hB.out.size
          by_cases hlt : k < its.length
          · obtain ⟨bi, oi, rfl, _⟩ := HI.out.row.form hil0
            have d0 := (HI.out.later hB.out).at hlt
            have hka : k < x.args.length := by have := Hil.out; omega
            have hs1 : its[k].l = (x.args[k]).flat := by
              have h1 := congrArg (fun z => z[k]?) hits.out.1
              simpa [List.getElem?_map, List.getElem?_eq_getElem hlt, List.getElem?_eq_getElem hka] using h1
            have hmem := List.getElem_mem hka
            obtain ⟨g1, g2, g3, g4⟩ := Hsub.out _ hmem
            have hE := IH.out x.args[k] hmem g1 g2 its[k].ao its[k].cap its[k].l hs1 (by rw [hs1]; exact g3) (hits.out.2 _ (List.getElem_mem hlt)) (by rw [hs1]; exact g4) wr ((HI.out.each _ (List.getElem_mem hlt)).later hB.out) (HR.out.later (bt HB.out hB.out))
            have htk : x.args.take (k + 1) = x.args.take k ++ [x.args[k]] := by rw [List.take_succ_eq_append_getElem hka]
            have Htk := Lib.hid htk
            have HE := Lib.hid hE
            have hbl' : bi < wr.heap.size := World.block_lt_of_cell? wr _ d0
            clear hE htk hs1 hmem g1 g2 g3 g4
            generalize its[k] = s at *
            generalize x.args[k] = xk at *
            go_wp2_with fail
            refine HE.out.mono ?_
            rintro e w9 ⟨vk, vn, vss, hv, rfl, hb⟩
            have hown9 := OwnsR.below hown.out hb
            have HB9 := Lib.hid (bt hB.out hb)
            have hsz9 : w1.heap.size ≤ w9.heap.size := HB9.out.size
            clear hb hown
            go_wp2_with (at_builtin; refine wpList_appR (enc := encVal) (m := 3) Tryd.underlying43 infoV rfl (by decide) encVal_len encVal_one _ w9 rfl (.tmp 44) (.tmp 51) rfl w1.heap.size _ vs rfl hown9 [⟨vk, vn, vss⟩] 1 1 #[.int .i64 vk, .int .i64 vn, .string vss] rfl rfl rfl rfl rfl rfl rfl (by decide) (by omega) (by unfold maxLen; omega) hsz9 ?_; intro v3 g3 cap3 w10 hv3 hown10 haw10 hb10 hat10 hlt10)
            refine ⟨⟨k + 1, v3, _, _, by go_num, rfl, by omega, ?_, ?_, hown10, HB9.out.trans hb10⟩, by simp [intOf]; omega⟩
            · rw [hv3.out]
              have h1 := congrArg List.length hV.out
              simp at h1 ⊢
              omega
            · unfold Hid
              rw [hv3.out, Htk.out, List.map_append, ← hV.out, List.map_singleton, ← hv.out]
          · have hke : k = its.length := by omega
            subst hke
            obtain ⟨aoV, capV, heq, hrV, _, _, _, _⟩ := OwnsR.rAt encVal_len hown.out
            simp only [Value.slice.injEq, true_and] at heq
            obtain ⟨rfl, rfl⟩ := heq
            have hvs : vs = x.args.map (Ex.fold (evT cmpV row)) := by rw [hV.out, List.take_of_length_le (by have := Hil.out; omega)]
            have hvl2 : vs.length = x.args.length := by rw [hvs]; simp
            have hA := rapply_any op ad cp vs (by rw [Hx2.out, hvl2]) (by omega) (by
              intro v hv
              rw [hvs] at hv
              obtain ⟨a, ha, rfl⟩ := List.mem_map.1 hv
              exact foldV_valid row a (Hsub.out a ha).1) wr hrV
            have hres : appV cmpV op vs = x.fold (evT cmpV row) := by rw [hvs]; exact he.out.symm
            rw [hres] at hA
            have HA := Lib.hid hA
            have c0' : wr.cell? ⟨b, off, none⟩ = some (.int .i64 op) := ((bt HB.out hB.out).cell (p := ⟨b, off, none⟩) hbl).trans c0
            have HL2 := Lib.hid (bt HL.out hB.out)
            have HB2 := Lib.hid (bt HB.out hB.out)
            have hbw : b < wr.heap.size := World.block_lt_of_cell? wr _ c0'
            have hlp : (0 : Int) < (l.length : Int) := by omega
            clear hA hres hvs hvl2 hrV hown hlt c0 hq hV
            go_wp2_with fail
            refine HA.out.mono ?_
            rintro e w12 ⟨k1, m1, s1, hv, rfl, hb⟩
            obtain ⟨hc, hf⟩ := bcell (bt HL2.out hb)
            have HB3 := Lib.hid (bt HB2.out hb)
            clear hb
            go_wp2_with fail
            refine bodyPost_ret (by simp [results, Tryd.results55, go_sem, hc]; rfl) rfl ?_
            exact GivesV.mk hv.out (bl3 HB3.out (Nat.le_refl _))
/-- Eval of the reference. -/
theorem rexEval_any (ao ro : Option Addr) (cap rcap : Nat) (l : List Tm) (row : List V) (hl : l.length ≤ maxLen) (hcap : l.length ≤ cap) (hok : ∀ t ∈ l, t.okT) (w : World) (hT : TmsAt w w.heap.size ao l) (hR : RowOk w ro row) :
    Calls Tryd.prog 27 #[.slice ao l.length cap, .slice ro row.length rcap] w (GivesV (evalL cmpV l row) w) := by
  have hV := rexValid_any ao cap l hl hok _ (hT.later (al1 w (.cells #[.int .i64 0, .int .i64 0, .string ⟨#[]⟩] 34)))
  cases hvl : validL l
  · have hres : Hid (evalL cmpV l row = ⟨0, 0, ⟨#[]⟩⟩) := by unfold Hid evalL; rw [treeL_none hvl]; rfl
    rw [hvl] at hV
    have HV := Lib.hid hV
    clear hV hvl hok hT hR
    go_enter Tryd.func27, Tryd.ntmps27
    go_wp2_with fail
    refine HV.out.mono ?_
    rintro e w1 ⟨rfl, hb⟩
    obtain ⟨hc, hf⟩ := bcell hb
    go_wp2_with fail
    refine bodyPost_ret (by simp [results, Tryd.results27, go_sem, hc]; rfl) rfl ?_
    exact GivesV.mk hres.out (bl3 (bt (al1 _ _) hb) (by omega))
  · obtain ⟨x, hx, hH, hd, h64⟩ := validL_get hvl
    have hres : Hid (evalL cmpV l row = x.fold (evT cmpV row)) := by unfold Hid evalL; rw [hx]; exact evalX_fold cmpV row x hH.2
    have hE := fun w hT hR => reval_any ro rcap row x hH.2 hd ao cap l (by have := hH.1; rwa [List.append_nil] at this) h64 hcap hok w hT hR
    rw [hvl] at hV
    have HV := Lib.hid hV
    have HE := Lib.hid hE
    have HT := Lib.hid hT
    have HR := Lib.hid hR
    clear hV hE hT hR hvl hok hx hH hd h64
    go_enter Tryd.func27, Tryd.ntmps27
    go_wp2_with fail
    refine HV.out.mono ?_
    rintro e w1 ⟨rfl, hb⟩
    have HB := Lib.hid (bt (al1 _ _) hb)
    have HL := Lib.hid hb
    clear hb
    go_wp2_with fail
    refine (HE.out _ (HT.out.later HB.out) (HR.out.later HB.out)).mono ?_
    rintro e w2 ⟨k1, m1, s1, hv, rfl, hb⟩
    have HB2 := Lib.hid (bt HB.out hb)
    obtain ⟨hc, hf⟩ := bcell (bt HL.out hb)
    clear hb
    go_wp2_with fail
    refine bodyPost_ret (by simp [results, Tryd.results27, go_sem, hc]; rfl) rfl ?_
    exact GivesV.mk (hres.out.trans hv.out) (bl3 HB2.out (by omega))
/-- Holds of the reference. -/
theorem rexHolds_any (ao ro : Option Addr) (cap rcap : Nat) (l : List Tm) (row : List V) (hl : l.length ≤ maxLen) (hcap : l.length ≤ cap) (hok : ∀ t ∈ l, t.okT) (w : World) (hT : TmsAt w w.heap.size ao l) (hR : RowOk w ro row) :
    Calls Tryd.prog 29 #[.slice ao l.length cap, .slice ro row.length rcap] w (Gives (.bool (truthV (evalL cmpV l row) == 1)) w) := by
  have HE := Lib.hid (rexEval_any ao ro cap rcap l row hl hcap hok w hT hR)
  clear hok hT hR
  go_enter Tryd.func29, Tryd.ntmps29
  go_wp2_with fail
  refine HE.out.mono ?_
  rintro e w1 ⟨k1, m1, s1, hv, rfl, hb⟩
  have HB := Lib.hid hb
  clear hb
  go_wp2_with fail
  refine (rtruth_any _ _ _ _).mono ?_
  rintro e w2 ⟨rfl, hb⟩
  have HB2 := Lib.hid (bt HB.out hb)
  clear hb
  go_wp2_with fail
  go_ret
  exact ⟨ret_b (by rw [hv.out]), HB2.out⟩
end Go.Proofs.YtmikeifkmjhioaaDoor
