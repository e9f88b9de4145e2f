/- strict of the reference: an operator whose operands are not null. -/
import Derived.Test.YtmikeifkmjhioaaGreatDoorZa
import Derived.Test.YtmikeifkmjhioaaGreatDoorVh
import Derived.Test.YtmikeifkmjhioaaGreatDoorXb
namespace Go.Proofs.YtmikeifkmjhioaaGreatDoor
open Go.RowKit Go.Proofs.EB
set_option maxHeartbeats 4000000
set_option maxRecDepth 100000
attribute [local go_sem] World.cell?_alloc_some

/-- One value, or two, at the head of a row. -/
def At1 (w : World) (b off : Nat) (k n : Int) (s : ByteArray) : Prop := w.cell? ⟨b, off, none⟩ = some (.int .i64 k) ∧ w.cell? ⟨b, off + 1, none⟩ = some (.int .i64 n) ∧ w.cell? ⟨b, off + 2, none⟩ = some (.string s)
theorem At1.lt {w : World} {b off : Nat} {k n : Int} {s : ByteArray} (h : At1 w b off k n s) : b < w.heap.size := World.block_lt_of_cell? w _ h.1
theorem rstrict_neg (b off cap : Nat) (k n : Int) (s : ByteArray) (w : World) (hA : At1 w b off k n s) (hn : k = 1 → -4294967296 ≤ n ∧ n ≤ 4294967296) :
    Calls Tryz.prog 103 #[.int .i64 3, .slice (some ⟨b, off, none⟩) 1 cap] w (GivesV (if k = 1 then intVV (-n) else V.zero) w) := by
  by_cases hk : k = 1
  · rw [if_pos hk]
    subst hk
    obtain ⟨hn1, hn2⟩ := hn rfl
    clear hn
    obtain ⟨c0, c1, c2⟩ := hA
    have hbl : b < w.heap.size := World.block_lt_of_cell? w _ c0
    obtain ⟨hq, _⟩ := bcell (al1 w (.cells #[.int .i64 0, .int .i64 0, .string ⟨#[]⟩] 31))
    go_enter Tryz.func103, Tryz.ntmps103
    go_wp2_with fail
    refine (rint_V _ _).mono ?_
    rintro e w1 ⟨k1, m1, s1, hv, rfl, hb1⟩
    obtain ⟨hc, hf⟩ := bcell hb1
    go_wp2_with fail
    refine bodyPost_ret (by simp [results, Tryz.results103, go_sem, hc]; rfl) rfl ?_
    exact GivesV.mk hv.out (bl3 (bt (al1 _ _) hb1) (Nat.le_refl _))
  · rw [if_neg hk]
    have y : (k == 1) = false := by simpa using hk
    clear hk
    obtain ⟨c0, c1, c2⟩ := hA
    have hbl : b < w.heap.size := World.block_lt_of_cell? w _ c0
    obtain ⟨hq, _⟩ := bcell (al1 w (.cells #[.int .i64 0, .int .i64 0, .string ⟨#[]⟩] 31))
    go_enter Tryz.func103, Tryz.ntmps103
    go_wp2_with fail
    refine bodyPost_ret (by simp [results, Tryz.results103, go_sem]; rfl) rfl ?_
    exact GivesV.mk rfl (al1 _ _)
theorem rstrict_not (b off cap : Nat) (k n : Int) (s : ByteArray) (w : World) (hA : At1 w b off k n s) :
    Calls Tryz.prog 103 #[.int .i64 13, .slice (some ⟨b, off, none⟩) 1 cap] w (GivesV (if k = 1 then bitV (n == 0) else V.zero) w) := by
  by_cases hk : k = 1
  · rw [if_pos hk]
    subst hk
    obtain ⟨c0, c1, c2⟩ := hA
    have hbl : b < w.heap.size := World.block_lt_of_cell? w _ c0
    obtain ⟨hq, _⟩ := bcell (al1 w (.cells #[.int .i64 0, .int .i64 0, .string ⟨#[]⟩] 31))
    go_enter Tryz.func103, Tryz.ntmps103
    go_wp2_with fail
    refine (rbit_V _ _).mono ?_
    rintro e w1 ⟨k1, m1, s1, hv, rfl, hb1⟩
    obtain ⟨hc, hf⟩ := bcell hb1
    go_wp2_with fail
    refine bodyPost_ret (by simp [results, Tryz.results103, go_sem, hc]; rfl) rfl ?_
    exact GivesV.mk hv.out (bl3 (bt (al1 _ _) hb1) (Nat.le_refl _))
  · rw [if_neg hk]
    have y : (k == 1) = false := by simpa using hk
    clear hk
    obtain ⟨c0, c1, c2⟩ := hA
    have hbl : b < w.heap.size := World.block_lt_of_cell? w _ c0
    obtain ⟨hq, _⟩ := bcell (al1 w (.cells #[.int .i64 0, .int .i64 0, .string ⟨#[]⟩] 31))
    go_enter Tryz.func103, Tryz.ntmps103
    go_wp2_with fail
    refine bodyPost_ret (by simp [results, Tryz.results103, go_sem]; rfl) rfl ?_
    exact GivesV.mk rfl (al1 _ _)
theorem rstrict_len (b off cap : Nat) (k n : Int) (s : ByteArray) (w : World) (hA : At1 w b off k n s) (_hs : s.size ≤ 9223372036854775807) :
    Calls Tryz.prog 103 #[.int .i64 9, .slice (some ⟨b, off, none⟩) 1 cap] w (GivesV (if k = 2 then intVV s.size else V.zero) w) := by
  by_cases hk : k = 2
  · rw [if_pos hk]
    subst hk
    obtain ⟨c0, c1, c2⟩ := hA
    have hbl : b < w.heap.size := World.block_lt_of_cell? w _ c0
    obtain ⟨hq, _⟩ := bcell (al1 w (.cells #[.int .i64 0, .int .i64 0, .string ⟨#[]⟩] 31))
    go_enter Tryz.func103, Tryz.ntmps103
    go_wp2_with fail
    refine (rint_V _ _).mono ?_
    rintro e w1 ⟨k1, m1, s1, hv, rfl, hb1⟩
    obtain ⟨hc, hf⟩ := bcell hb1
    go_wp2_with fail
    refine bodyPost_ret (by simp [results, Tryz.results103, go_sem, hc]; rfl) rfl ?_
    exact GivesV.mk hv.out (bl3 (bt (al1 _ _) hb1) (Nat.le_refl _))
  · rw [if_neg hk]
    have y : (k == 2) = false := by simpa using hk
    clear hk
    obtain ⟨c0, c1, c2⟩ := hA
    have hbl : b < w.heap.size := World.block_lt_of_cell? w _ c0
    obtain ⟨hq, _⟩ := bcell (al1 w (.cells #[.int .i64 0, .int .i64 0, .string ⟨#[]⟩] 31))
    go_enter Tryz.func103, Tryz.ntmps103
    go_wp2_with fail
    refine bodyPost_ret (by simp [results, Tryz.results103, go_sem]; rfl) rfl ?_
    exact GivesV.mk rfl (al1 _ _)
theorem rstrict_num4 (b off cap : Nat) (k n : Int) (s : ByteArray) (k' n' : Int) (s' : ByteArray) (w : World) (hA : At1 w b off k n s) (hB : At1 w b (off + 3) k' n' s') (ha : k = 1 → -4294967296 ≤ n ∧ n ≤ 4294967296) (hb : k' = 1 → -4294967296 ≤ n' ∧ n' ≤ 4294967296) :
    Calls Tryz.prog 103 #[.int .i64 4, .slice (some ⟨b, off, none⟩) 2 cap] w (GivesV (if k = 1 ∧ k' = 1 then numV 4 n n' else V.zero) w) := by
  by_cases hk : k = 1
  · by_cases hk' : k' = 1
    · rw [if_pos ⟨hk, hk'⟩]
      have hN := fun w => rnum_any 4 n n' (by decide) (ha hk) (hb hk') w
      have HN := Lib.hid hN
      subst hk hk'
      clear hN ha hb
      obtain ⟨c0, c1, c2⟩ := hA
      obtain ⟨d0, d1, d2⟩ := hB
      have hbl : b < w.heap.size := World.block_lt_of_cell? w _ c0
      obtain ⟨hq, _⟩ := bcell (al1 w (.cells #[.int .i64 0, .int .i64 0, .string ⟨#[]⟩] 31))
      go_enter Tryz.func103, Tryz.ntmps103
      go_wp2_with fail
      go_region_law (go_simp; go_at_call 117; refine (HN.out _).mono ?_; rintro e w1 ⟨k1, m1, s1, hv, rfl, hb1⟩; obtain ⟨hc, hf⟩ := bcell hb1)
      all_goals
        go_wp2_with fail
        refine bodyPost_ret (by simp [results, Tryz.results103, go_sem, hc]; rfl) rfl ?_
        exact GivesV.mk hv.out (bl3 (by first | exact bt (al1 _ _) hb1 | exact bt (al1 _ _).drew hb1) (Nat.le_refl _))
    · rw [if_neg (fun h => hk' h.2)]
      have y : (k' == 1) = false := by simpa using hk'
      subst hk
      clear hk' ha hb
      obtain ⟨c0, c1, c2⟩ := hA
      obtain ⟨d0, d1, d2⟩ := hB
      have hbl : b < w.heap.size := World.block_lt_of_cell? w _ c0
      obtain ⟨hq, _⟩ := bcell (al1 w (.cells #[.int .i64 0, .int .i64 0, .string ⟨#[]⟩] 31))
      go_enter Tryz.func103, Tryz.ntmps103
      go_wp2_with fail
      refine bodyPost_ret (by simp [results, Tryz.results103, go_sem]; rfl) rfl ?_
      exact GivesV.mk rfl (al1 _ _)
  · rw [if_neg (fun h => hk h.1)]
    have y : (k == 1) = false := by simpa using hk
    clear hk ha hb
    obtain ⟨c0, c1, c2⟩ := hA
    obtain ⟨d0, d1, d2⟩ := hB
    have hbl : b < w.heap.size := World.block_lt_of_cell? w _ c0
    obtain ⟨hq, _⟩ := bcell (al1 w (.cells #[.int .i64 0, .int .i64 0, .string ⟨#[]⟩] 31))
    go_enter Tryz.func103, Tryz.ntmps103
    go_wp2_with fail
    refine bodyPost_ret (by simp [results, Tryz.results103, go_sem]; rfl) rfl ?_
    exact GivesV.mk rfl (al1 _ _)
theorem rstrict_num5 (b off cap : Nat) (k n : Int) (s : ByteArray) (k' n' : Int) (s' : ByteArray) (w : World) (hA : At1 w b off k n s) (hB : At1 w b (off + 3) k' n' s') (ha : k = 1 → -4294967296 ≤ n ∧ n ≤ 4294967296) (hb : k' = 1 → -4294967296 ≤ n' ∧ n' ≤ 4294967296) :
    Calls Tryz.prog 103 #[.int .i64 5, .slice (some ⟨b, off, none⟩) 2 cap] w (GivesV (if k = 1 ∧ k' = 1 then numV 5 n n' else V.zero) w) := by
  by_cases hk : k = 1
  · by_cases hk' : k' = 1
    · rw [if_pos ⟨hk, hk'⟩]
      have hN := fun w => rnum_any 5 n n' (by decide) (ha hk) (hb hk') w
      have HN := Lib.hid hN
      subst hk hk'
      clear hN ha hb
      obtain ⟨c0, c1, c2⟩ := hA
      obtain ⟨d0, d1, d2⟩ := hB
      have hbl : b < w.heap.size := World.block_lt_of_cell? w _ c0
      obtain ⟨hq, _⟩ := bcell (al1 w (.cells #[.int .i64 0, .int .i64 0, .string ⟨#[]⟩] 31))
      go_enter Tryz.func103, Tryz.ntmps103
      go_wp2_with fail
      go_region_law (go_simp; go_at_call 117; refine (HN.out _).mono ?_; rintro e w1 ⟨k1, m1, s1, hv, rfl, hb1⟩; obtain ⟨hc, hf⟩ := bcell hb1)
      all_goals
        go_wp2_with fail
        refine bodyPost_ret (by simp [results, Tryz.results103, go_sem, hc]; rfl) rfl ?_
        exact GivesV.mk hv.out (bl3 (by first | exact bt (al1 _ _) hb1 | exact bt (al1 _ _).drew hb1) (Nat.le_refl _))
    · rw [if_neg (fun h => hk' h.2)]
      have y : (k' == 1) = false := by simpa using hk'
      subst hk
      clear hk' ha hb
      obtain ⟨c0, c1, c2⟩ := hA
      obtain ⟨d0, d1, d2⟩ := hB
      have hbl : b < w.heap.size := World.block_lt_of_cell? w _ c0
      obtain ⟨hq, _⟩ := bcell (al1 w (.cells #[.int .i64 0, .int .i64 0, .string ⟨#[]⟩] 31))
      go_enter Tryz.func103, Tryz.ntmps103
      go_wp2_with fail
      refine bodyPost_ret (by simp [results, Tryz.results103, go_sem]; rfl) rfl ?_
      exact GivesV.mk rfl (al1 _ _)
  · rw [if_neg (fun h => hk h.1)]
    have y : (k == 1) = false := by simpa using hk
    clear hk ha hb
    obtain ⟨c0, c1, c2⟩ := hA
    obtain ⟨d0, d1, d2⟩ := hB
    have hbl : b < w.heap.size := World.block_lt_of_cell? w _ c0
    obtain ⟨hq, _⟩ := bcell (al1 w (.cells #[.int .i64 0, .int .i64 0, .string ⟨#[]⟩] 31))
    go_enter Tryz.func103, Tryz.ntmps103
    go_wp2_with fail
    refine bodyPost_ret (by simp [results, Tryz.results103, go_sem]; rfl) rfl ?_
    exact GivesV.mk rfl (al1 _ _)
theorem rstrict_num6 (b off cap : Nat) (k n : Int) (s : ByteArray) (k' n' : Int) (s' : ByteArray) (w : World) (hA : At1 w b off k n s) (hB : At1 w b (off + 3) k' n' s') (ha : k = 1 → -4294967296 ≤ n ∧ n ≤ 4294967296) (hb : k' = 1 → -4294967296 ≤ n' ∧ n' ≤ 4294967296) :
    Calls Tryz.prog 103 #[.int .i64 6, .slice (some ⟨b, off, none⟩) 2 cap] w (GivesV (if k = 1 ∧ k' = 1 then numV 6 n n' else V.zero) w) := by
  by_cases hk : k = 1
  · by_cases hk' : k' = 1
    · rw [if_pos ⟨hk, hk'⟩]
      have hN := fun w => rnum_any 6 n n' (by decide) (ha hk) (hb hk') w
      have HN := Lib.hid hN
      subst hk hk'
      clear hN ha hb
      obtain ⟨c0, c1, c2⟩ := hA
      obtain ⟨d0, d1, d2⟩ := hB
      have hbl : b < w.heap.size := World.block_lt_of_cell? w _ c0
      obtain ⟨hq, _⟩ := bcell (al1 w (.cells #[.int .i64 0, .int .i64 0, .string ⟨#[]⟩] 31))
      go_enter Tryz.func103, Tryz.ntmps103
      go_wp2_with fail
      go_region_law (go_simp; go_at_call 117; refine (HN.out _).mono ?_; rintro e w1 ⟨k1, m1, s1, hv, rfl, hb1⟩; obtain ⟨hc, hf⟩ := bcell hb1)
      all_goals
        go_wp2_with fail
        refine bodyPost_ret (by simp [results, Tryz.results103, go_sem, hc]; rfl) rfl ?_
        exact GivesV.mk hv.out (bl3 (by first | exact bt (al1 _ _) hb1 | exact bt (al1 _ _).drew hb1) (Nat.le_refl _))
    · rw [if_neg (fun h => hk' h.2)]
      have y : (k' == 1) = false := by simpa using hk'
      subst hk
      clear hk' ha hb
      obtain ⟨c0, c1, c2⟩ := hA
      obtain ⟨d0, d1, d2⟩ := hB
      have hbl : b < w.heap.size := World.block_lt_of_cell? w _ c0
      obtain ⟨hq, _⟩ := bcell (al1 w (.cells #[.int .i64 0, .int .i64 0, .string ⟨#[]⟩] 31))
      go_enter Tryz.func103, Tryz.ntmps103
      go_wp2_with fail
      refine bodyPost_ret (by simp [results, Tryz.results103, go_sem]; rfl) rfl ?_
      exact GivesV.mk rfl (al1 _ _)
  · rw [if_neg (fun h => hk h.1)]
    have y : (k == 1) = false := by simpa using hk
    clear hk ha hb
    obtain ⟨c0, c1, c2⟩ := hA
    obtain ⟨d0, d1, d2⟩ := hB
    have hbl : b < w.heap.size := World.block_lt_of_cell? w _ c0
    obtain ⟨hq, _⟩ := bcell (al1 w (.cells #[.int .i64 0, .int .i64 0, .string ⟨#[]⟩] 31))
    go_enter Tryz.func103, Tryz.ntmps103
    go_wp2_with fail
    refine bodyPost_ret (by simp [results, Tryz.results103, go_sem]; rfl) rfl ?_
    exact GivesV.mk rfl (al1 _ _)
theorem rstrict_num7 (b off cap : Nat) (k n : Int) (s : ByteArray) (k' n' : Int) (s' : ByteArray) (w : World) (hA : At1 w b off k n s) (hB : At1 w b (off + 3) k' n' s') (ha : k = 1 → -4294967296 ≤ n ∧ n ≤ 4294967296) (hb : k' = 1 → -4294967296 ≤ n' ∧ n' ≤ 4294967296) :
    Calls Tryz.prog 103 #[.int .i64 7, .slice (some ⟨b, off, none⟩) 2 cap] w (GivesV (if k = 1 ∧ k' = 1 then numV 7 n n' else V.zero) w) := by
  by_cases hk : k = 1
  · by_cases hk' : k' = 1
    · rw [if_pos ⟨hk, hk'⟩]
      have hN := fun w => rnum_any 7 n n' (by decide) (ha hk) (hb hk') w
      have HN := Lib.hid hN
      subst hk hk'
      clear hN ha hb
      obtain ⟨c0, c1, c2⟩ := hA
      obtain ⟨d0, d1, d2⟩ := hB
      have hbl : b < w.heap.size := World.block_lt_of_cell? w _ c0
      obtain ⟨hq, _⟩ := bcell (al1 w (.cells #[.int .i64 0, .int .i64 0, .string ⟨#[]⟩] 31))
      go_enter Tryz.func103, Tryz.ntmps103
      go_wp2_with fail
      go_region_law (go_simp; go_at_call 117; refine (HN.out _).mono ?_; rintro e w1 ⟨k1, m1, s1, hv, rfl, hb1⟩; obtain ⟨hc, hf⟩ := bcell hb1)
      all_goals
        go_wp2_with fail
        refine bodyPost_ret (by simp [results, Tryz.results103, go_sem, hc]; rfl) rfl ?_
        exact GivesV.mk hv.out (bl3 (by first | exact bt (al1 _ _) hb1 | exact bt (al1 _ _).drew hb1) (Nat.le_refl _))
    · rw [if_neg (fun h => hk' h.2)]
      have y : (k' == 1) = false := by simpa using hk'
      subst hk
      clear hk' ha hb
      obtain ⟨c0, c1, c2⟩ := hA
      obtain ⟨d0, d1, d2⟩ := hB
      have hbl : b < w.heap.size := World.block_lt_of_cell? w _ c0
      obtain ⟨hq, _⟩ := bcell (al1 w (.cells #[.int .i64 0, .int .i64 0, .string ⟨#[]⟩] 31))
      go_enter Tryz.func103, Tryz.ntmps103
      go_wp2_with fail
      refine bodyPost_ret (by simp [results, Tryz.results103, go_sem]; rfl) rfl ?_
      exact GivesV.mk rfl (al1 _ _)
  · rw [if_neg (fun h => hk h.1)]
    have y : (k == 1) = false := by simpa using hk
    clear hk ha hb
    obtain ⟨c0, c1, c2⟩ := hA
    obtain ⟨d0, d1, d2⟩ := hB
    have hbl : b < w.heap.size := World.block_lt_of_cell? w _ c0
    obtain ⟨hq, _⟩ := bcell (al1 w (.cells #[.int .i64 0, .int .i64 0, .string ⟨#[]⟩] 31))
    go_enter Tryz.func103, Tryz.ntmps103
    go_wp2_with fail
    refine bodyPost_ret (by simp [results, Tryz.results103, go_sem]; rfl) rfl ?_
    exact GivesV.mk rfl (al1 _ _)
theorem rstrict_cat (b off cap : Nat) (k n : Int) (s : ByteArray) (k' n' : Int) (s' : ByteArray) (w : World) (hA : At1 w b off k n s) (hB : At1 w b (off + 3) k' n' s') (hs : s.size ≤ 4294967296) (hs' : s'.size ≤ 4294967296) :
    Calls Tryz.prog 103 #[.int .i64 8, .slice (some ⟨b, off, none⟩) 2 cap] w (GivesV (if k = 2 ∧ k' = 2 then textVV (s ++ s') else V.zero) w) := by
  by_cases hk : k = 2
  · by_cases hk' : k' = 2
    · rw [if_pos ⟨hk, hk'⟩]
      have hN := fun w => rtext_V (s ++ s') (by simp [maxLen]; omega) w
      have HN := Lib.hid hN
      have g1 : ¬ (9223372036854775807 < s.size + s'.size) := by omega
      subst hk hk'
      clear hN
      obtain ⟨c0, c1, c2⟩ := hA
      obtain ⟨d0, d1, d2⟩ := hB
      have hbl : b < w.heap.size := World.block_lt_of_cell? w _ c0
      obtain ⟨hq, _⟩ := bcell (al1 w (.cells #[.int .i64 0, .int .i64 0, .string ⟨#[]⟩] 31))
      go_enter Tryz.func103, Tryz.ntmps103
      go_wp2_with fail
      go_region_law (go_simp; go_at_call 50; refine (HN.out _).mono ?_; rintro e w1 ⟨k1, m1, s1, hv, rfl, hb1⟩; obtain ⟨hc, hf⟩ := bcell hb1)
      all_goals
        go_wp2_with fail
        refine bodyPost_ret (by simp [results, Tryz.results103, go_sem, hc]; rfl) rfl ?_
        exact GivesV.mk hv.out (bl3 (by first | exact bt (al1 _ _) hb1 | exact bt (al1 _ _).drew hb1) (Nat.le_refl _))
    · rw [if_neg (fun h => hk' h.2)]
      have y : (k' == 2) = false := by simpa using hk'
      subst hk
      clear hk'
      obtain ⟨c0, c1, c2⟩ := hA
      obtain ⟨d0, d1, d2⟩ := hB
      have hbl : b < w.heap.size := World.block_lt_of_cell? w _ c0
      obtain ⟨hq, _⟩ := bcell (al1 w (.cells #[.int .i64 0, .int .i64 0, .string ⟨#[]⟩] 31))
      go_enter Tryz.func103, Tryz.ntmps103
      go_wp2_with fail
      refine bodyPost_ret (by simp [results, Tryz.results103, go_sem]; rfl) rfl ?_
      exact GivesV.mk rfl (al1 _ _)
  · rw [if_neg (fun h => hk h.1)]
    have y : (k == 2) = false := by simpa using hk
    clear hk
    obtain ⟨c0, c1, c2⟩ := hA
    obtain ⟨d0, d1, d2⟩ := hB
    have hbl : b < w.heap.size := World.block_lt_of_cell? w _ c0
    obtain ⟨hq, _⟩ := bcell (al1 w (.cells #[.int .i64 0, .int .i64 0, .string ⟨#[]⟩] 31))
    go_enter Tryz.func103, Tryz.ntmps103
    go_wp2_with fail
    refine bodyPost_ret (by simp [results, Tryz.results103, go_sem]; rfl) rfl ?_
    exact GivesV.mk rfl (al1 _ _)
end Go.Proofs.YtmikeifkmjhioaaGreatDoor
/- strict of the reference: equal, less, prefix. -/
namespace Go.Proofs.YtmikeifkmjhioaaGreatDoor
open Go.RowKit Go.Proofs.EB
set_option maxHeartbeats 4000000
set_option maxRecDepth 100000
attribute [local go_sem] World.cell?_alloc_some
theorem rstrict_equal (b off cap : Nat) (k n : Int) (s : ByteArray) (k' n' : Int) (s' : ByteArray) (w : World) (hA : At1 w b off k n s) (hB : At1 w b (off + 3) k' n' s') :
    Calls Tryz.prog 103 #[.int .i64 11, .slice (some ⟨b, off, none⟩) 2 cap] w (GivesV (if k = k' then bitV (k == k' && (n == n' && s.toList == s'.toList)) else V.zero) w) := by
  by_cases hk : k = k'
  · rw [if_pos hk]
    subst hk
    have heq' := fun w => eqlV k n k n' s s' w
    have yy : (k == k) = true := by simp
    have ee : (k == k && (n == n' && s.toList == s'.toList)) = (n == n' && s.toList == s'.toList) := by simp
    have EE := Lib.hid ee
    clear ee
    obtain ⟨c0, c1, c2⟩ := hA
    obtain ⟨d0, d1, d2⟩ := hB
    have hbl : b < w.heap.size := World.block_lt_of_cell? w _ c0
    obtain ⟨hq, _⟩ := bcell (al1 w (.cells #[.int .i64 0, .int .i64 0, .string ⟨#[]⟩] 31))
    go_enter Tryz.func103, Tryz.ntmps103
    go_wp2_with fail
    go_region
    go_wp2_with fail
    go_region_law (go_simp; go_at_call 102; refine (rbit_V _ _).mono ?_; rintro e w1 ⟨k1, m1, s1, hv, rfl, hb1⟩; obtain ⟨hc, hf⟩ := bcell hb1)
    all_goals
      go_wp2_with fail
      refine bodyPost_ret (by simp [results, Tryz.results103, go_sem, hc]; rfl) rfl ?_
      exact GivesV.mk (by rw [EE.out]; exact hv.out) (bl3 (by first | exact bt (al1 _ _) hb1 | exact bt (al1 _ _).drew hb1 | exact bt (al1 _ _).drew.drew hb1) (Nat.le_refl _))
  · rw [if_neg hk]
    have y : (k == k') = false := by simpa using hk
    clear hk
    obtain ⟨c0, c1, c2⟩ := hA
    obtain ⟨d0, d1, d2⟩ := hB
    have hbl : b < w.heap.size := World.block_lt_of_cell? w _ c0
    obtain ⟨hq, _⟩ := bcell (al1 w (.cells #[.int .i64 0, .int .i64 0, .string ⟨#[]⟩] 31))
    go_enter Tryz.func103, Tryz.ntmps103
    go_wp2_with fail
    go_region
    go_wp2_with fail
    refine bodyPost_ret (by simp [results, Tryz.results103, go_sem]; rfl) rfl ?_
    exact GivesV.mk rfl (al1 _ _).drew
theorem rstrict_less (b off cap : Nat) (k n : Int) (s : ByteArray) (k' n' : Int) (s' : ByteArray) (w : World) (hA : At1 w b off k n s) (hB : At1 w b (off + 3) k' n' s') (hs : s.size ≤ maxLen) (hs' : s'.size ≤ maxLen) :
    Calls Tryz.prog 103 #[.int .i64 12, .slice (some ⟨b, off, none⟩) 2 cap] w (GivesV (if k = k' then bitV (decide (cmpV ⟨k, n, s⟩ ⟨k', n', s'⟩ < 0)) else V.zero) w) := by
  by_cases hk : k = k'
  · rw [if_pos hk]
    subst hk
    have hC := fun w => rcompare_any k n s k n' s' w hs hs'
    have HC := Lib.hid hC
    clear hC hs hs'
    have yy : (k == k) = true := by simp
    obtain ⟨c0, c1, c2⟩ := hA
    obtain ⟨d0, d1, d2⟩ := hB
    have hbl : b < w.heap.size := World.block_lt_of_cell? w _ c0
    obtain ⟨hq, _⟩ := bcell (al1 w (.cells #[.int .i64 0, .int .i64 0, .string ⟨#[]⟩] 31))
    generalize cmpV ⟨k, n, s⟩ ⟨k, n', s'⟩ = c at *
    go_enter Tryz.func103, Tryz.ntmps103
    go_wp2_with fail
    go_region
    go_wp2_with fail
    go_region_law (go_simp; first | (go_at_call 118; refine (HC.out _).mono ?_; rintro e w1 ⟨rfl, hb1⟩; have HB := Lib.hid (show Below (w.alloc (.cells #[.int .i64 0, .int .i64 0, .string ⟨#[]⟩] 31)).heap.size (w.alloc (.cells #[.int .i64 0, .int .i64 0, .string ⟨#[]⟩] 31)) w1 by first | exact bt (Below.refl _ _) hb1 | exact bt (Below.refl _ _).drew hb1 | exact bt (Below.refl _ _).drew.drew hb1); obtain ⟨hc, hf⟩ := bcell HB.out) | (go_at_call 102; refine (rbit_V _ _).mono ?_; rintro e w2 ⟨k1, m1, s1, hv, rfl, hb2⟩; have HB2 := Lib.hid (show Below (w.alloc (.cells #[.int .i64 0, .int .i64 0, .string ⟨#[]⟩] 31)).heap.size (w.alloc (.cells #[.int .i64 0, .int .i64 0, .string ⟨#[]⟩] 31)) w2 by first | exact bt HB.out hb2 | exact bt HB.out.drew hb2 | exact bt HB.out.drew.drew hb2); obtain ⟨hc2, hf2⟩ := bcell HB2.out))
    all_goals
      go_wp2_with fail
      refine bodyPost_ret (by simp [results, Tryz.results103, go_sem, hc2]; rfl) rfl ?_
      exact GivesV.mk hv.out (bl3 (bt (al1 _ _) HB2.out) (Nat.le_refl _))
  · rw [if_neg hk]
    have y : (k == k') = false := by simpa using hk
    clear hk
    obtain ⟨c0, c1, c2⟩ := hA
    obtain ⟨d0, d1, d2⟩ := hB
    have hbl : b < w.heap.size := World.block_lt_of_cell? w _ c0
    obtain ⟨hq, _⟩ := bcell (al1 w (.cells #[.int .i64 0, .int .i64 0, .string ⟨#[]⟩] 31))
    go_enter Tryz.func103, Tryz.ntmps103
    go_wp2_with fail
    go_region
    go_wp2_with fail
    refine bodyPost_ret (by simp [results, Tryz.results103, go_sem]; rfl) rfl ?_
    exact GivesV.mk rfl (al1 _ _).drew
/-- prefix: the kinds do not fit. -/
theorem rstrict_prefix0 (b off cap : Nat) (k n : Int) (s : ByteArray) (k' n' : Int) (s' : ByteArray) (w : World) (hA : At1 w b off k n s) (hB : At1 w b (off + 3) k' n' s') (h : ¬ (k = 2 ∧ k' = 1 ∧ 0 ≤ n')) :
    Calls Tryz.prog 103 #[.int .i64 10, .slice (some ⟨b, off, none⟩) 2 cap] w (GivesV V.zero w) := by
  have h3 : (k == 2) = false ∨ (k == 2) = true ∧ (k' == 1) = false ∨ (k == 2) = true ∧ (k' == 1) = true ∧ decide (0 ≤ n') = false := by
    by_cases h1 : k = 2 <;> by_cases h2 : k' = 1 <;> simp [h1, h2] at h ⊢ <;> omega
  clear h
  obtain ⟨c0, c1, c2⟩ := hA
  obtain ⟨d0, d1, d2⟩ := hB
  have hbl : b < w.heap.size := World.block_lt_of_cell? w _ c0
  obtain ⟨hq, _⟩ := bcell (al1 w (.cells #[.int .i64 0, .int .i64 0, .string ⟨#[]⟩] 31))
  rcases h3 with y1 | ⟨y1, y2⟩ | ⟨y1, y2, y3⟩
  all_goals
    go_enter Tryz.func103, Tryz.ntmps103
    go_wp2_with fail
    refine bodyPost_ret (by simp [results, Tryz.results103, go_sem]; rfl) rfl ?_
    exact GivesV.mk rfl (al1 _ _)
theorem rstrict_prefix1 (b off cap : Nat) (s : ByteArray) (m : Nat) (s' : ByteArray) (n0 : Int) (w : World) (hA : At1 w b off 2 n0 s) (hB : At1 w b (off + 3) 1 m s') (hs : s.size ≤ maxLen) :
    Calls Tryz.prog 103 #[.int .i64 10, .slice (some ⟨b, off, none⟩) 2 cap] w (GivesV (textVV (s.extract 0 (min m s.size))) w) := by
  have hz : (s.extract 0 (min m s.size)).size ≤ maxLen := by simp; omega
  have hN := fun w => rtext_V (s.extract 0 (min m s.size)) hz w
  have HN := Lib.hid hN
  obtain ⟨c0, c1, c2⟩ := hA
  obtain ⟨d0, d1, d2⟩ := hB
  have hbl : b < w.heap.size := World.block_lt_of_cell? w _ c0
  obtain ⟨hq, _⟩ := bcell (al1 w (.cells #[.int .i64 0, .int .i64 0, .string ⟨#[]⟩] 31))
  have e1 : (0 : Int) ≤ min (m : Int) (s.size : Int) := by omega
  have e2 : min (m : Int) (s.size : Int) ≤ (s.size : Int) := by omega
  have e3 : (min (m : Int) (s.size : Int)).toNat = min m s.size := by omega
  clear hN hz hs
  go_enter Tryz.func103, Tryz.ntmps103
  go_wp2_with fail
  go_region_law (go_simp; go_at_call 50; refine (HN.out _).mono ?_; rintro e w1 ⟨k1, m1, s1, hv, rfl, hb1⟩; obtain ⟨hc, hf⟩ := bcell hb1)
  all_goals
    go_wp2_with fail
    refine bodyPost_ret (by simp [results, Tryz.results103, go_sem, hc]; rfl) rfl ?_
    exact GivesV.mk hv.out (bl3 (by first | exact bt (al1 _ _) hb1 | exact bt (al1 _ _).drew hb1) (Nat.le_refl _))
theorem rstrict_prefix (b off cap : Nat) (k n : Int) (s : ByteArray) (k' n' : Int) (s' : ByteArray) (w : World) (hA : At1 w b off k n s) (hB : At1 w b (off + 3) k' n' s') (hs : s.size ≤ maxLen) :
    Calls Tryz.prog 103 #[.int .i64 10, .slice (some ⟨b, off, none⟩) 2 cap] w (GivesV (if k = 2 ∧ k' = 1 ∧ 0 ≤ n' then textVV (s.extract 0 (min n'.toNat s.size)) else V.zero) w) := by
  by_cases h : k = 2 ∧ k' = 1 ∧ 0 ≤ n'
  · rw [if_pos h]
    obtain ⟨rfl, rfl, h0⟩ := h
    obtain ⟨m, rfl⟩ : ∃ m : Nat, n' = m := ⟨n'.toNat, by omega⟩
    exact rstrict_prefix1 b off cap s m s' n w hA hB hs
  · rw [if_neg h]
    exact rstrict_prefix0 b off cap k n s k' n' s' w hA hB h
end Go.Proofs.YtmikeifkmjhioaaGreatDoor
/- strict and Apply of the reference, for any operands. -/
namespace Go.Proofs.YtmikeifkmjhioaaGreatDoor
open Go.RowKit Go.Proofs.EB
set_option maxHeartbeats 4000000
set_option maxRecDepth 100000
attribute [local go_sem] World.cell?_alloc_some
/-- A value within the limits of a walk. -/
def Small (v : V) : Prop := (v.k = 1 → -4294967296 ≤ v.n ∧ v.n ≤ 4294967296) ∧ v.s.size ≤ 4294967296
def AtV (w : World) (b off : Nat) (v : V) : Prop := At1 w b off v.k v.n v.s
theorem rstrict1_any (op : Int) (b off cap : Nat) (v : V) (w : World) (hA : AtV w b off v) (hv : Small v) (ho : op = 3 ∨ op = 13 ∨ op = 9) :
    Calls Tryz.prog 103 #[.int .i64 op, .slice (some ⟨b, off, none⟩) 1 cap] w (GivesV (strictV cmpV op [v]) w) := by
  obtain ⟨k, n, s⟩ := v
  have hs : s.size ≤ 9223372036854775807 := by have := hv.2; simp at this; omega
  rcases ho with rfl | rfl | rfl
  · simpa [strictV] using rstrict_neg b off cap k n s w hA hv.1
  · simpa [strictV] using rstrict_not b off cap k n s w hA
  · simpa [strictV] using rstrict_len b off cap k n s w hA hs
theorem rstrict2_any (op : Int) (b off cap : Nat) (u v : V) (w : World) (hA : AtV w b off u) (hB : AtV w b (off + 3) v) (hu : Small u) (hv : Small v) (ho : op = 4 ∨ op = 5 ∨ op = 6 ∨ op = 7 ∨ op = 8 ∨ op = 10 ∨ op = 11 ∨ op = 12) :
    Calls Tryz.prog 103 #[.int .i64 op, .slice (some ⟨b, off, none⟩) 2 cap] w (GivesV (strictV cmpV op [u, v]) w) := by
  obtain ⟨k, n, s⟩ := u
  obtain ⟨k', n', s'⟩ := v
  have hs : s.size ≤ 4294967296 := hu.2
  have hs' : s'.size ≤ 4294967296 := hv.2
  have hm : s.size ≤ maxLen := by unfold maxLen; omega
  have hm' : s'.size ≤ maxLen := by unfold maxLen; omega
  rcases ho with rfl | rfl | rfl | rfl | rfl | rfl | rfl | rfl
  · simpa [strictV] using rstrict_num4 b off cap k n s k' n' s' w hA hB hu.1 hv.1
  · simpa [strictV] using rstrict_num5 b off cap k n s k' n' s' w hA hB hu.1 hv.1
  · simpa [strictV] using rstrict_num6 b off cap k n s k' n' s' w hA hB hu.1 hv.1
  · simpa [strictV] using rstrict_num7 b off cap k n s k' n' s' w hA hB hu.1 hv.1
  · simpa [strictV] using rstrict_cat b off cap k n s k' n' s' w hA hB hs hs'
  · simpa [strictV] using rstrict_prefix b off cap k n s k' n' s' w hA hB hm
  · simpa [strictV] using rstrict_equal b off cap k n s k' n' s' w hA hB
  · simpa [strictV] using rstrict_less b off cap k n s k' n' s' w hA hB hm hm'
end Go.Proofs.YtmikeifkmjhioaaGreatDoor
/- Apply of the reference. -/
namespace Go.Proofs.YtmikeifkmjhioaaGreatDoor
open Go.RowKit Go.Proofs.EB
set_option maxHeartbeats 4000000
set_option maxRecDepth 100000
attribute [local go_sem] World.cell?_alloc_some
theorem rapply_isnull (b off cap : Nat) (k n : Int) (s : ByteArray) (w : World) (hA : At1 w b off k n s) :
    Calls Tryz.prog 69 #[.int .i64 16, .slice (some ⟨b, off, none⟩) 1 cap] w (GivesV (bitV (nullB ⟨k, n, s⟩)) w) := by
  have heq := fun w => eqlV k n 0 0 s ⟨#[]⟩ w
  obtain ⟨c0, c1, c2⟩ := hA
  have hz : (k == 0 && (n == 0 && s.toList.isEmpty)) = nullB ⟨k, n, s⟩ := by simp [nullB, zeroB, Bool.and_assoc]
  have HZ := Lib.hid hz
  clear hz
  obtain ⟨hq, _⟩ := bcell (al2 w (.cells #[.int .i64 0, .int .i64 0, .string ⟨#[]⟩] 31) (.cells #[.int .i64 0, .int .i64 0, .string ⟨#[]⟩] 31))
  have hbl : b < w.heap.size := World.block_lt_of_cell? w _ c0
  go_enter Tryz.func69, Tryz.ntmps69
  go_wp2_with fail
  go_region_law (go_simp; go_at_call 102; refine (rbit_V _ _).mono ?_; rintro e w1 ⟨k1, m1, s1, hv, rfl, hb1⟩; have HB := Lib.hid (show Below ((w.alloc (.cells #[.int .i64 0, .int .i64 0, .string ⟨#[]⟩] 31)).alloc (.cells #[.int .i64 0, .int .i64 0, .string ⟨#[]⟩] 31)).heap.size ((w.alloc (.cells #[.int .i64 0, .int .i64 0, .string ⟨#[]⟩] 31)).alloc (.cells #[.int .i64 0, .int .i64 0, .string ⟨#[]⟩] 31)) w1 by first | exact bt (Below.refl _ _) hb1 | exact bt (Below.refl _ _).drew hb1); obtain ⟨hc, hf⟩ := bcell HB.out)
  all_goals
    go_wp2_with fail
    refine bodyPost_ret (by simp [results, Tryz.results69, go_sem, hc, show w.heap.size < w.heap.size + 1 + 1 by omega]; rfl) rfl ?_
    exact GivesV.mk (by rw [← HZ.out]; exact hv.out) (bl3 (bt (al2 _ _ _) HB.out) (Nat.le_refl _))
theorem rapply_coal (b off cap : Nat) (k n : Int) (s : ByteArray) (k' n' : Int) (s' : ByteArray) (w : World) (hA : At1 w b off k n s) (hB : At1 w b (off + 3) k' n' s') :
    Calls Tryz.prog 69 #[.int .i64 17, .slice (some ⟨b, off, none⟩) 2 cap] w (GivesV (if nullB ⟨k, n, s⟩ = true then ⟨k', n', s'⟩ else ⟨k, n, s⟩) w) := by
  have heq := fun w => neqlV k n 0 0 s ⟨#[]⟩ w
  have hz : (k == 0 && (n == 0 && s.toList.isEmpty)) = nullB ⟨k, n, s⟩ := by simp [nullB, zeroB, Bool.and_assoc]
  rw [← hz]
  clear hz
  obtain ⟨hq, _⟩ := bcell (al2 w (.cells #[.int .i64 0, .int .i64 0, .string ⟨#[]⟩] 31) (.cells #[.int .i64 0, .int .i64 0, .string ⟨#[]⟩] 31))
  obtain ⟨c0, c1, c2⟩ := hA
  obtain ⟨d0, d1, d2⟩ := hB
  have hbl : b < w.heap.size := World.block_lt_of_cell? w _ c0
  cases hn : (k == 0 && (n == 0 && s.toList.isEmpty))
  all_goals
    go_enter Tryz.func69, Tryz.ntmps69
    go_wp2_with fail
    go_region
    go_wp2_with fail
    refine bodyPost_ret (by simp [results, Tryz.results69, go_sem]; rfl) rfl ?_
    exact GivesV.mk rfl (al2 _ _ _).drew
end Go.Proofs.YtmikeifkmjhioaaGreatDoor
