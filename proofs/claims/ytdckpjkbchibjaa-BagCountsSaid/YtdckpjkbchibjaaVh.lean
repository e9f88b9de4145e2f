/- Contracts of Compare of the reference erasureref01. -/
import Derived.Test.YtdckpjkbchibjaaVg
namespace Go.Proofs.Ytdckpjkbchibjaa
open Go.RowKit Go.Proofs.EB
set_option maxHeartbeats 1000000
theorem rcompare_eq (k n : Int) (s : ByteArray) (k' n' : Int) (s' : ByteArray) (w : World) (hs : s.size ≤ maxLen) (hs' : s'.size ≤ maxLen) (kc nc : Int) (sc : ByteArray) (kd nd : Int) (sd : ByteArray) (Hca : Hid (cleanV ⟨k, n, s⟩ = ⟨kc, nc, sc⟩)) (Hcb : Hid (cleanV ⟨k', n', s'⟩ = ⟨kd, nd, sd⟩)) (h1 : kc = kd) (h2 : nc = nd) (h3 : sc = sd) :
    Calls Try.prog 65 #[.agg #[.int .i64 k, .int .i64 n, .string s], .agg #[.int .i64 k', .int .i64 n', .string s']] w fun e w' => e = .returned (.int .i64 (0)) ∧ Below w.heap.size w w' := by
  have hB := boxes_start w ⟨k, n, s⟩ ⟨k', n', s'⟩
  have hg := guardV
  subst h1 h2 h3
  have heq := fun w => eqlV kc nc kc nc sc sc w
  go_enter Try.func65, Try.ntmps65
  go_wp2_with fail
  generalize (w.alloc (.cells #[.int .i64 k, .int .i64 n, .string s] 42)).alloc (.cells #[.int .i64 k', .int .i64 n', .string s'] 42) = w1 at *
  obtain ⟨⟨a0, a1, a2, p0, p1, p2⟩, b0, b1, b2, q0, q1, q2⟩ := hB.facts
  go_region_law (go_simp; go_at_call 50; refine (rclean_fn _ _ _ _ (by first | exact hs | exact hs')).mono ?_; simp only [Hca.out, Hcb.out]; rintro e w2 ⟨rfl, hb2⟩; have hB' := Boxes.step hb2 (by first | assumption | exact hB.drew); obtain ⟨⟨a0, a1, a2, p0, p1, p2⟩, b0, b1, b2, q0, q1, q2⟩ := hB'.facts)
  all_goals
    go_wp2_with fail
    go_ret
    exact ⟨rfl, hB'.stored _ _ _ _ _ _⟩

theorem rcompare_lt (k n : Int) (s : ByteArray) (k' n' : Int) (s' : ByteArray) (w : World) (hs : s.size ≤ maxLen) (hs' : s'.size ≤ maxLen) (kc nc : Int) (sc : ByteArray) (kd nd : Int) (sd : ByteArray) (Hca : Hid (cleanV ⟨k, n, s⟩ = ⟨kc, nc, sc⟩)) (Hcb : Hid (cleanV ⟨k', n', s'⟩ = ⟨kd, nd, sd⟩)) (hne : (kc == kd && (nc == nd && sc.toList == sd.toList)) = false) (h : kc < kd) :
    Calls Try.prog 65 #[.agg #[.int .i64 k, .int .i64 n, .string s], .agg #[.int .i64 k', .int .i64 n', .string s']] w fun e w' => e = .returned (.int .i64 (-1)) ∧ Below w.heap.size w w' := by
  have hB := boxes_start w ⟨k, n, s⟩ ⟨k', n', s'⟩
  have hg := guardV
  have heq := fun w => (eqlV kc nc kd nd sc sd w).trans (by rw [hne])
  clear hne
  go_enter Try.func65, Try.ntmps65
  go_wp2_with fail
  generalize (w.alloc (.cells #[.int .i64 k, .int .i64 n, .string s] 42)).alloc (.cells #[.int .i64 k', .int .i64 n', .string s'] 42) = w1 at *
  obtain ⟨⟨a0, a1, a2, p0, p1, p2⟩, b0, b1, b2, q0, q1, q2⟩ := hB.facts
  go_region_law (go_simp; go_at_call 50; refine (rclean_fn _ _ _ _ (by first | exact hs | exact hs')).mono ?_; simp only [Hca.out, Hcb.out]; rintro e w2 ⟨rfl, hb2⟩; have hB' := Boxes.step hb2 (by first | assumption | exact hB.drew); obtain ⟨⟨a0, a1, a2, p0, p1, p2⟩, b0, b1, b2, q0, q1, q2⟩ := hB'.facts)
  all_goals
    go_wp2_with fail
    go_ret
    exact ⟨rfl, hB'.stored _ _ _ _ _ _⟩

theorem rcompare_gt (k n : Int) (s : ByteArray) (k' n' : Int) (s' : ByteArray) (w : World) (hs : s.size ≤ maxLen) (hs' : s'.size ≤ maxLen) (kc nc : Int) (sc : ByteArray) (kd nd : Int) (sd : ByteArray) (Hca : Hid (cleanV ⟨k, n, s⟩ = ⟨kc, nc, sc⟩)) (Hcb : Hid (cleanV ⟨k', n', s'⟩ = ⟨kd, nd, sd⟩)) (h : kd < kc) :
    Calls Try.prog 65 #[.agg #[.int .i64 k, .int .i64 n, .string s], .agg #[.int .i64 k', .int .i64 n', .string s']] w fun e w' => e = .returned (.int .i64 (1)) ∧ Below w.heap.size w w' := by
  have hB := boxes_start w ⟨k, n, s⟩ ⟨k', n', s'⟩
  have hg := guardV
  have hd : decide (kc < kd) = false := by simp; omega
  have e1 : (kc == kd) = false := by simp; omega
  go_enter Try.func65, Try.ntmps65
  go_wp2_with fail
  generalize (w.alloc (.cells #[.int .i64 k, .int .i64 n, .string s] 42)).alloc (.cells #[.int .i64 k', .int .i64 n', .string s'] 42) = w1 at *
  obtain ⟨⟨a0, a1, a2, p0, p1, p2⟩, b0, b1, b2, q0, q1, q2⟩ := hB.facts
  go_region_law (go_simp; go_at_call 50; refine (rclean_fn _ _ _ _ (by first | exact hs | exact hs')).mono ?_; simp only [Hca.out, Hcb.out]; rintro e w2 ⟨rfl, hb2⟩; have hB' := Boxes.step hb2 (by first | assumption | exact hB.drew); obtain ⟨⟨a0, a1, a2, p0, p1, p2⟩, b0, b1, b2, q0, q1, q2⟩ := hB'.facts)
  all_goals
    clear hB hb2 hg hs hs' Hca Hcb
    go_wp2_with fail
    go_ret
    exact ⟨rfl, hB'.stored _ _ _ _ _ _⟩

theorem rcompare_nlt (k n : Int) (s : ByteArray) (k' n' : Int) (s' : ByteArray) (w : World) (hs : s.size ≤ maxLen) (hs' : s'.size ≤ maxLen) (kc nc : Int) (sc : ByteArray) (kd nd : Int) (sd : ByteArray) (Hca : Hid (cleanV ⟨k, n, s⟩ = ⟨kc, nc, sc⟩)) (Hcb : Hid (cleanV ⟨k', n', s'⟩ = ⟨kd, nd, sd⟩)) (hne : (kc == kd && (nc == nd && sc.toList == sd.toList)) = false) (hk : kc = kd) (h : nc < nd) :
    Calls Try.prog 65 #[.agg #[.int .i64 k, .int .i64 n, .string s], .agg #[.int .i64 k', .int .i64 n', .string s']] w fun e w' => e = .returned (.int .i64 (-1)) ∧ Below w.heap.size w w' := by
  have hB := boxes_start w ⟨k, n, s⟩ ⟨k', n', s'⟩
  have hg := guardV
  subst hk
  have heq := fun w => (eqlV kc nc kc nd sc sd w).trans (by rw [hne])
  clear hne
  go_enter Try.func65, Try.ntmps65
  go_wp2_with fail
  generalize (w.alloc (.cells #[.int .i64 k, .int .i64 n, .string s] 42)).alloc (.cells #[.int .i64 k', .int .i64 n', .string s'] 42) = w1 at *
  obtain ⟨⟨a0, a1, a2, p0, p1, p2⟩, b0, b1, b2, q0, q1, q2⟩ := hB.facts
  go_region_law (go_simp; go_at_call 50; refine (rclean_fn _ _ _ _ (by first | exact hs | exact hs')).mono ?_; simp only [Hca.out, Hcb.out]; rintro e w2 ⟨rfl, hb2⟩; have hB' := Boxes.step hb2 (by first | assumption | exact hB.drew); obtain ⟨⟨a0, a1, a2, p0, p1, p2⟩, b0, b1, b2, q0, q1, q2⟩ := hB'.facts)
  all_goals
    go_wp2_with fail
    go_ret
    exact ⟨rfl, hB'.stored _ _ _ _ _ _⟩

theorem rcompare_slt (k n : Int) (s : ByteArray) (k' n' : Int) (s' : ByteArray) (w : World) (hs : s.size ≤ maxLen) (hs' : s'.size ≤ maxLen) (kc nc : Int) (sc : ByteArray) (kd nd : Int) (sd : ByteArray) (Hca : Hid (cleanV ⟨k, n, s⟩ = ⟨kc, nc, sc⟩)) (Hcb : Hid (cleanV ⟨k', n', s'⟩ = ⟨kd, nd, sd⟩)) (hne : (kc == kd && (nc == nd && sc.toList == sd.toList)) = false) (hk : kc = kd) (h : nd ≤ nc) (hb : Op.bytesLess sc.toList sd.toList = true) :
    Calls Try.prog 65 #[.agg #[.int .i64 k, .int .i64 n, .string s], .agg #[.int .i64 k', .int .i64 n', .string s']] w fun e w' => e = .returned (.int .i64 (-1)) ∧ Below w.heap.size w w' := by
  have hB := boxes_start w ⟨k, n, s⟩ ⟨k', n', s'⟩
  have hg := guardV
  subst hk
  have heq := fun w => (eqlV kc nc kc nd sc sd w).trans (by rw [hne])
  clear hne
  go_enter Try.func65, Try.ntmps65
  go_wp2_with fail
  generalize (w.alloc (.cells #[.int .i64 k, .int .i64 n, .string s] 42)).alloc (.cells #[.int .i64 k', .int .i64 n', .string s'] 42) = w1 at *
  obtain ⟨⟨a0, a1, a2, p0, p1, p2⟩, b0, b1, b2, q0, q1, q2⟩ := hB.facts
  go_region_law (go_simp; go_at_call 50; refine (rclean_fn _ _ _ _ (by first | exact hs | exact hs')).mono ?_; simp only [Hca.out, Hcb.out]; rintro e w2 ⟨rfl, hb2⟩; have hB' := Boxes.step hb2 (by first | assumption | exact hB.drew); obtain ⟨⟨a0, a1, a2, p0, p1, p2⟩, b0, b1, b2, q0, q1, q2⟩ := hB'.facts)
  all_goals
    go_wp2_with fail
    go_ret
    exact ⟨rfl, hB'.stored _ _ _ _ _ _⟩

theorem rcompare_ngt (k n : Int) (s : ByteArray) (k' n' : Int) (s' : ByteArray) (w : World) (hs : s.size ≤ maxLen) (hs' : s'.size ≤ maxLen) (kc nc : Int) (sc : ByteArray) (kd nd : Int) (sd : ByteArray) (Hca : Hid (cleanV ⟨k, n, s⟩ = ⟨kc, nc, sc⟩)) (Hcb : Hid (cleanV ⟨k', n', s'⟩ = ⟨kd, nd, sd⟩)) (hk : kc = kd) (h : nd < nc) (hb : Op.bytesLess sc.toList sd.toList = false) :
    Calls Try.prog 65 #[.agg #[.int .i64 k, .int .i64 n, .string s], .agg #[.int .i64 k', .int .i64 n', .string s']] w fun e w' => e = .returned (.int .i64 (1)) ∧ Below w.heap.size w w' := by
  have hB := boxes_start w ⟨k, n, s⟩ ⟨k', n', s'⟩
  have hg := guardV
  subst hk
  have hd : decide (nc < nd) = false := by simp; omega
  have e1 : (nc == nd) = false := by simp; omega
  go_enter Try.func65, Try.ntmps65
  go_wp2_with fail
  generalize (w.alloc (.cells #[.int .i64 k, .int .i64 n, .string s] 42)).alloc (.cells #[.int .i64 k', .int .i64 n', .string s'] 42) = w1 at *
  obtain ⟨⟨a0, a1, a2, p0, p1, p2⟩, b0, b1, b2, q0, q1, q2⟩ := hB.facts
  go_region_law (go_simp; go_at_call 50; refine (rclean_fn _ _ _ _ (by first | exact hs | exact hs')).mono ?_; simp only [Hca.out, Hcb.out]; rintro e w2 ⟨rfl, hb2⟩; have hB' := Boxes.step hb2 (by first | assumption | exact hB.drew); obtain ⟨⟨a0, a1, a2, p0, p1, p2⟩, b0, b1, b2, q0, q1, q2⟩ := hB'.facts)
  all_goals
    clear hB hb2 hg hs hs' Hca Hcb
    go_wp2_with fail
    go_ret
    exact ⟨rfl, hB'.stored _ _ _ _ _ _⟩

theorem rcompare_sgt (k n : Int) (s : ByteArray) (k' n' : Int) (s' : ByteArray) (w : World) (hs : s.size ≤ maxLen) (hs' : s'.size ≤ maxLen) (kc nc : Int) (sc : ByteArray) (kd nd : Int) (sd : ByteArray) (Hca : Hid (cleanV ⟨k, n, s⟩ = ⟨kc, nc, sc⟩)) (Hcb : Hid (cleanV ⟨k', n', s'⟩ = ⟨kd, nd, sd⟩)) (hk : kc = kd) (h : nc = nd) (e1 : (sc.toList == sd.toList) = false) (hb : Op.bytesLess sc.toList sd.toList = false) :
    Calls Try.prog 65 #[.agg #[.int .i64 k, .int .i64 n, .string s], .agg #[.int .i64 k', .int .i64 n', .string s']] w fun e w' => e = .returned (.int .i64 (1)) ∧ Below w.heap.size w w' := by
  have hB := boxes_start w ⟨k, n, s⟩ ⟨k', n', s'⟩
  have hg := guardV
  subst hk
  subst h
  go_enter Try.func65, Try.ntmps65
  go_wp2_with fail
  generalize (w.alloc (.cells #[.int .i64 k, .int .i64 n, .string s] 42)).alloc (.cells #[.int .i64 k', .int .i64 n', .string s'] 42) = w1 at *
  obtain ⟨⟨a0, a1, a2, p0, p1, p2⟩, b0, b1, b2, q0, q1, q2⟩ := hB.facts
  go_region_law (go_simp; go_at_call 50; refine (rclean_fn _ _ _ _ (by first | exact hs | exact hs')).mono ?_; simp only [Hca.out, Hcb.out]; rintro e w2 ⟨rfl, hb2⟩; have hB' := Boxes.step hb2 (by first | assumption | exact hB.drew); obtain ⟨⟨a0, a1, a2, p0, p1, p2⟩, b0, b1, b2, q0, q1, q2⟩ := hB'.facts)
  all_goals
    clear hB hb2 hg hs hs' Hca Hcb
    go_wp2_with fail
    go_ret
    exact ⟨rfl, hB'.stored _ _ _ _ _ _⟩

theorem compareBytes_eq : ∀ a b : List UInt8, Lib.compareBytes a b = if a = b then 0 else if Op.bytesLess a b = true then -1 else 1
  | [], [] => by simp [Lib.compareBytes]
  | [], _ :: _ => by simp [Lib.compareBytes, Op.bytesLess]
  | _ :: _, [] => by simp [Lib.compareBytes, Op.bytesLess]
  | a :: l, b :: bs => by
    simp only [Lib.compareBytes, Op.bytesLess, compareBytes_eq l bs]
    rcases Nat.lt_trichotomy a.toNat b.toNat with h | h | h
    · have h1 : a < b := h
      have h2 : a ≠ b := fun e => by subst e; omega
      simp [h1, h2]
    · obtain rfl : a = b := UInt8.toNat_inj.1 h
      have h1 : ¬ a < a := fun e => by have : a.toNat < a.toNat := e; omega
      simp [h1]
    · have h1 : b < a := h
      have h2 : a ≠ b := fun e => by subst e; omega
      have h3 : ¬ a < b := fun e => by have : a.toNat < b.toNat := e; omega
      simp [h1, h2, h3]
/-- What a clean value looks like. -/
theorem rcompare_any (k n : Int) (s : ByteArray) (k' n' : Int) (s' : ByteArray) (w : World) (hs : s.size ≤ maxLen) (hs' : s'.size ≤ maxLen) :
    Calls Try.prog 65 #[.agg #[.int .i64 k, .int .i64 n, .string s], .agg #[.int .i64 k', .int .i64 n', .string s']] w fun e w' => e = .returned (.int .i64 (cmpV ⟨k, n, s⟩ ⟨k', n', s'⟩)) ∧ Below w.heap.size w w' := by
  unfold cmpV
  rcases clean_shape ⟨k, n, s⟩ with ha | ⟨x, ha⟩ | ⟨x, ha⟩ <;> rcases clean_shape ⟨k', n', s'⟩ with hb | ⟨y, hb⟩ | ⟨y, hb⟩ <;> rw [ha, hb]
  · exact rcompare_eq k n s k' n' s' w hs hs' _ _ _ _ _ _ ha hb rfl rfl rfl
  · exact rcompare_lt k n s k' n' s' w hs hs' _ _ _ _ _ _ ha hb (by simp) (by decide)
  · exact rcompare_lt k n s k' n' s' w hs hs' _ _ _ _ _ _ ha hb (by simp) (by decide)
  · exact rcompare_gt k n s k' n' s' w hs hs' _ _ _ _ _ _ ha hb (by decide)
  · rcases Int.lt_trichotomy x y with h | h | h
    · have e : cmpC ⟨1, x, ⟨#[]⟩⟩ ⟨1, y, ⟨#[]⟩⟩ = -1 := by simp [cmpC, Lib.compareInt, h]
      rw [e]
      exact rcompare_nlt k n s k' n' s' w hs hs' _ _ _ _ _ _ ha hb (by simp; omega) rfl h
    · subst h
      have e : cmpC ⟨1, x, ⟨#[]⟩⟩ ⟨1, x, ⟨#[]⟩⟩ = 0 := by simp [cmpC, Lib.compareInt]
      rw [e]
      exact rcompare_eq k n s k' n' s' w hs hs' _ _ _ _ _ _ ha hb rfl rfl rfl
    · have h2 : ¬ x < y := by omega
      have e : cmpC ⟨1, x, ⟨#[]⟩⟩ ⟨1, y, ⟨#[]⟩⟩ = 1 := by simp [cmpC, Lib.compareInt, h, h2]
      rw [e]
      exact rcompare_ngt k n s k' n' s' w hs hs' _ _ _ _ _ _ ha hb rfl (by omega) (by decide +kernel)
  · exact rcompare_lt k n s k' n' s' w hs hs' _ _ _ _ _ _ ha hb (by simp) (by decide)
  · exact rcompare_gt k n s k' n' s' w hs hs' _ _ _ _ _ _ ha hb (by decide)
  · exact rcompare_gt k n s k' n' s' w hs hs' _ _ _ _ _ _ ha hb (by decide)
  · by_cases h : x = y
    · subst h
      have e : cmpC ⟨2, 0, x⟩ ⟨2, 0, x⟩ = 0 := by simp [cmpC, compareBytes_eq]
      rw [e]
      exact rcompare_eq k n s k' n' s' w hs hs' _ _ _ _ _ _ ha hb rfl rfl rfl
    · have hne := byteArray_ne h
      have h' : ¬ x.data.toList = y.data.toList := fun e => h (by obtain ⟨⟨a⟩⟩ := x; obtain ⟨⟨b⟩⟩ := y; simp at e; rw [e])
      cases hbl : Op.bytesLess x.toList y.toList
      · have e : cmpC ⟨2, 0, x⟩ ⟨2, 0, y⟩ = 1 := by
          rw [ByteArray.toList_eq, ByteArray.toList_eq] at hbl
          simp [cmpC, compareBytes_eq, h', hbl]
        rw [e]
        exact rcompare_sgt k n s k' n' s' w hs hs' _ _ _ _ _ _ ha hb rfl rfl hne hbl
      · have e : cmpC ⟨2, 0, x⟩ ⟨2, 0, y⟩ = -1 := by
          rw [ByteArray.toList_eq, ByteArray.toList_eq] at hbl
          simp [cmpC, compareBytes_eq, h', hbl]
        rw [e]
        exact rcompare_slt k n s k' n' s' w hs hs' _ _ _ _ _ _ ha hb (by simp [hne]) rfl (by omega) hbl
end Go.Proofs.Ytdckpjkbchibjaa
