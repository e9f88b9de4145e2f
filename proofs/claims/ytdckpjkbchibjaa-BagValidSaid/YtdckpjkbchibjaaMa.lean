/- Plain mathematics: the byte forms of rows are ordered as the rows are. -/
import Derived.Test.YtdckpjkbchibjaaVj
namespace Go.Proofs.Ytdckpjkbchibjaa
open Go.Lib (compareBytes compareInt)

theorem cb_same : ∀ (x : UInt8) (p q : List UInt8), compareBytes (x :: p) (x :: q) = compareBytes p q := by
  intro x p q
  have h : ¬ x < x := fun e => by have : x.toNat < x.toNat := e; omega
  simp [compareBytes, h]
theorem cb_lt {x y : UInt8} (h : x.toNat < y.toNat) (p q : List UInt8) : compareBytes (x :: p) (y :: q) = -1 := by
  have h1 : x < y := h
  simp [compareBytes, h1]
theorem cb_gt {x y : UInt8} (h : y.toNat < x.toNat) (p q : List UInt8) : compareBytes (x :: p) (y :: q) = 1 := by
  have h1 : y < x := h
  have h2 : ¬ x < y := fun e => by have : x.toNat < y.toNat := e; omega
  simp [compareBytes, h1, h2]
theorem cb_nil (y : UInt8) (q : List UInt8) : compareBytes [] (y :: q) = -1 := rfl
theorem cb_cons_nil (x : UInt8) (p : List UInt8) : compareBytes (x :: p) [] = 1 := rfl

/-- The texts. -/
theorem cb_text (p q : List UInt8) : ∀ a b : List UInt8, compareBytes (escL a ++ ([0, 0] ++ p)) (escL b ++ ([0, 0] ++ q)) = if compareBytes a b = 0 then compareBytes p q else compareBytes a b := by
  intro a
  induction a with
  | nil =>
    intro b
    cases b with
    | nil => simp [escL, compareBytes, cb_same]
    | cons y m =>
      simp only [cb_nil]
      by_cases hy : y.toNat = 0
      · have e : escL (y :: m) = 0 :: 255 :: escL m := by simp [escL, esc1, hy]
        rw [e]
        show compareBytes (0 :: 0 :: p) (0 :: 255 :: _) = _
        rw [cb_same, cb_lt (by decide)]
        rfl
      · have e : escL (y :: m) = y :: escL m := by simp [escL, esc1, hy]
        rw [e]
        show compareBytes (0 :: 0 :: p) (y :: _) = _
        rw [cb_lt (by show 0 < y.toNat; omega)]
        rfl
  | cons x l ih =>
    intro b
    cases b with
    | nil =>
      simp only [cb_cons_nil]
      by_cases hx : x.toNat = 0
      · have e : escL (x :: l) = 0 :: 255 :: escL l := by simp [escL, esc1, hx]
        rw [e]
        show compareBytes (0 :: 255 :: _) (0 :: 0 :: q) = _
        rw [cb_same, cb_gt (by decide)]
        rfl
      · have e : escL (x :: l) = x :: escL l := by simp [escL, esc1, hx]
        rw [e]
        show compareBytes (x :: _) (0 :: 0 :: q) = _
        rw [cb_gt (by show 0 < x.toNat; omega)]
        rfl
    | cons y m =>
      have ex : escL (x :: l) = esc1 x ++ escL l := by simp [escL]
      have ey : escL (y :: m) = esc1 y ++ escL m := by simp [escL]
      rcases Nat.lt_trichotomy x.toNat y.toNat with h | h | h
      · rw [cb_lt h, ex, ey]
        have hy : y.toNat ≠ 0 := by omega
        by_cases hx : x.toNat = 0
        · simp only [esc1, hx, hy, if_true, if_false]
          show compareBytes (0 :: _) (y :: _) = _
          rw [cb_lt (by show 0 < y.toNat; omega)]; rfl
        · simp only [esc1, hx, hy, if_false]
          show compareBytes (x :: _) (y :: _) = _
          rw [cb_lt h]; rfl
      · obtain rfl : x = y := UInt8.toNat_inj.1 h
        rw [cb_same, ex, ey]
        have ih' := ih m
        unfold esc1
        split
        · show compareBytes (0 :: 255 :: _) (0 :: 255 :: _) = _
          rw [cb_same, cb_same]; exact ih'
        · show compareBytes (x :: _) (x :: _) = _
          rw [cb_same]; exact ih'
      · rw [cb_gt h, ex, ey]
        have hx : x.toNat ≠ 0 := by omega
        by_cases hy : y.toNat = 0
        · simp only [esc1, hx, hy, if_true, if_false]
          show compareBytes (x :: _) (0 :: _) = _
          rw [cb_gt (by show 0 < x.toNat; omega)]; rfl
        · simp only [esc1, hx, hy, if_false]
          show compareBytes (x :: _) (y :: _) = _
          rw [cb_gt h]; rfl

theorem byteAt_toNat (m : Int) (i : Nat) (h : 0 ≤ m) : ((byteAt m i).toNat : Int) = m / 256 ^ i % 256 := by
  have h1 : 0 ≤ m / 256 ^ i := Int.ediv_nonneg h (by exact Int.pow_nonneg (by decide))
  unfold byteAt
  simp only [UInt8.toNat_ofNat']
  omega
/-- The integers. -/
theorem cb_int (p q : List UInt8) (m n : Int) (hm : 0 ≤ m) (hn : 0 ≤ n) (hm1 : m < 1099511627776) (hn1 : n < 1099511627776) : compareBytes (int5 m ++ p) (int5 n ++ q) = if compareInt m n = 0 then compareBytes p q else compareInt m n := by
  have a4 := byteAt_toNat m 4 hm
  have a3 := byteAt_toNat m 3 hm
  have a2 := byteAt_toNat m 2 hm
  have a1 := byteAt_toNat m 1 hm
  have a0 := byteAt_toNat m 0 hm
  have b4 := byteAt_toNat n 4 hn
  have b3 := byteAt_toNat n 3 hn
  have b2 := byteAt_toNat n 2 hn
  have b1 := byteAt_toNat n 1 hn
  have b0 := byteAt_toNat n 0 hn
  show compareBytes (byteAt m 4 :: byteAt m 3 :: byteAt m 2 :: byteAt m 1 :: byteAt m 0 :: p) (byteAt n 4 :: byteAt n 3 :: byteAt n 2 :: byteAt n 1 :: byteAt n 0 :: q) = _
  generalize byteAt m 4 = x4 at *
  generalize byteAt m 3 = x3 at *
  generalize byteAt m 2 = x2 at *
  generalize byteAt m 1 = x1 at *
  generalize byteAt m 0 = x0 at *
  generalize byteAt n 4 = y4 at *
  generalize byteAt n 3 = y3 at *
  generalize byteAt n 2 = y2 at *
  generalize byteAt n 1 = y1 at *
  generalize byteAt n 0 = y0 at *
  have lt : m < n → compareInt m n = -1 := fun h => by simp [compareInt, h]
  have gt : n < m → compareInt m n = 1 := fun h => by
    have h2 : ¬ m < n := by omega
    simp [compareInt, h, h2]
  rcases Nat.lt_trichotomy x4.toNat y4.toNat with h | h | h
  · rw [cb_lt h, lt (by omega)]; rfl
  · obtain rfl := UInt8.toNat_inj.1 h
    rw [cb_same]
    rcases Nat.lt_trichotomy x3.toNat y3.toNat with h | h | h
    · rw [cb_lt h, lt (by omega)]; rfl
    · obtain rfl := UInt8.toNat_inj.1 h
      rw [cb_same]
      rcases Nat.lt_trichotomy x2.toNat y2.toNat with h | h | h
      · rw [cb_lt h, lt (by omega)]; rfl
      · obtain rfl := UInt8.toNat_inj.1 h
        rw [cb_same]
        rcases Nat.lt_trichotomy x1.toNat y1.toNat with h | h | h
        · rw [cb_lt h, lt (by omega)]; rfl
        · obtain rfl := UInt8.toNat_inj.1 h
          rw [cb_same]
          rcases Nat.lt_trichotomy x0.toNat y0.toNat with h | h | h
          · rw [cb_lt h, lt (by omega)]; rfl
          · obtain rfl := UInt8.toNat_inj.1 h
            rw [cb_same]
            obtain rfl : m = n := by omega
            simp [compareInt]
          · rw [cb_gt h, gt (by omega)]; rfl
        · rw [cb_gt h, gt (by omega)]; rfl
      · rw [cb_gt h, gt (by omega)]; rfl
    · rw [cb_gt h, gt (by omega)]; rfl
  · rw [cb_gt h, gt (by omega)]; rfl

theorem compareInt_shift (a b c : Int) : compareInt (a + c) (b + c) = compareInt a b := by
  simp only [compareInt, Int.add_lt_add_iff_right, gt_iff_lt]
theorem cb_val (p q : List UInt8) (a b : V) : compareBytes (encV (cleanV a) ++ p) (encV (cleanV b) ++ q) = if cmpV a b = 0 then compareBytes p q else cmpV a b := by
  have va := cleanV_valid a
  have vb := cleanV_valid b
  unfold cmpV
  rcases clean_shape a with ha | ⟨x, ha⟩ | ⟨x, ha⟩ <;> rcases clean_shape b with hb | ⟨y, hb⟩ | ⟨y, hb⟩ <;> rw [ha, hb] <;> rw [ha] at va <;> rw [hb] at vb <;> simp only [encV, cmpC]
  · simp [cb_same]
  · simp [cb_lt, compareInt]
  · simp [cb_lt, compareInt]
  · simp [cb_gt, compareInt]
  · simp [vB, validB] at va vb
    simp only [if_true, List.cons_append, cb_same]
    rw [cb_int p q _ _ (by omega) (by omega) (by omega) (by omega), compareInt_shift]
  · simp [cb_lt, compareInt]
  · simp [cb_gt, compareInt]
  · simp [cb_gt, compareInt]
  · have e : ¬ (2 : Int) = 1 := by decide
    simp only [e, if_true, if_false, List.cons_append, cb_same, List.append_assoc]
    exact cb_text p q _ _
theorem encV_ne (a : V) : ∃ x l, encV (cleanV a) = x :: l := by
  unfold encV
  split
  · exact ⟨_, _, rfl⟩
  · split
    · exact ⟨_, _, rfl⟩
    · exact ⟨_, _, rfl⟩
/-- THE EMBEDDING. -/
theorem cb_rows : ∀ a b : List V, compareBytes (encRow a) (encRow b) = cmpRows a b
  | [], [] => rfl
  | [], y :: m => by
    obtain ⟨x, l, e⟩ := encV_ne y
    simp [encRow, e, cmpRows, cb_nil]
  | x :: l, [] => by
    obtain ⟨z, l', e⟩ := encV_ne x
    simp [encRow, e, cmpRows, cb_cons_nil]
  | x :: l, y :: m => by
    have ih := cb_rows l m
    have e1 : encRow (x :: l) = encV (cleanV x) ++ encRow l := by simp [encRow]
    have e2 : encRow (y :: m) = encV (cleanV y) ++ encRow m := by simp [encRow]
    rw [e1, e2, cb_val, ih]
    simp only [cmpRows]
end Go.Proofs.Ytdckpjkbchibjaa
