/- Plain mathematics: the order of rows is total; the reference's Same; what CompareRows says of equal rows. -/
import Derived.Test.YtdckpjkbchibjaaMa
import Derived.Test.YtdckpjkbchibjaaTb
namespace Go.Proofs.Ytdckpjkbchibjaa
open Go.RowKit Go.Proofs.EB
open Go.Lib (compareBytes compareInt)
set_option maxHeartbeats 1000000

theorem cb_range : ∀ a b : List UInt8, compareBytes a b = -1 ∨ compareBytes a b = 0 ∨ compareBytes a b = 1
  | [], [] => by simp [compareBytes]
  | [], _ :: _ => by simp [compareBytes]
  | _ :: _, [] => by simp [compareBytes]
  | a :: l, b :: m => by
    rcases Nat.lt_trichotomy a.toNat b.toNat with h | h | h
    · rw [cb_lt h]; simp
    · obtain rfl := UInt8.toNat_inj.1 h
      rw [cb_same]; exact cb_range l m
    · rw [cb_gt h]; simp
theorem cb_anti : ∀ a b : List UInt8, compareBytes b a = - compareBytes a b
  | [], [] => by simp [compareBytes]
  | [], _ :: _ => by simp [compareBytes]
  | _ :: _, [] => by simp [compareBytes]
  | a :: l, b :: m => by
    rcases Nat.lt_trichotomy a.toNat b.toNat with h | h | h
    · rw [cb_lt h, cb_gt h]; rfl
    · obtain rfl := UInt8.toNat_inj.1 h
      rw [cb_same, cb_same]; exact cb_anti l m
    · rw [cb_gt h, cb_lt h]
theorem cb_refl : ∀ a : List UInt8, compareBytes a a = 0
  | [] => rfl
  | a :: l => by rw [cb_same]; exact cb_refl l
theorem cb_eq : ∀ a b : List UInt8, compareBytes a b = 0 → a = b
  | [], [] => fun _ => rfl
  | [], _ :: _ => by simp [compareBytes]
  | _ :: _, [] => by simp [compareBytes]
  | a :: l, b :: m => by
    rcases Nat.lt_trichotomy a.toNat b.toNat with h | h | h
    · rw [cb_lt h]; simp
    · obtain rfl := UInt8.toNat_inj.1 h
      rw [cb_same]; intro e; rw [cb_eq l m e]
    · rw [cb_gt h]; simp
theorem cb_trans : ∀ a b c : List UInt8, compareBytes a b ≤ 0 → compareBytes b c ≤ 0 → compareBytes a c ≤ 0 ∧ (compareBytes a b < 0 → compareBytes a c < 0)
  | [], [], c => fun _ h => ⟨h, by simp [compareBytes]⟩
  | [], _ :: _, [] => by simp [compareBytes]
  | [], _ :: _, _ :: _ => by simp [compareBytes]
  | _ :: _, [], c => by simp [compareBytes]
  | _ :: _, _ :: _, [] => by simp [compareBytes]
  | a :: l, b :: m, c :: k => by
    rcases Nat.lt_trichotomy a.toNat b.toNat with h | h | h
    · rcases Nat.lt_trichotomy b.toNat c.toNat with h2 | h2 | h2
      · rw [cb_lt h, cb_lt h2, cb_lt (x := a) (y := c) (by omega)]; simp
      · intro _ _; rw [cb_lt (x := a) (y := c) (by omega)]; simp
      · rw [cb_gt h2]; simp
    · obtain rfl := UInt8.toNat_inj.1 h
      rcases Nat.lt_trichotomy a.toNat c.toNat with h2 | h2 | h2
      · intro _ _; rw [cb_lt (x := a) (y := c) h2]; simp
      · obtain rfl := UInt8.toNat_inj.1 h2
        rw [cb_same, cb_same, cb_same]
        exact cb_trans l m k
      · rw [cb_gt h2]; simp
    · rw [cb_gt h]; simp

theorem cmp_range (a b : List V) : cmpRows a b = -1 ∨ cmpRows a b = 0 ∨ cmpRows a b = 1 := by rw [← cb_rows]; exact cb_range _ _
theorem cmp_anti (a b : List V) : cmpRows b a = - cmpRows a b := by rw [← cb_rows, ← cb_rows]; exact cb_anti _ _
theorem cmp_refl (a : List V) : cmpRows a a = 0 := by rw [← cb_rows]; exact cb_refl _
theorem cmp_trans (a b c : List V) (h1 : cmpRows a b ≤ 0) (h2 : cmpRows b c ≤ 0) : cmpRows a c ≤ 0 ∧ (cmpRows a b < 0 → cmpRows a c < 0) := by
  rw [← cb_rows] at h1 h2
  rw [← cb_rows a c, ← cb_rows a b]
  exact cb_trans _ _ _ h1 h2
theorem cmpV_zero {a b : V} (h : cmpV a b = 0) : cleanV a = cleanV b := by
  unfold cmpV at h
  rcases clean_shape a with ha | ⟨x, ha⟩ | ⟨x, ha⟩ <;> rcases clean_shape b with hb | ⟨y, hb⟩ | ⟨y, hb⟩ <;> rw [ha, hb] at h ⊢ <;> simp only [cmpC] at h
  · simp [compareInt] at h
  · simp [compareInt] at h
  · simp [compareInt] at h
  · simp only [if_true, compareInt] at h
    have : x = y := by
      split at h
      · simp at h
      · split at h
        · simp at h
        · omega
    rw [this]
  · simp [compareInt] at h
  · simp [compareInt] at h
  · simp [compareInt] at h
  · have e : ¬ (2 : Int) = 1 := by decide
    simp only [e, if_true, if_false] at h
    have := cb_eq _ _ h
    obtain ⟨⟨l⟩⟩ := x
    obtain ⟨⟨m⟩⟩ := y
    simp at this
    rw [this]
theorem cmp_zero : ∀ a b : List V, (∀ x ∈ a, vB x = true) → (∀ x ∈ b, vB x = true) → cmpRows a b = 0 → a = b
  | [], [] => fun _ _ _ => rfl
  | [], _ :: _ => fun _ _ h => by simp [cmpRows] at h
  | _ :: _, [] => fun _ _ h => by simp [cmpRows] at h
  | x :: l, y :: m => fun ha hb h => by
    simp only [cmpRows] at h
    by_cases hz : cmpV x y = 0
    · rw [if_pos hz] at h
      have e := cmpV_zero hz
      rw [cleanV_idem (ha x (by simp)), cleanV_idem (hb y (by simp))] at e
      rw [e, cmp_zero l m (fun z hz => ha z (by simp [hz])) (fun z hz => hb z (by simp [hz])) h]
    · rw [if_neg hz] at h
      exact absurd h hz

def eqV (a b : V) : Bool := a.k == b.k && (a.n == b.n && a.s.toList == b.s.toList)
theorem eqV_iff (a b : V) : eqV a b = true ↔ a = b := by
  obtain ⟨k, n, s⟩ := a
  obtain ⟨k', n', s'⟩ := b
  simp only [eqV, Bool.and_eq_true, beq_iff_eq, V.mk.injEq]
  constructor
  · rintro ⟨h1, h2, h3⟩
    rw [ByteArray.toList_eq, ByteArray.toList_eq] at h3
    obtain ⟨⟨l⟩⟩ := s
    obtain ⟨⟨m⟩⟩ := s'
    simp at h3
    exact ⟨h1, h2, by rw [h3]⟩
  · rintro ⟨h1, h2, h3⟩
    exact ⟨h1, h2, by rw [h3]⟩
theorem same_any (ao bo : Option Addr) (ca cb : Nat) (a b : List V) (w : World) (r : Bool) (hr : r = true ↔ a = b) (ha : a.length ≤ maxLen) (hb : b.length ≤ maxLen) (hra : RowAt w w.heap.size ao a) (hrb : RowAt w w.heap.size bo b) :
    Calls Try.prog 47 #[.slice ao a.length ca, .slice bo b.length cb] w fun e w' => e = .returned (.bool r) ∧ Below w.heap.size w w' := by
  unfold maxLen at ha hb
  by_cases hl : a.length = b.length
  · have h1 : ((a.length : Int) == (b.length : Int)) = true := by simp [hl]
    have h2 : ((a.length : Int) != (b.length : Int)) = false := by simp [hl]
    have Hl := Lib.hid hl
    have Hr := Lib.hid hr
    clear hl hr
    go_enter Try.func47, Try.ntmps47
    go_wp2_with fail
    go_loopw [5] (fun i wr => ∃ k : Nat, k ≤ a.length ∧ i = .int .i64 k ∧ Below w.heap.size w wr ∧ Hid (∀ j (h1 : j < a.length) (h2 : j < b.length), j < k → a[j] = b[j])) (fun i _ => a.length - (intOf i).toNat)
    case atStart => exact ⟨0, Nat.zero_le _, rfl, Below.refl _ _, fun j _ _ h => absurd h (by omega)⟩
    case round =>
      obtain ⟨i, hi, rfl, hbl, hall⟩ := hrel
      by_cases hlt : i < a.length
      · have hlt2 : i < b.length := by have := Hl.out; omega
        obtain ⟨b1, o1, k1, n1, s1, rfl, hB1, hv1, hok1, c1, c2, c3⟩ := (hra.below hbl).at hlt
        obtain ⟨b2, o2, k2, n2, s2, rfl, hB2, hv2, hok2, d1, d2, d3⟩ := (hrb.below hbl).at hlt2
        have Hv1 := Lib.hid hv1
        have Hv2 := Lib.hid hv2
        have q1 : (i : Int) < (a.length : Int) := by omega
        have q2 : (i : Int) < (b.length : Int) := by omega
        have q3 : (0 : Int) ≤ (i : Int) := by omega
        clear hv1 hv2 hok1 hok2
        have hg := guardV
        have hne := fun w => neqlV k1 n1 k2 n2 s1 s2 w
        cases he : eqV ⟨k1, n1, s1⟩ ⟨k2, n2, s2⟩
        · have he' : (k1 == k2 && (n1 == n2 && s1.toList == s2.toList)) = false := he
          go_wp2_with fail
          go_quiet (fail)
          go_wp2_with fail
          go_ret
          have hrf : r = false := by
            cases hrr : r
            · rfl
            · exfalso
              have e := Hr.out.1 hrr
              subst e
              have : (⟨k1, n1, s1⟩ : V) = ⟨k2, n2, s2⟩ := by rw [← Hv1.out, ← Hv2.out]
              rw [(eqV_iff _ _).2 this] at he
              cases he
          subst hrf
          exact ⟨rfl, hbl.trans ⟨rfl, rfl, rfl, Nat.le_refl _, fun _ _ => rfl⟩⟩
        · have hee := (eqV_iff _ _).1 he
          simp only [V.mk.injEq] at hee
          obtain ⟨rfl, rfl, rfl⟩ := hee
          have hne' := fun w => neqlV_same k1 n1 s1 w
          clear he hne
          go_wp2_with fail
          go_quiet (fail)
          go_wp2_with fail
          go_roundw
          case rel =>
            refine ⟨i + 1, by omega, by go_num, hbl.trans ⟨rfl, rfl, rfl, Nat.le_refl _, fun _ _ => rfl⟩, ?_⟩
            intro j h1 h2 hj
            by_cases hje : j < i
            · exact hall.out j h1 h2 hje
            · obtain rfl : j = i := by omega
              rw [Hv1.out, Hv2.out]
          case measure => simp [intOf]; omega
      · have hre : r = true := Hr.out.2 (List.ext_getElem Hl.out fun j h1 h2 => hall.out j h1 h2 (by omega))
        subst hre
        go_wp2_with fail
        go_ret
        exact ⟨rfl, hbl⟩
  · have h1 : ((a.length : Int) == (b.length : Int)) = false := by simp; omega
    have h2 : ((a.length : Int) != (b.length : Int)) = true := by simp; omega
    have hrf : r = false := by
      cases hrr : r
      · rfl
      · exact absurd (congrArg List.length (hr.1 hrr)) hl
    subst hrf
    clear hr hl
    go_enter Try.func47, Try.ntmps47
    go_wp2_with fail
    go_ret
    exact ⟨rfl, Below.refl _ _⟩
end Go.Proofs.Ytdckpjkbchibjaa
