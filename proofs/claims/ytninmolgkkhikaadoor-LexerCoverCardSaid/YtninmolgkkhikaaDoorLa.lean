/- Plain functions of bytes: the tokens of a source (no program in this text). -/
import Derived.Test.YtninmolgkkhikaaDoorPa
namespace Go.Proofs.TX
open Go.Lib

def letB (c : UInt8) : Bool := decide (97 ≤ c.toNat) && decide (c.toNat ≤ 122)
def nameC (c : UInt8) : Bool := letB c || digB c || decide (c.toNat = 95)
def comC (c : UInt8) : Bool := decide (c.toNat ≠ 10)
/-- How many bytes of one class stand at the head. -/
def runC (p : UInt8 → Bool) : List UInt8 → Nat
  | [] => 0
  | c :: l => if p c = true then runC p l + 1 else 0
def nameB (l : List UInt8) : Bool := match l with
  | [] => false
  | c :: r => decide (r.length < 16) && letB c && (c :: r).all nameC
theorem runC_le (p : UInt8 → Bool) (l : List UInt8) : runC p l ≤ l.length := by
  induction l with
  | nil => exact Nat.le_refl _
  | cons c l ih => unfold runC; split <;> simp; omega
theorem runC_all (p : UInt8 → Bool) (l : List UInt8) : runC p l = l.length ↔ l.all p = true := by
  induction l with
  | nil => simp [runC]
  | cons c l ih =>
    unfold runC
    by_cases h : p c = true
    · rw [if_pos h]; simp [h, ← ih]
    · rw [if_neg h]; simp [h]
theorem runC_take (p : UInt8 → Bool) (l : List UInt8) : (l.take (runC p l)).all p = true := by
  induction l with
  | nil => rfl
  | cons c l ih =>
    unfold runC
    by_cases h : p c = true
    · rw [if_pos h, List.take_succ_cons]; simp only [List.all_cons, h, Bool.true_and]; exact ih
    · rw [if_neg h]; rfl
theorem runC_next (p : UInt8 → Bool) (l : List UInt8) (h : runC p l < l.length) : ∃ c r, l.drop (runC p l) = c :: r ∧ p c = false := by
  induction l with
  | nil => simp at h
  | cons c l ih =>
    unfold runC at h ⊢
    by_cases hc : p c = true
    · rw [if_pos hc] at h ⊢
      simp only [List.length_cons, List.drop_succ_cons] at h ⊢
      exact ih (by omega)
    · rw [if_neg hc]
      exact ⟨c, l, rfl, by simpa using hc⟩
/-- The run of a list whose first k bytes are of the class. -/
theorem runC_from (p : UInt8 → Bool) : ∀ (l : List UInt8) (k : Nat), k ≤ l.length → (l.take k).all p = true → runC p l = k + runC p (l.drop k) := by
  intro l
  induction l with
  | nil => intro k h _; simp at h; subst h; simp [runC]
  | cons c l ih =>
    intro k hk h
    cases k with
    | zero => simp
    | succ k =>
      simp only [List.take_succ_cons, List.all_cons, Bool.and_eq_true] at h
      rw [runC, if_pos h.1, ih k (by simpa using hk) h.2, List.drop_succ_cons]; omega
/-- The size of the sign at the head. -/
def sign1 (c : UInt8) : Bool := c == 40 || c == 41 || c == 44 || c == 46 || c == 59 || c == 43 || c == 45 || c == 42 || c == 47 || c == 61 || c == 60
def signN : List UInt8 → Nat
  | [] => 0
  | [c] => if sign1 c = true then 1 else 0
  | c :: d :: _ => if c == 43 && d == 43 || c == 60 && d == 61 then 2 else if sign1 c = true then 1 else 0
/-- A token without its position: kind, text, number; and its size. -/
structure Tk where
  k : Int
  s : List UInt8
  n : Int
inductive TR where
  | err (e : Int)
  | ok (t : Tk) (size : Nat)
def tokAt (l : List UInt8) : TR :=
  match l with
  | [] => .err 2
  | b :: r =>
    if letB b = true then (if runC nameC l ≤ 16 then .ok ⟨1, l.take (runC nameC l), 0⟩ (runC nameC l) else .err 1)
    else if digB b = true then
      (if isDec (l.take (runC digB l)) = true then (if valD (l.take (runC digB l)) ≤ 4294967296 then .ok ⟨2, [], valD (l.take (runC digB l))⟩ (runC digB l) else .err 1) else .err 2)
    else if b.toNat = 34 then
      (match unqt [] r with
       | some (t, m) => if t.length ≤ 32 then .ok ⟨3, t, 0⟩ (l.length - m) else .err 1
       | none => .err 2)
    else if signN l = 0 then .err 2 else .ok ⟨4, l.take (signN l), 0⟩ (signN l)
def blankC (c : UInt8) : Bool := decide (c.toNat = 32 ∨ c.toNat = 9 ∨ c.toNat = 13 ∨ c.toNat = 10)
/-- A token with its position. -/
structure Tok where
  k : Int
  s : ByteArray
  n : Int
  p : Int
def scanF : Nat → List UInt8 → Nat → List Tok → List Tok × Nat × Int
  | 0, _, _, acc => (acc, 0, 0)
  | _ + 1, [], _, acc => (acc, 0, 0)
  | f + 1, b :: r, at_, acc =>
    if blankC b = true then scanF f r (at_ + 1) acc
    else if b.toNat = 35 then scanF f ((b :: r).drop (runC comC (b :: r))) (at_ + runC comC (b :: r)) acc
    else match tokAt (b :: r) with
      | .err e => ([], at_, e)
      | .ok t n => if acc.length = 4096 then ([], at_, 8) else scanF f ((b :: r).drop n) (at_ + n) (acc ++ [⟨t.k, ⟨t.s.toArray⟩, t.n, at_⟩])
theorem scanF_blank (f : Nat) (b : UInt8) (r : List UInt8) (at_ : Nat) (acc : List Tok) (h : blankC b = true) : scanF (f + 1) (b :: r) at_ acc = scanF f r (at_ + 1) acc := by rw [scanF, if_pos h]
theorem scanF_com (f : Nat) (b : UInt8) (r : List UInt8) (at_ : Nat) (acc : List Tok) (h : b.toNat = 35) : scanF (f + 1) (b :: r) at_ acc = scanF f ((b :: r).drop (runC comC (b :: r))) (at_ + runC comC (b :: r)) acc := by
  rw [scanF, if_neg (by unfold blankC; simp [h]), if_pos h]
theorem scanF_err (f : Nat) (b : UInt8) (r : List UInt8) (at_ : Nat) (acc : List Tok) (h : blankC b = false) (h2 : b.toNat ≠ 35) (e : Int) (he : tokAt (b :: r) = .err e) : scanF (f + 1) (b :: r) at_ acc = ([], at_, e) := by
  rw [scanF, if_neg (by rw [h]; decide), if_neg h2, he]
theorem scanF_full (f : Nat) (b : UInt8) (r : List UInt8) (at_ : Nat) (acc : List Tok) (h : blankC b = false) (h2 : b.toNat ≠ 35) (t : Tk) (n : Nat) (he : tokAt (b :: r) = .ok t n) (hl : acc.length = 4096) : scanF (f + 1) (b :: r) at_ acc = ([], at_, 8) := by
  rw [scanF, if_neg (by rw [h]; decide), if_neg h2, he]; simp only; rw [if_pos hl]
theorem scanF_tok (f : Nat) (b : UInt8) (r : List UInt8) (at_ : Nat) (acc : List Tok) (h : blankC b = false) (h2 : b.toNat ≠ 35) (t : Tk) (n : Nat) (he : tokAt (b :: r) = .ok t n) (hl : acc.length ≠ 4096) : scanF (f + 1) (b :: r) at_ acc = scanF f ((b :: r).drop n) (at_ + n) (acc ++ [⟨t.k, ⟨t.s.toArray⟩, t.n, at_⟩]) := by
  rw [scanF, if_neg (by rw [h]; decide), if_neg h2, he]; simp only; rw [if_neg hl]
theorem scanF_nil (f : Nat) (at_ : Nat) (acc : List Tok) : scanF f [] at_ acc = (acc, 0, 0) := by cases f <;> rfl
theorem tokAt_err {l : List UInt8} {e : Int} (h : tokAt l = .err e) : e = 1 ∨ e = 2 := by
  unfold tokAt at h
  rcases l with _ | ⟨b, r⟩
  · simp at h; omega
  · simp only at h
    repeat' split at h
    all_goals first | (cases h; omega) | (cases h)
def scanL (l : List UInt8) : List Tok × Nat × Int := if 32768 < l.length then ([], 0, 8) else scanF l.length l 0 []
theorem signN_one (c : UInt8) : signN [c] = if sign1 c = true then 1 else 0 := rfl
theorem signN_two (c d : UInt8) (l : List UInt8) : signN (c :: d :: l) = if (c == 43 && d == 43 || c == 60 && d == 61) = true then 2 else if sign1 c = true then 1 else 0 := rfl
theorem signN_le (l : List UInt8) : signN l ≤ l.length ∧ signN l ≤ 2 := by
  rcases l with _ | ⟨c, _ | ⟨d, l⟩⟩
  · simp [signN]
  · have : signN [c] ≤ 1 := by rw [signN_one]; split <;> omega
    simp; omega
  · have : signN (c :: d :: l) ≤ 2 := by
      rw [signN_two]
      split
      · omega
      · split <;> omega
    simp; omega
theorem unqt_bound : ∀ (n : Nat) (l acc t : List UInt8) (m : Nat), l.length ≤ n → unqt acc l = some (t, m) → t.length + m + 1 ≤ acc.length + l.length := by
  intro n
  induction n with
  | zero => intro l acc t m h hu; have : l = [] := List.eq_nil_of_length_eq_zero (by omega); subst this; simp [unqt] at hu
  | succ n ih =>
    intro l acc t m h hu
    rcases l with _ | ⟨b, l⟩
    · simp [unqt] at hu
    · by_cases h34 : b.toNat = 34
      · obtain rfl := u34 h34
        rw [unqt_cons_q] at hu
        simp only [Option.some.injEq, Prod.mk.injEq] at hu
        obtain ⟨rfl, rfl⟩ := hu
        simp; omega
      · by_cases h9 : b.toNat = 92
        · obtain rfl := u92 h9
          rcases l with _ | ⟨h1, _ | ⟨h2, r⟩⟩
          · rw [unqt_esc0] at hu; simp at hu
          · rw [unqt_esc1] at hu; simp at hu
          · rw [unqt_esc] at hu
            cases he : esc2 h1 h2 with
            | none => rw [he] at hu; simp at hu
            | some x =>
              rw [he] at hu
              have := ih r _ t m (by simp at h; omega) hu
              simp at this ⊢; omega
        · rw [unqt_plain _ _ _ h34 h9] at hu
          split at hu
          · simp at hu
          · have := ih l _ t m (by simp at h; omega) hu
            simp at this ⊢; omega
theorem tokAt_size {l : List UInt8} {t : Tk} {n : Nat} (h : tokAt l = .ok t n) : 0 < n ∧ n ≤ l.length := by
  unfold tokAt at h
  rcases l with _ | ⟨b, r⟩
  · simp at h
  · have hpos : ∀ p : UInt8 → Bool, p b = true → 0 < runC p (b :: r) := fun p hp => by rw [runC, if_pos hp]; omega
    simp only at h
    split at h
    · rename_i h1
      split at h
      · cases h; exact ⟨hpos _ (by unfold nameC; rw [h1]; rfl), runC_le _ _⟩
      · cases h
    · split at h
      · rename_i h1
        split at h
        · split at h
          · cases h; exact ⟨hpos _ h1, runC_le _ _⟩
          · cases h
        · cases h
      · split at h
        · split at h
          · rename_i t0 m hu
            split at h
            · cases h
              have : t0.length + m + 1 ≤ 0 + r.length := by
                have := unqt_bound r.length r [] t0 m (Nat.le_refl _) hu
                simpa using this
              simp; omega
            · cases h
          · cases h
        · split at h
          · cases h
          · rename_i h0
            cases h
            exact ⟨by omega, (signN_le _).1⟩
end Go.Proofs.TX
