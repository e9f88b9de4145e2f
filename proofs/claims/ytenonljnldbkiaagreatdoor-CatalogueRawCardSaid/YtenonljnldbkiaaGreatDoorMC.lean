/- Plain functions of bytes: what a text form reads as (no program in this text). -/
import Derived.Lib.ParseIntB
import Derived.Lib.ItoaMem
import Derived.Lib.Bytealg
import Derived.Lib.IndexLaws
import Derived.Test.YtenonljnldbkiaaGreatDoorMA
import Derived.Test.YtenonljnldbkiaaGreatDoorMB
namespace Go.Proofs.TX
open Go.Lib

def needN (b : Nat) : Bool := decide (b = 34 ∨ b = 92 ∨ b < 32 ∨ 126 < b)
def hexV (c : UInt8) : Option Nat := if 48 ≤ c.toNat ∧ c.toNat ≤ 57 then some (c.toNat - 48) else if 97 ≤ c.toNat ∧ c.toNat ≤ 102 then some (c.toNat - 87) else none
theorem hexV_lt {c : UInt8} {a : Nat} (h : hexV c = some a) : a < 16 := by
  unfold hexV at h; split at h
  · simp at h; omega
  · split at h
    · simp at h; omega
    · simp at h
/-- The byte that two digits stand for, if it is one that has to be escaped. -/
def esc2 (h1 h2 : UInt8) : Option UInt8 :=
  match hexV h1, hexV h2 with
  | some a, some b => if needN (a * 16 + b) = true then some (UInt8.ofNat (a * 16 + b)) else none
  | _, _ => none
/-- The text whose bytes are written so. -/
def unesc : List UInt8 → List UInt8 → Option (List UInt8)
  | acc, [] => some acc
  | acc, b :: l =>
    if b.toNat = 92 then
      match l with
      | h1 :: h2 :: r => match esc2 h1 h2 with
        | some x => unesc (acc ++ [x]) r
        | none => none
      | _ => none
    else if needN b.toNat = true then none
    else unesc (acc ++ [b]) l
/-- The text up to the next quotation mark, and how many bytes stand behind it. -/
def unqt : List UInt8 → List UInt8 → Option (List UInt8 × Nat)
  | _, [] => none
  | acc, b :: l =>
    if b.toNat = 34 then some (acc, l.length)
    else if b.toNat = 92 then
      match l with
      | h1 :: h2 :: r => match esc2 h1 h2 with
        | some x => unqt (acc ++ [x]) r
        | none => none
      | _ => none
    else if needN b.toNat = true then none
    else unqt (acc ++ [b]) l

theorem hexV_quote : hexV 34 = none := by decide
theorem u34 {b : UInt8} (h : b.toNat = 34) : b = 34 := UInt8.toNat_inj.1 h
theorem u92 {b : UInt8} (h : b.toNat = 92) : b = 92 := UInt8.toNat_inj.1 h
theorem esc2_ne {h1 h2 : UInt8} {x : UInt8} (h : esc2 h1 h2 = some x) : h1.toNat ≠ 34 ∧ h2.toNat ≠ 34 := by
  constructor <;> intro e <;> have := u34 e <;> subst this <;> unfold esc2 at h <;> rw [hexV_quote] at h
  · simp at h
  · cases hexV h1 <;> simp at h
theorem esc2_some {h1 h2 x : UInt8} (h : esc2 h1 h2 = some x) : ∃ a b, hexV h1 = some a ∧ hexV h2 = some b ∧ needN (a * 16 + b) = true ∧ x = UInt8.ofNat (a * 16 + b) := by
  unfold esc2 at h
  cases h3 : hexV h1 with
  | none => rw [h3] at h; simp at h
  | some a =>
    cases h4 : hexV h2 with
    | none => rw [h3, h4] at h; simp at h
    | some b =>
      rw [h3, h4] at h
      simp only at h
      split at h
      · exact ⟨a, b, rfl, rfl, by assumption, by simpa using h.symm⟩
      · simp at h

theorem unesc_esc (acc : List UInt8) (h1 h2 : UInt8) (r : List UInt8) : unesc acc (92 :: h1 :: h2 :: r) = (match esc2 h1 h2 with | some x => unesc (acc ++ [x]) r | none => none) := by simp [unesc]
theorem unesc_esc0 (acc : List UInt8) : unesc acc [92] = none := by simp [unesc]
theorem unesc_esc1 (acc : List UInt8) (h : UInt8) : unesc acc [92, h] = none := by simp [unesc]
theorem unesc_plain (acc l : List UInt8) (b : UInt8) (h : b.toNat ≠ 92) : unesc acc (b :: l) = if needN b.toNat = true then none else unesc (acc ++ [b]) l := by
  rcases l with _ | ⟨h1, _ | ⟨h2, r⟩⟩ <;> simp [unesc, h]
theorem unqt_esc (acc : List UInt8) (h1 h2 : UInt8) (r : List UInt8) : unqt acc (92 :: h1 :: h2 :: r) = (match esc2 h1 h2 with | some x => unqt (acc ++ [x]) r | none => none) := by simp [unqt]
theorem unqt_esc0 (acc : List UInt8) : unqt acc [92] = none := by simp [unqt]
theorem unqt_esc1 (acc : List UInt8) (h : UInt8) : unqt acc [92, h] = none := by simp [unqt]
theorem unqt_plain (acc l : List UInt8) (b : UInt8) (h0 : b.toNat ≠ 34) (h : b.toNat ≠ 92) : unqt acc (b :: l) = if needN b.toNat = true then none else unqt (acc ++ [b]) l := by
  rcases l with _ | ⟨h1, _ | ⟨h2, r⟩⟩ <;> simp [unqt, h, h0]
theorem unqt_cons_q (acc l : List UInt8) : unqt acc (34 :: l) = some (acc, l.length) := by
  rcases l with _ | ⟨h1, _ | ⟨h2, r⟩⟩ <;> simp [unqt]
/-- No quotation mark: no text. -/
theorem unqt_none : ∀ (n : Nat) (l acc : List UInt8), l.length ≤ n → (∀ b ∈ l, b ≠ 34) → unqt acc l = none := by
  intro n
  induction n with
  | zero => intro l acc h _; have : l = [] := List.eq_nil_of_length_eq_zero (by omega); subst this; rfl
  | succ n ih =>
    intro l acc h hq
    rcases l with _ | ⟨b, l⟩
    · rfl
    · have hb : b.toNat ≠ 34 := fun e => hq b (by simp) (u34 e)
      by_cases h9 : b.toNat = 92
      · obtain rfl := u92 h9
        rcases l with _ | ⟨h1, _ | ⟨h2, r⟩⟩
        · exact unqt_esc0 _
        · exact unqt_esc1 _ _
        · rw [unqt_esc]
          cases esc2 h1 h2 with
          | none => rfl
          | some x => exact ih r _ (by simp at h; omega) (fun b hb => hq b (by simp [hb]))
      · rw [unqt_plain _ _ _ hb h9]
        split
        · rfl
        · exact ih l _ (by simp at h; omega) (fun b hb => hq b (by simp [hb]))
/-- The first quotation mark ends the text. -/
theorem unqt_first : ∀ (n : Nat) (l rest acc : List UInt8), l.length ≤ n → (∀ b ∈ l, b ≠ 34) → unqt acc (l ++ 34 :: rest) = (unesc acc l).map fun t => (t, rest.length) := by
  intro n
  induction n with
  | zero => intro l rest acc h _; have : l = [] := List.eq_nil_of_length_eq_zero (by omega); subst this; rw [List.nil_append, unqt_cons_q]; rfl
  | succ n ih =>
    intro l rest acc h hq
    rcases l with _ | ⟨b, l⟩
    · rw [List.nil_append, unqt_cons_q]; rfl
    · have hb : b.toNat ≠ 34 := fun e => hq b (by simp) (u34 e)
      by_cases h9 : b.toNat = 92
      · obtain rfl := u92 h9
        rcases l with _ | ⟨h1, _ | ⟨h2, r⟩⟩
        · rw [unesc_esc0]
          rcases rest with _ | ⟨h2, r⟩
          · exact unqt_esc1 _ _
          · show unqt acc (92 :: 34 :: h2 :: r) = _
            rw [unqt_esc]
            cases he : esc2 34 h2 with
            | none => rfl
            | some x => exact absurd rfl (esc2_ne he).1
        · rw [unesc_esc1]
          show unqt acc (92 :: h1 :: 34 :: rest) = _
          rw [unqt_esc]
          cases he : esc2 h1 34 with
          | none => rfl
          | some x => exact absurd rfl (esc2_ne he).2
        · show unqt acc (92 :: h1 :: h2 :: (r ++ 34 :: rest)) = _
          rw [unqt_esc, unesc_esc]
          cases esc2 h1 h2 with
          | none => rfl
          | some x => exact ih r rest _ (by simp at h; omega) (fun b hb => hq b (by simp [hb]))
      · rw [List.cons_append, unqt_plain _ _ _ hb h9, unesc_plain _ _ _ h9]
        split
        · rfl
        · exact ih l rest _ (by simp at h; omega) (fun b hb => hq b (by simp [hb]))
/-- A quotation mark has to be escaped. -/
theorem unesc_quote : ∀ (n : Nat) (l rest acc : List UInt8), l.length ≤ n → (∀ b ∈ l, b ≠ 34) → unesc acc (l ++ 34 :: rest) = none := by
  intro n
  have h34 : ∀ acc rest, unesc acc (34 :: rest) = none := fun acc rest => by rw [unesc_plain _ _ _ (by decide)]; rfl
  induction n with
  | zero => intro l rest acc h _; have : l = [] := List.eq_nil_of_length_eq_zero (by omega); subst this; exact h34 _ _
  | succ n ih =>
    intro l rest acc h hq
    rcases l with _ | ⟨b, l⟩
    · exact h34 _ _
    · by_cases h9 : b.toNat = 92
      · obtain rfl := u92 h9
        rcases l with _ | ⟨h1, _ | ⟨h2, r⟩⟩
        · rcases rest with _ | ⟨h2, r⟩
          · exact unesc_esc1 _ _
          · show unesc acc (92 :: 34 :: h2 :: r) = _
            rw [unesc_esc]
            cases he : esc2 34 h2 with
            | none => rfl
            | some x => exact absurd rfl (esc2_ne he).1
        · show unesc acc (92 :: h1 :: 34 :: rest) = _
          rw [unesc_esc]
          cases he : esc2 h1 34 with
          | none => rfl
          | some x => exact absurd rfl (esc2_ne he).2
        · show unesc acc (92 :: h1 :: h2 :: (r ++ 34 :: rest)) = _
          rw [unesc_esc]
          cases esc2 h1 h2 with
          | none => rfl
          | some x => exact ih r rest _ (by simp at h; omega) (fun b hb => hq b (by simp [hb]))
      · rw [List.cons_append, unesc_plain _ _ _ h9]
        split
        · rfl
        · exact ih l rest _ (by simp at h; omega) (fun b hb => hq b (by simp [hb]))
/-- A list with a quotation mark has a first one. -/
theorem quote_split : ∀ (l : List UInt8), (∀ b ∈ l, b ≠ 34) ∨ ∃ l1 l2, l = l1 ++ 34 :: l2 ∧ ∀ b ∈ l1, b ≠ 34 := by
  intro l
  induction l with
  | nil => exact .inl (by simp)
  | cons b l ih =>
    by_cases hb : b = 34
    · exact .inr ⟨[], l, by simp [hb], by simp⟩
    · rcases ih with h | ⟨l1, l2, h, h1⟩
      · exact .inl (by intro x hx; rcases List.mem_cons.1 hx with e | hx; (· exact e ▸ hb); exact h x hx)
      · exact .inr ⟨b :: l1, l2, by rw [h]; rfl, by intro x hx; rcases List.mem_cons.1 hx with e | hx; (· exact e ▸ hb); exact h1 x hx⟩
/-- The whole of t is a text and its quotation mark: the two ways to say so. -/
theorem whole_text (t : List UInt8) : (if hasSuffix t [34] = true then unesc [] (t.take (t.length - 1)) else none) = match unqt [] t with | some (x, 0) => some x | _ => none := by
  rcases quote_split t with h | ⟨l1, l2, rfl, h1⟩
  · rw [unqt_none t.length t [] (Nat.le_refl _) h]
    have : hasSuffix t [34] = false := by
      unfold hasSuffix
      rw [Bool.eq_false_iff]
      intro hs
      rw [List.isSuffixOf_iff_suffix] at hs
      obtain ⟨p, rfl⟩ := hs
      exact h 34 (by simp) rfl
    simp [this]
  · rw [unqt_first _ l1 l2 [] (Nat.le_refl _) h1]
    cases l2 with
    | nil =>
      have : hasSuffix (l1 ++ [34]) [34] = true := by unfold hasSuffix; rw [List.isSuffixOf_iff_suffix]; exact ⟨l1, rfl⟩
      rw [if_pos this]
      have e : (l1 ++ [34]).take ((l1 ++ [34]).length - 1) = l1 := by simp
      rw [e]
      cases unesc [] l1 <;> rfl
    | cons c l2 =>
      have e : (if hasSuffix (l1 ++ 34 :: c :: l2) [34] = true then unesc [] ((l1 ++ 34 :: c :: l2).take ((l1 ++ 34 :: c :: l2).length - 1)) else none) = none := by
        split
        · have e2 : (l1 ++ 34 :: c :: l2).take ((l1 ++ 34 :: c :: l2).length - 1) = l1 ++ 34 :: (c :: l2).take l2.length := by
            rw [List.take_append]
            have : (l1 ++ 34 :: c :: l2).length - 1 - l1.length = l2.length + 1 := by simp
            rw [this, List.take_of_length_le (by simp)]
            rfl
          rw [e2]
          exact unesc_quote _ _ _ _ (Nat.le_refl _) h1
        · rfl
      rw [e]
      cases unesc [] l1 <;> rfl

/- Numbers. -/
def digB (c : UInt8) : Bool := decide (48 ≤ c.toNat) && decide (c.toNat ≤ 57)
def valF (a : Nat) (l : List UInt8) : Nat := l.foldl (fun a c => a * 10 + (c.toNat - 48)) a
def valD (l : List UInt8) : Nat := valF 0 l
/-- A decimal notation without a sign. -/
def isDec (l : List UInt8) : Bool := !l.isEmpty && !(decide (1 < l.length) && l.head? == some 48) && l.all digB
theorem valF_ge (l : List UInt8) : ∀ a, a ≤ valF a l := by
  induction l with
  | nil => intro a; exact Nat.le_refl _
  | cons c l ih => intro a; exact Nat.le_trans (by show a ≤ a * 10 + (c.toNat - 48); omega) (ih _)
theorem valF_mono (l : List UInt8) : ∀ a b, a ≤ b → valF a l ≤ valF b l := by
  induction l with
  | nil => intro a b h; exact h
  | cons c l ih => intro a b h; exact ih _ _ (by show a * 10 + (c.toNat - 48) ≤ b * 10 + (c.toNat - 48); omega)
theorem valF_snoc (l : List UInt8) (a : Nat) (c : UInt8) : valF a (l ++ [c]) = valF a l * 10 + (c.toNat - 48) := by simp [valF]
theorem digB_iff {c : UInt8} (h : digB c = true) : 48 ≤ c.toNat ∧ c.toNat ≤ 57 := by simpa [digB] using h
/-- What the library reads, at digits alone. -/
theorem parseM_digits (M : Nat) (hM : M ≤ 18446744073709551615) (l : List UInt8) (h : l.all digB = true) : ∀ acc, acc ≤ M → parseUintM M acc l = if valF acc l ≤ M then .ok (valF acc l) else .range := by
  induction l with
  | nil => intro acc ha; simp [parseUintM, valF, ha]
  | cons c l ih =>
    intro acc ha
    simp only [List.all_cons, Bool.and_eq_true] at h
    have hc := digB_iff h.1
    have e : valF acc (c :: l) = valF (acc * 10 + (c.toNat - 48)) l := rfl
    have hg := valF_ge l (acc * 10 + (c.toNat - 48))
    rw [parseUintM, if_pos hc, e]
    by_cases h1 : 1844674407370955162 ≤ acc
    · rw [if_pos h1, if_neg (by omega)]
    · rw [if_neg h1]
      by_cases h2 : M < acc * 10 + (c.toNat - 48)
      · rw [if_pos h2, if_neg (by omega)]
      · rw [if_neg h2]
        exact ih h.2 _ (by omega)
theorem parseU_digits (l : List UInt8) (h : l.all digB = true) (hne : l ≠ []) : parseUintB 64 l = if valD l ≤ 18446744073709551615 then .ok (valD l) else .range := by
  unfold parseUintB
  rw [if_neg hne, show 2 ^ 64 - 1 = 18446744073709551615 by decide, parseM_digits _ (Nat.le_refl _) l h 0 (by decide)]
  rfl
theorem isDec_parts {l : List UInt8} (h : isDec l = true) : l ≠ [] ∧ l.all digB = true := by
  unfold isDec at h
  simp only [Bool.and_eq_true] at h
  exact ⟨by intro e; subst e; simp at h, h.2⟩
/-- ParseInt at a decimal notation. -/
theorem parseI_plain (l : List UInt8) (h : isDec l = true) : parseIntB 64 l = if valD l < 9223372036854775808 then .ok (valD l : Int) else .range := by
  obtain ⟨hne, hd⟩ := isDec_parts h
  rcases l with _ | ⟨c, r⟩
  · exact absurd rfl hne
  · have hc := digB_iff (by simpa using (List.all_eq_true.1 hd c (by simp)))
    unfold parseIntB
    have hn : ¬ (c.toNat = 43 ∨ c.toNat = 45) := by omega
    have hn2 : ¬ c.toNat = 45 := by omega
    simp only [if_neg hn]
    rw [parseU_digits _ hd hne]
    by_cases h1 : valD (c :: r) ≤ 18446744073709551615
    · rw [if_pos h1]
      simp only [hn2]
      by_cases h2 : valD (c :: r) < 9223372036854775808
      · rw [if_pos h2, if_neg (by simp; omega), if_neg (by simp)]; simp
      · rw [if_neg h2, if_pos (by simp; omega)]
    · rw [if_neg h1, if_neg (by omega)]
theorem parseI_neg (l : List UInt8) (h : isDec l = true) : parseIntB 64 (45 :: l) = if valD l ≤ 9223372036854775808 then .ok (-(valD l : Int)) else .range := by
  obtain ⟨hne, hd⟩ := isDec_parts h
  unfold parseIntB
  have hn : (UInt8.toNat 45 = 43 ∨ UInt8.toNat 45 = 45) := by decide
  have hn2 : UInt8.toNat 45 = 45 := by decide
  simp only [if_pos hn]
  rw [parseU_digits _ hd hne]
  by_cases h1 : valD l ≤ 18446744073709551615
  · rw [if_pos h1]
    simp only [hn2]
    by_cases h2 : valD l ≤ 9223372036854775808
    · rw [if_pos h2, if_neg (by simp), if_neg (by simp; omega)]; simp
    · rw [if_neg h2, if_neg (by simp), if_pos (by simp; omega)]
  · rw [if_neg h1, if_neg (by omega)]
/-- A decimal notation of 0 is "0". -/
theorem val_zero {l : List UInt8} (h : isDec l = true) (h0 : valD l = 0) : l = [48] := by
  obtain ⟨hne, hd⟩ := isDec_parts h
  rcases l with _ | ⟨c, r⟩
  · exact absurd rfl hne
  · have hc := digB_iff (by simpa using (List.all_eq_true.1 hd c (by simp)))
    have e : valD (c :: r) = valF (0 * 10 + (c.toNat - 48)) r := rfl
    have hg := valF_ge r (0 * 10 + (c.toNat - 48))
    have hc48 : c = 48 := UInt8.toNat_inj.1 (by show c.toNat = 48; omega)
    subst hc48
    rcases r with _ | ⟨d, r⟩
    · rfl
    · simp [isDec] at h
/-- The notation of a number is decimal and has its value. -/
theorem val_dec (u : Nat) : valD (decDigits u) = u ∧ (decDigits u).all digB = true := by
  induction u using Nat.strongRecOn with
  | _ u ih =>
    have hd : ∀ k, k < 10 → (UInt8.ofNat (48 + k)).toNat = 48 + k := fun k hk => by simp; omega
    by_cases h : u < 10
    · rw [decDigits, dif_pos h]
      refine ⟨?_, ?_⟩
      · show 0 * 10 + ((UInt8.ofNat (48 + u)).toNat - 48) = u
        rw [hd u h]; omega
      · simp only [List.all_cons, List.all_nil, Bool.and_true, digB, hd u h]; simp; omega
    · rw [decDigits, dif_neg h]
      obtain ⟨h1, h2⟩ := ih (u / 10) (by omega)
      refine ⟨?_, ?_⟩
      · unfold valD at h1 ⊢
        rw [valF_snoc, h1, hd _ (by omega)]; omega
      · rw [List.all_append, h2]; simp only [List.all_cons, List.all_nil, Bool.and_true, Bool.true_and, digB, hd _ (Nat.mod_lt u (by decide : 10 > 0))]; simp; omega
theorem dec_head (u : Nat) (h : 0 < u) : ∃ c r, decDigits u = c :: r ∧ c.toNat ≠ 48 := by
  induction u using Nat.strongRecOn with
  | _ u ih =>
    by_cases h9 : u < 10
    · rw [decDigits, dif_pos h9]
      exact ⟨_, [], rfl, by simp; omega⟩
    · rw [decDigits, dif_neg h9]
      obtain ⟨c, r, hc, h1⟩ := ih (u / 10) (by omega) (by omega)
      rw [hc]
      exact ⟨c, r ++ [UInt8.ofNat (48 + u % 10)], rfl, h1⟩
theorem isDec_dec (u : Nat) : isDec (decDigits u) = true := by
  by_cases h : u = 0
  · subst h; rw [decDigits, dif_pos (by decide)]; decide
  · obtain ⟨c, r, hc, h1⟩ := dec_head u (by omega)
    have hd := (val_dec u).2
    rw [hc] at hd ⊢
    unfold isDec
    rw [hd]
    have : (List.head? (c :: r) == some 48) = false := by simp; intro e; subst e; exact h1 rfl
    rw [this]; simp
end Go.Proofs.TX
/- Plain functions of bytes: the tokens of a source (no program in this text). -/
namespace Go.Proofs.TX
open Go.Lib

def letB (c : UInt8) : Bool := decide (97 ≤ c.toNat) && decide (c.toNat ≤ 122)
def nameC (c : UInt8) : Bool := letB c || digB c || decide (c.toNat = 95)
def comC (c : UInt8) : Bool := decide (c.toNat ≠ 10)
/-- How many bytes of one class stand at the head. -/
def runC (p : UInt8 → Bool) : List UInt8 → Nat
  | [] => 0
  | c :: l => if p c = true then runC p l + 1 else 0
def nameB (l : List UInt8) : Bool := match l with
  | [] => false
  | c :: r => decide (r.length < 16) && letB c && (c :: r).all nameC
theorem runC_le (p : UInt8 → Bool) (l : List UInt8) : runC p l ≤ l.length := by
  induction l with
  | nil => exact Nat.le_refl _
  | cons c l ih => unfold runC; split <;> simp; omega
theorem runC_all (p : UInt8 → Bool) (l : List UInt8) : runC p l = l.length ↔ l.all p = true := by
  induction l with
  | nil => simp [runC]
  | cons c l ih =>
    unfold runC
    by_cases h : p c = true
    · rw [if_pos h]; simp [h, ← ih]
    · rw [if_neg h]; simp [h]
theorem runC_take (p : UInt8 → Bool) (l : List UInt8) : (l.take (runC p l)).all p = true := by
  induction l with
  | nil => rfl
  | cons c l ih =>
    unfold runC
    by_cases h : p c = true
    · rw [if_pos h, List.take_succ_cons]; simp only [List.all_cons, h, Bool.true_and]; exact ih
    · rw [if_neg h]; rfl
theorem runC_next (p : UInt8 → Bool) (l : List UInt8) (h : runC p l < l.length) : ∃ c r, l.drop (runC p l) = c :: r ∧ p c = false := by
  induction l with
  | nil => simp at h
  | cons c l ih =>
    unfold runC at h ⊢
    by_cases hc : p c = true
    · rw [if_pos hc] at h ⊢
      simp only [List.length_cons, List.drop_succ_cons] at h ⊢
      exact ih (by omega)
    · rw [if_neg hc]
      exact ⟨c, l, rfl, by simpa using hc⟩
/-- The run of a list whose first k bytes are of the class. -/
theorem runC_from (p : UInt8 → Bool) : ∀ (l : List UInt8) (k : Nat), k ≤ l.length → (l.take k).all p = true → runC p l = k + runC p (l.drop k) := by
  intro l
  induction l with
  | nil => intro k h _; simp at h; subst h; simp [runC]
  | cons c l ih =>
    intro k hk h
    cases k with
    | zero => simp
    | succ k =>
      simp only [List.take_succ_cons, List.all_cons, Bool.and_eq_true] at h
      rw [runC, if_pos h.1, ih k (by simpa using hk) h.2, List.drop_succ_cons]; omega
/-- The size of the sign at the head. -/
def sign1 (c : UInt8) : Bool := c == 40 || c == 41 || c == 44 || c == 46 || c == 59 || c == 43 || c == 45 || c == 42 || c == 47 || c == 61 || c == 60
def signN : List UInt8 → Nat
  | [] => 0
  | [c] => if sign1 c = true then 1 else 0
  | c :: d :: _ => if c == 43 && d == 43 || c == 60 && d == 61 then 2 else if sign1 c = true then 1 else 0
/-- A token without its position: kind, text, number; and its size. -/
structure Tk where
  k : Int
  s : List UInt8
  n : Int
inductive TR where
  | err (e : Int)
  | ok (t : Tk) (size : Nat)
def tokAt (l : List UInt8) : TR :=
  match l with
  | [] => .err 2
  | b :: r =>
    if letB b = true then (if runC nameC l ≤ 16 then .ok ⟨1, l.take (runC nameC l), 0⟩ (runC nameC l) else .err 1)
    else if digB b = true then
      (if isDec (l.take (runC digB l)) = true then (if valD (l.take (runC digB l)) ≤ 4294967296 then .ok ⟨2, [], valD (l.take (runC digB l))⟩ (runC digB l) else .err 1) else .err 2)
    else if b.toNat = 34 then
      (match unqt [] r with
       | some (t, m) => if t.length ≤ 32 then .ok ⟨3, t, 0⟩ (l.length - m) else .err 1
       | none => .err 2)
    else if signN l = 0 then .err 2 else .ok ⟨4, l.take (signN l), 0⟩ (signN l)
def blankC (c : UInt8) : Bool := decide (c.toNat = 32 ∨ c.toNat = 9 ∨ c.toNat = 13 ∨ c.toNat = 10)
/-- A token with its position. -/
structure Tok where
  k : Int
  s : ByteArray
  n : Int
  p : Int
def scanF : Nat → List UInt8 → Nat → List Tok → List Tok × Nat × Int
  | 0, _, _, acc => (acc, 0, 0)
  | _ + 1, [], _, acc => (acc, 0, 0)
  | f + 1, b :: r, at_, acc =>
    if blankC b = true then scanF f r (at_ + 1) acc
    else if b.toNat = 35 then scanF f ((b :: r).drop (runC comC (b :: r))) (at_ + runC comC (b :: r)) acc
    else match tokAt (b :: r) with
      | .err e => ([], at_, e)
      | .ok t n => if acc.length = 4096 then ([], at_, 8) else scanF f ((b :: r).drop n) (at_ + n) (acc ++ [⟨t.k, ⟨t.s.toArray⟩, t.n, at_⟩])
theorem scanF_blank (f : Nat) (b : UInt8) (r : List UInt8) (at_ : Nat) (acc : List Tok) (h : blankC b = true) : scanF (f + 1) (b :: r) at_ acc = scanF f r (at_ + 1) acc := by rw [scanF, if_pos h]
theorem scanF_com (f : Nat) (b : UInt8) (r : List UInt8) (at_ : Nat) (acc : List Tok) (h : b.toNat = 35) : scanF (f + 1) (b :: r) at_ acc = scanF f ((b :: r).drop (runC comC (b :: r))) (at_ + runC comC (b :: r)) acc := by
  rw [scanF, if_neg (by unfold blankC; simp [h]), if_pos h]
theorem scanF_err (f : Nat) (b : UInt8) (r : List UInt8) (at_ : Nat) (acc : List Tok) (h : blankC b = false) (h2 : b.toNat ≠ 35) (e : Int) (he : tokAt (b :: r) = .err e) : scanF (f + 1) (b :: r) at_ acc = ([], at_, e) := by
  rw [scanF, if_neg (by rw [h]; decide), if_neg h2, he]
theorem scanF_full (f : Nat) (b : UInt8) (r : List UInt8) (at_ : Nat) (acc : List Tok) (h : blankC b = false) (h2 : b.toNat ≠ 35) (t : Tk) (n : Nat) (he : tokAt (b :: r) = .ok t n) (hl : acc.length = 4096) : scanF (f + 1) (b :: r) at_ acc = ([], at_, 8) := by
  rw [scanF, if_neg (by rw [h]; decide), if_neg h2, he]; simp only; rw [if_pos hl]
theorem scanF_tok (f : Nat) (b : UInt8) (r : List UInt8) (at_ : Nat) (acc : List Tok) (h : blankC b = false) (h2 : b.toNat ≠ 35) (t : Tk) (n : Nat) (he : tokAt (b :: r) = .ok t n) (hl : acc.length ≠ 4096) : scanF (f + 1) (b :: r) at_ acc = scanF f ((b :: r).drop n) (at_ + n) (acc ++ [⟨t.k, ⟨t.s.toArray⟩, t.n, at_⟩]) := by
  rw [scanF, if_neg (by rw [h]; decide), if_neg h2, he]; simp only; rw [if_neg hl]
theorem scanF_nil (f : Nat) (at_ : Nat) (acc : List Tok) : scanF f [] at_ acc = (acc, 0, 0) := by cases f <;> rfl
theorem tokAt_err {l : List UInt8} {e : Int} (h : tokAt l = .err e) : e = 1 ∨ e = 2 := by
  unfold tokAt at h
  rcases l with _ | ⟨b, r⟩
  · simp at h; omega
  · simp only at h
    repeat' split at h
    all_goals first | (cases h; omega) | (cases h)
def scanL (l : List UInt8) : List Tok × Nat × Int := if 32768 < l.length then ([], 0, 8) else scanF l.length l 0 []
theorem signN_one (c : UInt8) : signN [c] = if sign1 c = true then 1 else 0 := rfl
theorem signN_two (c d : UInt8) (l : List UInt8) : signN (c :: d :: l) = if (c == 43 && d == 43 || c == 60 && d == 61) = true then 2 else if sign1 c = true then 1 else 0 := rfl
theorem signN_le (l : List UInt8) : signN l ≤ l.length ∧ signN l ≤ 2 := by
  rcases l with _ | ⟨c, _ | ⟨d, l⟩⟩
  · simp [signN]
  · have : signN [c] ≤ 1 := by rw [signN_one]; split <;> omega
    simp; omega
  · have : signN (c :: d :: l) ≤ 2 := by
      rw [signN_two]
      split
      · omega
      · split <;> omega
    simp; omega
theorem unqt_bound : ∀ (n : Nat) (l acc t : List UInt8) (m : Nat), l.length ≤ n → unqt acc l = some (t, m) → t.length + m + 1 ≤ acc.length + l.length := by
  intro n
  induction n with
  | zero => intro l acc t m h hu; have : l = [] := List.eq_nil_of_length_eq_zero (by omega); subst this; simp [unqt] at hu
  | succ n ih =>
    intro l acc t m h hu
    rcases l with _ | ⟨b, l⟩
    · simp [unqt] at hu
    · by_cases h34 : b.toNat = 34
      · obtain rfl := u34 h34
        rw [unqt_cons_q] at hu
        simp only [Option.some.injEq, Prod.mk.injEq] at hu
        obtain ⟨rfl, rfl⟩ := hu
        simp; omega
      · by_cases h9 : b.toNat = 92
        · obtain rfl := u92 h9
          rcases l with _ | ⟨h1, _ | ⟨h2, r⟩⟩
          · rw [unqt_esc0] at hu; simp at hu
          · rw [unqt_esc1] at hu; simp at hu
          · rw [unqt_esc] at hu
            cases he : esc2 h1 h2 with
            | none => rw [he] at hu; simp at hu
            | some x =>
              rw [he] at hu
              have := ih r _ t m (by simp at h; omega) hu
              simp at this ⊢; omega
        · rw [unqt_plain _ _ _ h34 h9] at hu
          split at hu
          · simp at hu
          · have := ih l _ t m (by simp at h; omega) hu
            simp at this ⊢; omega
theorem tokAt_size {l : List UInt8} {t : Tk} {n : Nat} (h : tokAt l = .ok t n) : 0 < n ∧ n ≤ l.length := by
  unfold tokAt at h
  rcases l with _ | ⟨b, r⟩
  · simp at h
  · have hpos : ∀ p : UInt8 → Bool, p b = true → 0 < runC p (b :: r) := fun p hp => by rw [runC, if_pos hp]; omega
    simp only at h
    split at h
    · rename_i h1
      split at h
      · cases h; exact ⟨hpos _ (by unfold nameC; rw [h1]; rfl), runC_le _ _⟩
      · cases h
    · split at h
      · rename_i h1
        split at h
        · split at h
          · cases h; exact ⟨hpos _ h1, runC_le _ _⟩
          · cases h
        · cases h
      · split at h
        · split at h
          · rename_i t0 m hu
            split at h
            · cases h
              have : t0.length + m + 1 ≤ 0 + r.length := by
                have := unqt_bound r.length r [] t0 m (Nat.le_refl _) hu
                simpa using this
              simp; omega
            · cases h
          · cases h
        · split at h
          · cases h
          · rename_i h0
            cases h
            exact ⟨by omega, (signN_le _).1⟩
end Go.Proofs.TX
/- Slices with what they read as, and small words about memory. Nothing of a program in it. -/
namespace Go.Proofs.EB
open Go.RowKit

/-- A slice with what it reads as. -/
structure SL (α : Type) where
  ao : Option Addr
  cap : Nat
  l : List α
/-- A slice that reads as its list, each element with what P says. -/
structure RdS {α : Type} (enc : α → List Value) (m : Nat) (P : World → Nat → α → Prop) (w : World) (B : Nat) (s : SL α) : Prop where
  row : RAt enc m w B s.ao s.l
  nil : s.ao = none → s.cap = 0
  cap : s.l.length ≤ s.cap
  len : s.l.length ≤ maxLen
  each : ∀ a ∈ s.l, P w B a
theorem RdS.below {α : Type} {enc : α → List Value} {m : Nat} {P : World → Nat → α → Prop} {w w' : World} {B B' : Nat} {s : SL α} (h : RdS enc m P w B s) (hb : Below B w w') (hB : B ≤ B') (hP : ∀ a, P w B a → P w' B' a) : RdS enc m P w' B' s :=
  ⟨(h.row.below hb).mono hB, h.nil, h.cap, h.len, fun a ha => hP a (h.each a ha)⟩
/-- A part of a slice's list. -/
theorem RdS.take {α : Type} {enc : α → List Value} {m : Nat} {P : World → Nat → α → Prop} {w : World} {B : Nat} {ao : Option Addr} {cap : Nat} {l : List α} (h : RdS enc m P w B ⟨ao, cap, l⟩) (k : Nat) : RdS enc m P w B ⟨ao, cap, l.take k⟩ :=
  ⟨h.row.take k, h.nil, Nat.le_trans (List.length_take_le' _ _) h.cap, Nat.le_trans (List.length_take_le' _ _) h.len, fun a ha => h.each a (List.mem_of_mem_take ha)⟩
theorem below1 (w : World) (o : Obj) : Below w.heap.size w (w.alloc o) := (Below.refl _ _).alloc (Nat.le_refl _) _
theorem belowT {w w0 w1 : World} (h0 : Below w.heap.size w w0) (hb : Below w0.heap.size w0 w1) : Below w.heap.size w w1 := h0.trans (hb.mono h0.size)
theorem bcells {W w1 : World} (hb : Below W.heap.size W w1) : (∀ b o, b < W.heap.size → w1.cell? ⟨b, o, none⟩ = W.cell? ⟨b, o, none⟩) ∧ (∀ b o, b < W.heap.size → w1.frozen? ⟨b, o, none⟩ = W.frozen? ⟨b, o, none⟩) :=
  ⟨fun b o h => hb.cell (p := ⟨b, o, none⟩) h, fun b o h => hb.frozen (p := ⟨b, o, none⟩) h⟩
/-- A call that gives v and leaves old memory as it was. -/
def YieldsV (v : Value) (w : World) (e : Ending) (w' : World) : Prop := e = .returned v ∧ Below w.heap.size w w'
theorem yields_int {a b : Int} (h : a = b) : Ending.returned (.int .i64 a) = .returned (.int .i64 b) := by rw [h]
theorem yields_bool {a b : Bool} (h : a = b) : Ending.returned (.bool a) = .returned (.bool b) := by rw [h]
theorem box_cell {w : World} {g i : Nat} {C : Array Value} {T : TypeId} {u : Value} (h : w.heap[g]? = some (.cells C T (0, 0))) (hi : C[i]? = some u) : w.cell? ⟨g, i, none⟩ = some u := by simp [World.cell?, h, hi]
theorem box_keep {w w' : World} {g : Nat} {o : Obj} (hb : Below w.heap.size w w') (h : w.heap[g]? = some o) : w'.heap[g]? = some o := (hb.block _ (Array.getElem?_eq_some_iff.1 h).1).trans h
/-- What a held region keeps: the cells that it loads, and that old memory is as it was. -/
theorem keep1 {w0 wc w1 : World} {b1 o1 : Nat} {x1 : Value} (hb : Below wc.heap.size wc w1) (h : wc.cell? ⟨b1, o1, none⟩ = some x1 ∧ Below w0.heap.size w0 wc) : w1.cell? ⟨b1, o1, none⟩ = some x1 ∧ Below w0.heap.size w0 w1 :=
  ⟨(hb.cell (p := ⟨b1, o1, none⟩) (World.block_lt_of_cell? wc _ h.1)).trans h.1, belowT h.2 hb⟩
theorem keep2 {w0 wc w1 : World} {b1 o1 b2 o2 : Nat} {x1 x2 : Value} (hb : Below wc.heap.size wc w1) (h : wc.cell? ⟨b1, o1, none⟩ = some x1 ∧ wc.cell? ⟨b2, o2, none⟩ = some x2 ∧ Below w0.heap.size w0 wc) : w1.cell? ⟨b1, o1, none⟩ = some x1 ∧ w1.cell? ⟨b2, o2, none⟩ = some x2 ∧ Below w0.heap.size w0 w1 :=
  ⟨(hb.cell (p := ⟨b1, o1, none⟩) (World.block_lt_of_cell? wc _ h.1)).trans h.1, keep1 hb h.2⟩
theorem keep3 {w0 wc w1 : World} {b1 o1 b2 o2 b3 o3 : Nat} {x1 x2 x3 : Value} (hb : Below wc.heap.size wc w1) (h : wc.cell? ⟨b1, o1, none⟩ = some x1 ∧ wc.cell? ⟨b2, o2, none⟩ = some x2 ∧ wc.cell? ⟨b3, o3, none⟩ = some x3 ∧ Below w0.heap.size w0 wc) : w1.cell? ⟨b1, o1, none⟩ = some x1 ∧ w1.cell? ⟨b2, o2, none⟩ = some x2 ∧ w1.cell? ⟨b3, o3, none⟩ = some x3 ∧ Below w0.heap.size w0 w1 :=
  ⟨(hb.cell (p := ⟨b1, o1, none⟩) (World.block_lt_of_cell? wc _ h.1)).trans h.1, keep2 hb h.2⟩
theorem keep4 {w0 wc w1 : World} {b1 o1 b2 o2 b3 o3 b4 o4 : Nat} {x1 x2 x3 x4 : Value} (hb : Below wc.heap.size wc w1) (h : wc.cell? ⟨b1, o1, none⟩ = some x1 ∧ wc.cell? ⟨b2, o2, none⟩ = some x2 ∧ wc.cell? ⟨b3, o3, none⟩ = some x3 ∧ wc.cell? ⟨b4, o4, none⟩ = some x4 ∧ Below w0.heap.size w0 wc) : w1.cell? ⟨b1, o1, none⟩ = some x1 ∧ w1.cell? ⟨b2, o2, none⟩ = some x2 ∧ w1.cell? ⟨b3, o3, none⟩ = some x3 ∧ w1.cell? ⟨b4, o4, none⟩ = some x4 ∧ Below w0.heap.size w0 w1 :=
  ⟨(hb.cell (p := ⟨b1, o1, none⟩) (World.block_lt_of_cell? wc _ h.1)).trans h.1, keep3 hb h.2⟩
theorem kept1 {w0 wc : World} {A : Prop} (h : A ∧ Below w0.heap.size w0 wc) : Below w0.heap.size w0 wc := h.2
theorem kept2 {w0 wc : World} {A B : Prop} (h : A ∧ B ∧ Below w0.heap.size w0 wc) : Below w0.heap.size w0 wc := h.2.2
theorem kept3 {w0 wc : World} {A B C : Prop} (h : A ∧ B ∧ C ∧ Below w0.heap.size w0 wc) : Below w0.heap.size w0 wc := h.2.2.2
theorem kept4 {w0 wc : World} {A B C D : Prop} (h : A ∧ B ∧ C ∧ D ∧ Below w0.heap.size w0 wc) : Below w0.heap.size w0 wc := h.2.2.2.2
end Go.Proofs.EB
/- Catalogues, plain: what Check and the functions that look into a catalogue give, as functions of lists. -/
namespace Go.Proofs.YtenonljnldbkiaaGreatDoor
open Go.RowKit Go.Proofs.TX Go.Proofs.EB

structure Co where
  name : ByteArray
  ty : Int
  ns : ByteArray
  refs : ByteArray
  own : SL Int
  joint : Int
  duty : Int
structure Ta where
  name : ByteArray
  cols : SL Co
  erase : Int
  retain : Int
structure It where
  name : ByteArray
  ex : SL Tm
structure Ag where
  name : ByteArray
  fn : Int
  ex : SL Tm
structure Vw where
  name : ByteArray
  kind : Int
  left : ByteArray
  right : ByteArray
  on : SL (Int × Int)
  wh : SL Tm
  its : SL It
  dis : Bool
  ags : SL Ag
structure Ix where
  name : ByteArray
  src : ByteArray
  col : Int
structure Sk where
  name : ByteArray
  src : ByteArray
  col : Int
  kind : Int
  width : Int
  depth : Int
structure Ch where
  name : ByteArray
  src : ByteArray
  col : Int
  ttl : Int
structure Re where
  name : ByteArray
  src : ByteArray
  thr : Int
structure St where
  name : ByteArray
  tab : ByteArray
structure Bk where
  name : ByteArray
  tabs : SL ByteArray
  keep : Int
structure Cat where
  ts : SL Ta
  vs : SL Vw
  xs : SL Ix
  ks : SL Sk
  hs : SL Ch
  rs : SL Re
  ms : SL St
  bs : SL Bk

def nmB (s : ByteArray) : Bool := nameB s.data.toList
def seq (s t : ByteArray) : Bool := s.toList == t.toList
theorem seq_iff {s t : ByteArray} : seq s t = true ↔ s = t := by
  unfold seq
  rw [ByteArray.toList_eq, ByteArray.toList_eq, beq_iff_eq]
  constructor
  · intro h
    cases s; cases t
    simp only [ByteArray.mk.injEq] at *
    exact Array.ext' h
  · rintro rfl; rfl
def emp (s : ByteArray) : Bool := s.toList.isEmpty
/-- The first place of a name, or -1. -/
def idx (x : ByteArray) : List ByteArray → Int
  | [] => -1
  | y :: l => if seq y x = true then 0 else if idx x l < 0 then -1 else idx x l + 1
theorem idx_cases (x : ByteArray) (l : List ByteArray) : (idx x l = -1 ∧ ∀ y ∈ l, seq y x = false) ∨ ∃ (k : Nat) (h : k < l.length), idx x l = k ∧ seq l[k] x = true ∧ ∀ j (hj : j < l.length), j < k → seq l[j] x = false := by
  induction l with
  | nil => left; simp [idx]
  | cons y l ih =>
    unfold idx
    by_cases h : seq y x = true
    · right; exact ⟨0, by simp, by rw [if_pos h]; rfl, h, fun j _ hj => by omega⟩
    · rw [if_neg h]
      rcases ih with ⟨e, hn⟩ | ⟨k, hk, e, h1, h2⟩
      · left
        rw [if_pos (by omega)]
        refine ⟨rfl, fun z hz => ?_⟩
        rcases List.mem_cons.1 hz with rfl | hz
        · simpa using h
        · exact hn z hz
      · right
        rw [if_neg (by omega)]
        refine ⟨k + 1, by simpa using hk, by omega, by simpa using h1, fun j hj hjk => ?_⟩
        match j, hj, hjk with
        | 0, _, _ => simpa using h
        | j + 1, hj, hjk => simpa using h2 j (by simpa using hj) (by omega)
theorem idx_range (x : ByteArray) (l : List ByteArray) : -1 ≤ idx x l ∧ idx x l < l.length := by
  rcases idx_cases x l with ⟨e, _⟩ | ⟨k, hk, e, _⟩ <;> omega
/-- The place is told by what stands there and before. -/
theorem idx_eq {x : ByteArray} {l : List ByteArray} {k : Nat} (hk : k < l.length) (h1 : seq l[k] x = true) (h2 : ∀ j (hj : j < l.length), j < k → seq l[j] x = false) : idx x l = k := by
  rcases idx_cases x l with ⟨_, hn⟩ | ⟨k', hk', e, h3, h4⟩
  · rw [hn _ (List.getElem_mem hk)] at h1; cases h1
  · rcases Nat.lt_trichotomy k k' with h | h | h
    · rw [h4 k hk h] at h1; cases h1
    · rw [e, h]
    · rw [h2 k' hk' h] at h3; cases h3
theorem idx_none {x : ByteArray} {l : List ByteArray} (h : ∀ y ∈ l, seq y x = false) : idx x l = -1 := by
  rcases idx_cases x l with ⟨e, _⟩ | ⟨k, hk, _, h3, _⟩
  · exact e
  · rw [h _ (List.getElem_mem hk)] at h3; cases h3
theorem idx_take (x : ByteArray) (l : List ByteArray) (n : Nat) : idx x (l.take n) = if idx x l < n then idx x l else -1 := by
  rcases idx_cases x l with ⟨e, hn⟩ | ⟨k, hk, e, h1, h2⟩
  · rw [e, if_pos (by omega)]
    exact idx_none fun y hy => hn y (List.mem_of_mem_take hy)
  · rw [e]
    by_cases hkn : k < n
    · rw [if_pos (by omega)]
      refine idx_eq (by rw [List.length_take]; omega) (by simpa using h1) fun j hj hjk => ?_
      rw [List.length_take] at hj
      simpa using h2 j (by omega) hjk
    · rw [if_neg (by omega)]
      refine idx_none fun y hy => ?_
      obtain ⟨j, hj, rfl⟩ := List.mem_iff_getElem.1 hy
      rw [List.length_take] at hj
      simpa using h2 j (by omega) (by omega)
def inB (n a b : Int) : Bool := decide (a ≤ n) && decide (n ≤ b)
def anyB (x : ByteArray) (l : List ByteArray) : Bool := l.any fun y => seq y x
/-- The error of a name behind earlier ones. -/
def nameE (x : ByteArray) (earlier : List ByteArray) : Int := if nmB x = false then 3 else if anyB x earlier = true then 4 else 0
abbrev Cs := List ByteArray × List Int
def tabCols (t : Ta) : Cs := (t.cols.l.map (·.name), t.cols.l.map (·.ty))
def Co.z : Co := ⟨⟨#[]⟩, 0, ⟨#[]⟩, ⟨#[]⟩, ⟨none, 0, []⟩, 0, 0⟩
def Ta.z : Ta := ⟨⟨#[]⟩, ⟨none, 0, []⟩, 0, 0⟩

/-- The type of the key that a column references, and whether the key is personal. -/
def keyE (pre : List Ta) (x : Co) : Option (Int × Bool) := if emp x.refs = true then some (x.ty, false) else
  if idx x.refs (pre.map (·.name)) < 0 then none else
    let k := ((pre.getD (idx x.refs (pre.map (·.name))).toNat Ta.z).cols.l.getD 0 Co.z)
    some (k.ty, !k.own.l.isEmpty)
/-- Owners: strictly ascending columns with a namespace or a reference. -/
def ownB (cols : List Co) (last : Int) : List Int → Bool
  | [] => true
  | n :: l => decide (last < n) && decide (n < cols.length) && (!(emp (cols.getD n.toNat Co.z).ns && emp (cols.getD n.toNat Co.z).refs)) && ownB cols n l
def dutyB (duty retain : Int) : Bool := inB duty 0 1048576 && (retain == 0 || decide (duty ≤ retain))
/-- The parts of a column fit together. -/
def colB (t : Ta) (x : Co) (i : Nat) : Bool :=
  if emp x.ns = false ∧ emp x.refs = false then false
  else if x.own.l = [] then x.joint == 0 && x.duty == 0
  else ownB t.cols.l (-1) x.own.l && (x.joint == 0 || x.joint == 1) && dutyB x.duty t.retain && (decide (i ≠ 0) || t.erase == 1)
def colE (pre : List Ta) (t : Ta) (i : Nat) : Int :=
  let x := t.cols.l.getD i Co.z
  if emp x.ns = false ∧ nmB x.ns = false then 3
  else if nameE x.name ((t.cols.l.take i).map (·.name)) ≠ 0 then nameE x.name ((t.cols.l.take i).map (·.name))
  else match keyE pre x with
    | none => 7
    | some (kt, kp) => if (x.ty ≠ 1 ∧ x.ty ≠ 2) ∨ x.ty ≠ kt then 5 else if colB t x i = false ∨ (kp = true ∧ x.own.l.contains (i : Int) = false) then 1 else 0
/-- The first error among n. -/
def firstE (f : Nat → Int) (i : Nat) : Nat → Int
  | 0 => 0
  | n + 1 => if f i ≠ 0 then f i else firstE f (i + 1) n
theorem firstE_zero {f : Nat → Int} : ∀ (n i : Nat), firstE f i n = 0 ↔ ∀ j, i ≤ j → j < i + n → f j = 0
  | 0, i => by simp [firstE]; omega
  | n + 1, i => by
    unfold firstE
    by_cases h : f i = 0
    · rw [if_neg (by simpa using h), firstE_zero n (i + 1)]
      constructor
      · intro g j h1 h2
        by_cases e : j = i
        · rw [e]; exact h
        · exact g j (by omega) (by omega)
      · intro g j h1 h2; exact g j (by omega) (by omega)
    · rw [if_pos h]
      constructor
      · intro e; exact absurd e h
      · intro g; exact absurd (g i (by omega) (by omega)) h
theorem firstE_at {f : Nat → Int} : ∀ (n i k : Nat), i ≤ k → k < i + n → (∀ j, i ≤ j → j < k → f j = 0) → f k ≠ 0 → firstE f i n = f k
  | 0, i, k, h1, h2, _, _ => by omega
  | n + 1, i, k, h1, h2, h3, h4 => by
    unfold firstE
    by_cases e : i = k
    · subst e; rw [if_pos h4]
    · rw [if_neg (by simpa using h3 i (Nat.le_refl _) (by omega))]
      exact firstE_at n (i + 1) k (by omega) (by omega) (fun j h5 h6 => h3 j (by omega) h6) h4
def tabOkB (t : Ta) : Bool := inB t.cols.l.length 1 8 && (t.erase == 0 || t.erase == 1) && inB t.retain 0 1048576
def tabE (pre : List Ta) (t : Ta) : Int := if tabOkB t = false then 1 else firstE (colE pre t) 0 t.cols.l.length

/-- The columns of a store by its name. -/
def srcOf (nms : List ByteArray) (sts : List Cs) (x : ByteArray) : Option Cs := if idx x nms < 0 then none else some (sts.getD (idx x nms).toNat ([], []))
def shapeB (v : Vw) : Bool :=
  if v.kind = 2 then !emp v.right && (v.on.l.isEmpty && v.wh.l.isEmpty && v.its.l.isEmpty && v.ags.l.isEmpty) && !v.dis
  else if (emp v.right = true ∧ v.on.l ≠ []) ∨ 8 < v.on.l.length ∨ 8 < v.its.l.length + v.ags.l.length then false
  else if v.kind = 0 then !v.its.l.isEmpty && v.ags.l.isEmpty
  else !v.ags.l.isEmpty && !v.dis
def pairE (left right : List Int) : List (Int × Int) → Int
  | [] => 0
  | p :: l => if (inB p.1 0 (left.length - 1) && inB p.2 0 (right.length - 1)) = false then 3 else if left.getD p.1.toNat 0 ≠ right.getD p.2.toNat 0 then 5 else pairE left right l
def reqI (p : Int × Int) : Int × Int := if p.2 = 0 ∧ p.1 ≠ 1 then (0, 5) else p
def whE (wh : List Tm) (types : List Int) : Int := if wh = [] then 0 else (reqI (tyL types wh)).2
def agT (types : List Int) (fn : Int) (ex : List Tm) : Int × Int :=
  if fn = 0 then (if ex = [] then (1, 0) else (0, 1)) else if fn = 1 then reqI (tyL types ex) else if fn = 2 ∨ fn = 3 ∨ fn = 4 then tyL types ex else (0, 1)
def entries (v : Vw) (types : List Int) : List (ByteArray × (Int × Int)) := v.its.l.map (fun i => (i.name, tyL types i.ex.l)) ++ v.ags.l.map (fun a => (a.name, agT types a.fn a.ex.l))
def addE (ns : List ByteArray) (ts : List Int) : List (ByteArray × (Int × Int)) → Int × Cs
  | [] => (0, (ns, ts))
  | (n, p) :: l => if nameE n ns ≠ 0 then (nameE n ns, ([], [])) else if p.2 ≠ 0 then (p.2, ([], [])) else addE (ns ++ [n]) (ts ++ [p.1]) l
def derE (v : Vw) (left right : Cs) : Int × Cs :=
  if v.kind = 2 then (if left.2 = right.2 then (0, left) else (5, ([], [])))
  else if pairE left.2 right.2 v.on.l ≠ 0 then (pairE left.2 right.2 v.on.l, ([], []))
  else if whE v.wh.l (left.2 ++ right.2) ≠ 0 then (whE v.wh.l (left.2 ++ right.2), ([], []))
  else addE [] [] (entries v (left.2 ++ right.2))
def vwE (nms : List ByteArray) (sts : List Cs) (v : Vw) : Int × Cs :=
  if v.kind ≠ 0 ∧ v.kind ≠ 1 ∧ v.kind ≠ 2 then (1, ([], []))
  else match srcOf nms sts v.left, (if emp v.right = true then some ([], []) else srcOf nms sts v.right) with
    | some l, some r => if shapeB v = false then (1, ([], [])) else derE v l r
    | _, _ => (7, ([], []))
/-- The type of a column of a store, or an error. -/
def plE (nms : List ByteArray) (sts : List Cs) (src : ByteArray) (col : Int) : Int × Int := match srcOf nms sts src with
  | none => (0, 7)
  | some c => if inB col 0 (c.2.length - 1) = false then (0, 3) else (c.2.getD col.toNat 0, 0)
def ixE (nms : List ByteArray) (sts : List Cs) (x : Ix) : Int := if (plE nms sts x.src x.col).2 = 0 ∧ (plE nms sts x.src x.col).1 ≠ 2 then 5 else (plE nms sts x.src x.col).2
def skB (s : Sk) : Bool := (s.kind == 0 || s.kind == 1 || s.kind == 2) && (inB s.width 1 1024 && (inB s.depth 1 (if s.kind = 2 then 1 else 8) && decide (s.width * s.depth ≤ 1024)))
def skE (nms : List ByteArray) (sts : List Cs) (x : Sk) : Int := if (plE nms sts x.src x.col).2 = 0 ∧ skB x = false then 1 else (plE nms sts x.src x.col).2
def chE (nms : List ByteArray) (sts : List Cs) (x : Ch) : Int := if (plE nms sts x.src x.col).2 = 0 ∧ inB x.ttl 1 1048576 = false then 1 else (plE nms sts x.src x.col).2
def Vw.z : Vw := ⟨⟨#[]⟩, 0, ⟨#[]⟩, ⟨#[]⟩, ⟨none, 0, []⟩, ⟨none, 0, []⟩, ⟨none, 0, []⟩, false, ⟨none, 0, []⟩⟩
def Ag.z : Ag := ⟨⟨#[]⟩, 0, ⟨none, 0, []⟩⟩
def cntB (v : Vw) : Bool := v.kind == 1 && (v.ags.l.getD 0 Ag.z).fn == 0
def reE (nms : List ByteArray) (nT : Nat) (vs : List Vw) (x : Re) : Int := if idx x.src nms - nT < 0 then 7 else if (cntB (vs.getD (idx x.src nms - nT).toNat Vw.z) && inB x.thr 1 1024) = false then 1 else 0
/-- A table by its name. -/
def tabI (nms : List ByteArray) (nT : Nat) (x : ByteArray) : Int := if idx x nms < nT then idx x nms else -1
def stE (nms : List ByteArray) (nT : Nat) (x : St) : Int := if tabI nms nT x.tab < 0 then 7 else 0
def bkI (nms : List ByteArray) (nT : Nat) (tabs : List ByteArray) (i : Nat) : Int := if tabI nms nT (tabs.getD i ⟨#[]⟩) < 0 then 7 else if anyB (tabs.getD i ⟨#[]⟩) (tabs.take i) = true then 4 else 0
def bkE (nms : List ByteArray) (nT : Nat) (x : Bk) : Int := if x.tabs.l = [] ∨ inB x.keep 1 1048576 = false then 1 else firstE (bkI nms nT x.tabs.l) 0 x.tabs.l.length

/-- The names of all declarations. -/
def Cat.names (c : Cat) : List ByteArray := c.ts.l.map (·.name) ++ c.vs.l.map (·.name) ++ c.xs.l.map (·.name) ++ c.ks.l.map (·.name) ++ c.hs.l.map (·.name) ++ c.rs.l.map (·.name) ++ c.ms.l.map (·.name) ++ c.bs.l.map (·.name)
def Cat.nT (c : Cat) : Nat := c.ts.l.length
def Cat.nS (c : Cat) : Nat := c.ts.l.length + c.vs.l.length
/-- The columns of the views, one after the other. -/
def stV (nms : List ByteArray) : List Vw → List Cs → List Cs
  | [], acc => acc
  | v :: l, acc => stV nms l (acc ++ [(vwE (nms.take acc.length) acc v).2])
def Cat.sts (c : Cat) : List Cs := stV c.names c.vs.l (c.ts.l.map tabCols)
theorem stV_len (nms : List ByteArray) : ∀ (l : List Vw) (acc : List Cs), (stV nms l acc).length = acc.length + l.length
  | [], acc => by simp [stV]
  | v :: l, acc => by rw [stV, stV_len nms l]; simp; omega
theorem stV_take (nms : List ByteArray) : ∀ (l : List Vw) (acc : List Cs), (stV nms l acc).take acc.length = acc
  | [], acc => by simp [stV]
  | v :: l, acc => by
    rw [stV]
    have h := congrArg (List.take acc.length) (stV_take nms l (acc ++ [(vwE (nms.take acc.length) acc v).2]))
    rw [List.take_take, List.length_append, Nat.min_eq_left (by omega), List.take_append_of_le_length (Nat.le_refl _), List.take_length] at h
    exact h
theorem stV_at (nms : List ByteArray) : ∀ (l : List Vw) (acc : List Cs) (j : Nat) (hj : j < l.length), (stV nms l acc)[acc.length + j]? = some (vwE (nms.take (acc.length + j)) ((stV nms l acc).take (acc.length + j)) l[j]).2
  | [], acc, j, hj => by simp at hj
  | v :: l, acc, 0, _ => by
    have h1 := stV_take nms (v :: l) acc
    have h2 := stV_take nms l (acc ++ [(vwE (nms.take acc.length) acc v).2])
    simp only [Nat.add_zero, h1]
    rw [stV]
    have h3 := congrArg (fun x => x[acc.length]?) h2
    simp only [List.getElem?_take, List.length_append, List.length_singleton] at h3
    rw [if_pos (by omega)] at h3
    rw [h3]; simp
  | v :: l, acc, j + 1, hj => by
    have h := stV_at nms l (acc ++ [(vwE (nms.take acc.length) acc v).2]) j (by simpa using hj)
    rw [stV]
    simp only [List.length_append, List.length_singleton, show acc.length + 1 + j = acc.length + (j + 1) by omega] at h
    rw [h]; rfl
theorem Cat.sts_len (c : Cat) : c.sts.length = c.nS := by unfold Cat.sts Cat.nS; rw [stV_len]; simp
theorem Cat.sts_tab (c : Cat) {i : Nat} (h : i < c.ts.l.length) : c.sts[i]? = some (tabCols c.ts.l[i]) := by
  have h2 := congrArg (fun x => x[i]?) (stV_take c.names c.vs.l (c.ts.l.map tabCols))
  simp only [List.length_map] at h2
  rw [List.getElem?_take, if_pos h] at h2
  unfold Cat.sts
  rw [h2]; simp [h]
theorem Cat.sts_view (c : Cat) {j : Nat} (h : j < c.vs.l.length) : c.sts[c.nT + j]? = some (vwE (c.names.take (c.nT + j)) (c.sts.take (c.nT + j)) c.vs.l[j]).2 := by
  have := stV_at c.names c.vs.l (c.ts.l.map tabCols) j h
  rw [List.length_map] at this
  exact this
theorem Cat.names_len (c : Cat) : c.names.length = c.nS + (c.xs.l.length + c.ks.l.length + c.hs.l.length + c.rs.l.length + c.ms.l.length + c.bs.l.length) := by
  unfold Cat.names Cat.nS; simp only [List.length_append, List.length_map]; omega

/-- What is wrong with declaration i, its name aside. -/
def Cat.declE (c : Cat) (i : Nat) : Int :=
  let sn := c.names.take c.nS
  if h : i < c.ts.l.length then tabE (c.ts.l.take i) c.ts.l[i]
  else if h : i - c.nT < c.vs.l.length then (vwE (c.names.take i) (c.sts.take i) c.vs.l[i - c.nT]).1
  else if h : i - c.nS < c.xs.l.length then ixE sn c.sts c.xs.l[i - c.nS]
  else if h : i - c.nS - c.xs.l.length < c.ks.l.length then skE sn c.sts c.ks.l[i - c.nS - c.xs.l.length]
  else if h : i - c.nS - c.xs.l.length - c.ks.l.length < c.hs.l.length then chE sn c.sts c.hs.l[i - c.nS - c.xs.l.length - c.ks.l.length]
  else if h : i - c.nS - c.xs.l.length - c.ks.l.length - c.hs.l.length < c.rs.l.length then reE sn c.nT c.vs.l c.rs.l[i - c.nS - c.xs.l.length - c.ks.l.length - c.hs.l.length]
  else if h : i - c.nS - c.xs.l.length - c.ks.l.length - c.hs.l.length - c.rs.l.length < c.ms.l.length then stE sn c.nT c.ms.l[i - c.nS - c.xs.l.length - c.ks.l.length - c.hs.l.length - c.rs.l.length]
  else if h : i - c.nS - c.xs.l.length - c.ks.l.length - c.hs.l.length - c.rs.l.length - c.ms.l.length < c.bs.l.length then bkE sn c.nT c.bs.l[i - c.nS - c.xs.l.length - c.ks.l.length - c.hs.l.length - c.rs.l.length - c.ms.l.length]
  else 0
def Cat.nmE (c : Cat) (i : Nat) : Int := nameE (c.names.getD i ⟨#[]⟩) (c.names.take i)
def Cat.errAt (c : Cat) (i : Nat) : Int := if c.nmE i ≠ 0 then c.nmE i else c.declE i
def Cat.fullB (c : Cat) : Bool := decide (8 < c.ts.l.length) || decide (12 < c.vs.l.length) || decide (16 < c.xs.l.length) || decide (16 < c.ks.l.length) || decide (16 < c.hs.l.length) || decide (16 < c.rs.l.length) || decide (16 < c.ms.l.length) || decide (16 < c.bs.l.length)
/-- The first declaration with an error, and the error. -/
def firstN (f : Nat → Int) (i : Nat) : Nat → Int × Int
  | 0 => (0, 0)
  | n + 1 => if f i ≠ 0 then ((i : Int), f i) else firstN f (i + 1) n
theorem firstN_zero {f : Nat → Int} : ∀ (n i : Nat), (∀ j, i ≤ j → j < i + n → f j = 0) → firstN f i n = (0, 0)
  | 0, _, _ => rfl
  | n + 1, i, h => by
    unfold firstN
    rw [if_neg (by simpa using h i (by omega) (by omega))]
    exact firstN_zero n (i + 1) fun j h1 h2 => h j (by omega) (by omega)
theorem firstN_at {f : Nat → Int} : ∀ (n i k : Nat), i ≤ k → k < i + n → (∀ j, i ≤ j → j < k → f j = 0) → f k ≠ 0 → firstN f i n = ((k : Int), f k)
  | 0, i, k, h1, h2, _, _ => by omega
  | n + 1, i, k, h1, h2, h3, h4 => by
    unfold firstN
    by_cases e : i = k
    · subst e; rw [if_pos h4]
    · rw [if_neg (by simpa using h3 i (Nat.le_refl _) (by omega))]
      exact firstN_at n (i + 1) k (by omega) (by omega) (fun j h5 h6 => h3 j (by omega) h6) h4
def Cat.chk (c : Cat) : Int × Int := if c.fullB = true then (0, 8) else firstN c.errAt 0 c.names.length
/-- All declarations before n are without an error. -/
def Cat.Good (c : Cat) (n : Nat) : Prop := c.fullB = false ∧ ∀ i, i < n → c.errAt i = 0
theorem Cat.chk_good {c : Cat} (h : c.Good c.names.length) : c.chk = (0, 0) := by
  unfold Cat.chk
  rw [if_neg (by rw [h.1]; simp)]
  exact firstN_zero _ _ fun j _ hj => h.2 j (by omega)
theorem Cat.chk_bad {c : Cat} {k : Nat} (h : c.Good k) (hk : k < c.names.length) (he : c.errAt k ≠ 0) : c.chk = ((k : Int), c.errAt k) := by
  unfold Cat.chk
  rw [if_neg (by rw [h.1]; simp)]
  exact firstN_at _ _ k (by omega) (by omega) (fun j _ hj => h.2 j hj) he
end Go.Proofs.YtenonljnldbkiaaGreatDoor
/- Catalogues in memory. -/
namespace Go.Proofs.YtenonljnldbkiaaGreatDoor
open Go.RowKit Go.Proofs.EB Go.Proofs.TX
set_option maxHeartbeats 1000000
attribute [local go_sem] World.cell?_alloc_some

def encStr' (s : ByteArray) : List Value := [.string s]
def encPr (p : Int × Int) : List Value := [.int .i64 p.1, .int .i64 p.2]
def encCo (c : Co) : List Value := [.string c.name, .int .i64 c.ty, .string c.ns, .string c.refs, .slice c.own.ao c.own.l.length c.own.cap, .int .i64 c.joint, .int .i64 c.duty]
def encTa (t : Ta) : List Value := [.string t.name, .slice t.cols.ao t.cols.l.length t.cols.cap, .int .i64 t.erase, .int .i64 t.retain]
def encIt (i : It) : List Value := [.string i.name, .slice i.ex.ao i.ex.l.length i.ex.cap]
def encAg (a : Ag) : List Value := [.string a.name, .int .i64 a.fn, .slice a.ex.ao a.ex.l.length a.ex.cap]
def encVw (v : Vw) : List Value := [.string v.name, .int .i64 v.kind, .string v.left, .string v.right, .slice v.on.ao v.on.l.length v.on.cap, .slice v.wh.ao v.wh.l.length v.wh.cap, .slice v.its.ao v.its.l.length v.its.cap, .bool v.dis, .slice v.ags.ao v.ags.l.length v.ags.cap]
def encIx (x : Ix) : List Value := [.string x.name, .string x.src, .int .i64 x.col]
def encSk (x : Sk) : List Value := [.string x.name, .string x.src, .int .i64 x.col, .int .i64 x.kind, .int .i64 x.width, .int .i64 x.depth]
def encCh (x : Ch) : List Value := [.string x.name, .string x.src, .int .i64 x.col, .int .i64 x.ttl]
def encRe (x : Re) : List Value := [.string x.name, .string x.src, .int .i64 x.thr]
def encSt (x : St) : List Value := [.string x.name, .string x.tab]
def encBk (x : Bk) : List Value := [.string x.name, .slice x.tabs.ao x.tabs.l.length x.tabs.cap, .int .i64 x.keep]
def Co.val (c : Co) : Value := .agg #[.string c.name, .int .i64 c.ty, .string c.ns, .string c.refs, .slice c.own.ao c.own.l.length c.own.cap, .int .i64 c.joint, .int .i64 c.duty]
def Ta.val (t : Ta) : Value := .agg #[.string t.name, .slice t.cols.ao t.cols.l.length t.cols.cap, .int .i64 t.erase, .int .i64 t.retain]
def Ag.val (a : Ag) : Value := .agg #[.string a.name, .int .i64 a.fn, .slice a.ex.ao a.ex.l.length a.ex.cap]
def Vw.val (v : Vw) : Value := .agg #[.string v.name, .int .i64 v.kind, .string v.left, .string v.right, .slice v.on.ao v.on.l.length v.on.cap, .slice v.wh.ao v.wh.l.length v.wh.cap, .slice v.its.ao v.its.l.length v.its.cap, .bool v.dis, .slice v.ags.ao v.ags.l.length v.ags.cap]
def Ix.val (x : Ix) : Value := .agg #[.string x.name, .string x.src, .int .i64 x.col]
def Sk.val (x : Sk) : Value := .agg #[.string x.name, .string x.src, .int .i64 x.col, .int .i64 x.kind, .int .i64 x.width, .int .i64 x.depth]
def Ch.val (x : Ch) : Value := .agg #[.string x.name, .string x.src, .int .i64 x.col, .int .i64 x.ttl]
def Re.val (x : Re) : Value := .agg #[.string x.name, .string x.src, .int .i64 x.thr]
def St.val (x : St) : Value := .agg #[.string x.name, .string x.tab]
def Bk.val (x : Bk) : Value := .agg #[.string x.name, .slice x.tabs.ao x.tabs.l.length x.tabs.cap, .int .i64 x.keep]
def Cat.cells (c : Cat) : Array Value := #[.slice c.ts.ao c.ts.l.length c.ts.cap, .slice c.vs.ao c.vs.l.length c.vs.cap, .slice c.xs.ao c.xs.l.length c.xs.cap, .slice c.ks.ao c.ks.l.length c.ks.cap, .slice c.hs.ao c.hs.l.length c.hs.cap, .slice c.rs.ao c.rs.l.length c.rs.cap, .slice c.ms.ao c.ms.l.length c.ms.cap, .slice c.bs.ao c.bs.l.length c.bs.cap]
def Cat.val (c : Cat) : Value := .agg #[.slice c.ts.ao c.ts.l.length c.ts.cap, .slice c.vs.ao c.vs.l.length c.vs.cap, .slice c.xs.ao c.xs.l.length c.xs.cap, .slice c.ks.ao c.ks.l.length c.ks.cap, .slice c.hs.ao c.hs.l.length c.hs.cap, .slice c.rs.ao c.rs.l.length c.rs.cap, .slice c.ms.ao c.ms.l.length c.ms.cap, .slice c.bs.ao c.bs.l.length c.bs.cap]

def okStr (_ : World) (_ : Nat) (s : ByteArray) : Prop := s.size ≤ maxLen
def okInt (_ : World) (_ : Nat) (n : Int) : Prop := i64B n
def okPr (_ : World) (_ : Nat) (p : Int × Int) : Prop := i64B p.1 ∧ i64B p.2
def okTm (_ : World) (_ : Nat) (t : Tm) : Prop := t.okT
abbrev IntsS (w : World) (B : Nat) (s : SL Int) : Prop := RdS encInt 1 okInt w B s
abbrev StrsS (w : World) (B : Nat) (s : SL ByteArray) : Prop := RdS encStr' 1 okStr w B s
abbrev TmsS (w : World) (B : Nat) (s : SL Tm) : Prop := RdS encTm 5 okTm w B s
structure CoOk (w : World) (B : Nat) (c : Co) : Prop where
  name : c.name.size ≤ maxLen
  ns : c.ns.size ≤ maxLen
  refs : c.refs.size ≤ maxLen
  ty : i64B c.ty
  joint : i64B c.joint
  duty : i64B c.duty
  own : IntsS w B c.own
structure TaOk (w : World) (B : Nat) (t : Ta) : Prop where
  name : t.name.size ≤ maxLen
  erase : i64B t.erase
  retain : i64B t.retain
  cols : RdS encCo 7 CoOk w B t.cols
structure ItOk (w : World) (B : Nat) (i : It) : Prop where
  name : i.name.size ≤ maxLen
  ex : TmsS w B i.ex
structure AgOk (w : World) (B : Nat) (a : Ag) : Prop where
  name : a.name.size ≤ maxLen
  fn : i64B a.fn
  ex : TmsS w B a.ex
structure VwOk (w : World) (B : Nat) (v : Vw) : Prop where
  name : v.name.size ≤ maxLen
  left : v.left.size ≤ maxLen
  right : v.right.size ≤ maxLen
  kind : i64B v.kind
  on : RdS encPr 2 okPr w B v.on
  wh : TmsS w B v.wh
  its : RdS encIt 2 ItOk w B v.its
  ags : RdS encAg 3 AgOk w B v.ags
structure IxOk (w : World) (B : Nat) (x : Ix) : Prop where
  name : x.name.size ≤ maxLen
  src : x.src.size ≤ maxLen
  col : i64B x.col
structure SkOk (w : World) (B : Nat) (x : Sk) : Prop where
  name : x.name.size ≤ maxLen
  src : x.src.size ≤ maxLen
  col : i64B x.col
  kind : i64B x.kind
  width : i64B x.width
  depth : i64B x.depth
structure ChOk (w : World) (B : Nat) (x : Ch) : Prop where
  name : x.name.size ≤ maxLen
  src : x.src.size ≤ maxLen
  col : i64B x.col
  ttl : i64B x.ttl
structure ReOk (w : World) (B : Nat) (x : Re) : Prop where
  name : x.name.size ≤ maxLen
  src : x.src.size ≤ maxLen
  thr : i64B x.thr
structure StOk (w : World) (B : Nat) (x : St) : Prop where
  name : x.name.size ≤ maxLen
  tab : x.tab.size ≤ maxLen
structure BkOk (w : World) (B : Nat) (x : Bk) : Prop where
  name : x.name.size ≤ maxLen
  keep : i64B x.keep
  tabs : StrsS w B x.tabs
structure CatAt (w : World) (B : Nat) (c : Cat) : Prop where
  ts : RdS encTa 4 TaOk w B c.ts
  vs : RdS encVw 9 VwOk w B c.vs
  xs : RdS encIx 3 IxOk w B c.xs
  ks : RdS encSk 6 SkOk w B c.ks
  hs : RdS encCh 4 ChOk w B c.hs
  rs : RdS encRe 3 ReOk w B c.rs
  ms : RdS encSt 2 StOk w B c.ms
  bs : RdS encBk 3 BkOk w B c.bs
section
variable {w w' : World} {B B' : Nat}
theorem IntsS.below {s : SL Int} (h : IntsS w B s) (hb : Below B w w') (hB : B ≤ B') : IntsS w' B' s := RdS.below h hb hB fun _ h => h
theorem StrsS.below {s : SL ByteArray} (h : StrsS w B s) (hb : Below B w w') (hB : B ≤ B') : StrsS w' B' s := RdS.below h hb hB fun _ h => h
theorem TmsS.below {s : SL Tm} (h : TmsS w B s) (hb : Below B w w') (hB : B ≤ B') : TmsS w' B' s := RdS.below h hb hB fun _ h => h
theorem CoOk.below {c : Co} (h : CoOk w B c) (hb : Below B w w') (hB : B ≤ B') : CoOk w' B' c := { h with own := h.own.below hb hB }
theorem TaOk.below {t : Ta} (h : TaOk w B t) (hb : Below B w w') (hB : B ≤ B') : TaOk w' B' t := { h with cols := h.cols.below hb hB fun _ h => h.below hb hB }
theorem ItOk.below {t : It} (h : ItOk w B t) (hb : Below B w w') (hB : B ≤ B') : ItOk w' B' t := { h with ex := h.ex.below hb hB }
theorem AgOk.below {t : Ag} (h : AgOk w B t) (hb : Below B w w') (hB : B ≤ B') : AgOk w' B' t := { h with ex := h.ex.below hb hB }
theorem VwOk.below {t : Vw} (h : VwOk w B t) (hb : Below B w w') (hB : B ≤ B') : VwOk w' B' t :=
  { h with on := h.on.below hb hB (fun _ h => h), wh := h.wh.below hb hB, its := h.its.below hb hB (fun _ h => h.below hb hB), ags := h.ags.below hb hB (fun _ h => h.below hb hB) }
theorem BkOk.below {t : Bk} (h : BkOk w B t) (hb : Below B w w') (hB : B ≤ B') : BkOk w' B' t := { h with tabs := h.tabs.below hb hB }
theorem CatAt.below {c : Cat} (h : CatAt w B c) (hb : Below B w w') (hB : B ≤ B') : CatAt w' B' c :=
  ⟨h.ts.below hb hB (fun _ h => h.below hb hB), h.vs.below hb hB (fun _ h => h.below hb hB), h.xs.below hb hB (fun _ h => ⟨h.1, h.2, h.3⟩), h.ks.below hb hB (fun _ h => ⟨h.1, h.2, h.3, h.4, h.5, h.6⟩),
   h.hs.below hb hB (fun _ h => ⟨h.1, h.2, h.3, h.4⟩), h.rs.below hb hB (fun _ h => ⟨h.1, h.2, h.3⟩), h.ms.below hb hB (fun _ h => ⟨h.1, h.2⟩), h.bs.below hb hB (fun _ h => h.below hb hB)⟩
theorem CatAt.later {c : Cat} (h : CatAt w w.heap.size c) (hb : Below w.heap.size w w') : CatAt w' w'.heap.size c := h.below hb hb.size
end
/-- Sizes that all functions can take. -/
structure Cat.Sml (c : Cat) : Prop where
  ts : c.ts.l.length ≤ 100
  cols : ∀ t ∈ c.ts.l, t.cols.l.length ≤ 100
  own : ∀ t ∈ c.ts.l, ∀ x ∈ t.cols.l, x.own.l.length ≤ 100
  vs : c.vs.l.length ≤ 100
  on : ∀ v ∈ c.vs.l, v.on.l.length ≤ 100
  wh : ∀ v ∈ c.vs.l, v.wh.l.length ≤ 100
  its : ∀ v ∈ c.vs.l, v.its.l.length ≤ 100
  ags : ∀ v ∈ c.vs.l, v.ags.l.length ≤ 100
  xs : c.xs.l.length ≤ 100
  ks : c.ks.l.length ≤ 100
  hs : c.hs.l.length ≤ 100
  rs : c.rs.l.length ≤ 100
  ms : c.ms.l.length ≤ 100
  bs : c.bs.l.length ≤ 100
  tabs : ∀ b ∈ c.bs.l, b.tabs.l.length ≤ 100
/-- A boxed catalogue, cell by cell. -/
theorem boxC {w : World} {g : Nat} {T : TypeId} {c : Cat} (h : w.heap[g]? = some (.cells c.cells T (0, 0))) :
    w.cell? ⟨g, 0, none⟩ = some (.slice c.ts.ao c.ts.l.length c.ts.cap) ∧ w.cell? ⟨g, 1, none⟩ = some (.slice c.vs.ao c.vs.l.length c.vs.cap) ∧ w.cell? ⟨g, 2, none⟩ = some (.slice c.xs.ao c.xs.l.length c.xs.cap) ∧ w.cell? ⟨g, 3, none⟩ = some (.slice c.ks.ao c.ks.l.length c.ks.cap) ∧
    w.cell? ⟨g, 4, none⟩ = some (.slice c.hs.ao c.hs.l.length c.hs.cap) ∧ w.cell? ⟨g, 5, none⟩ = some (.slice c.rs.ao c.rs.l.length c.rs.cap) ∧ w.cell? ⟨g, 6, none⟩ = some (.slice c.ms.ao c.ms.l.length c.ms.cap) ∧ w.cell? ⟨g, 7, none⟩ = some (.slice c.bs.ao c.bs.l.length c.bs.cap) := by
  unfold Cat.cells at h
  simp [World.cell?, h]
section
variable {w : World} {B b off : Nat}
theorem RAt.co {l : List Co} (h : RAt encCo 7 w B (some ⟨b, off, none⟩) l) {i : Nat} (hi : i < l.length) :
    w.cell? ⟨b, off + i * 7, none⟩ = some (.string l[i].name) ∧ w.cell? ⟨b, off + i * 7 + 1, none⟩ = some (.int .i64 l[i].ty) ∧ w.cell? ⟨b, off + i * 7 + 2, none⟩ = some (.string l[i].ns) ∧ w.cell? ⟨b, off + i * 7 + 3, none⟩ = some (.string l[i].refs) ∧ w.cell? ⟨b, off + i * 7 + 4, none⟩ = some (.slice l[i].own.ao l[i].own.l.length l[i].own.cap) ∧ w.cell? ⟨b, off + i * 7 + 5, none⟩ = some (.int .i64 l[i].joint) ∧ w.cell? ⟨b, off + i * 7 + 6, none⟩ = some (.int .i64 l[i].duty) :=
  ⟨RAt.cell h hi (j := 0) rfl, RAt.cell h hi (j := 1) rfl, RAt.cell h hi (j := 2) rfl, RAt.cell h hi (j := 3) rfl, RAt.cell h hi (j := 4) rfl, RAt.cell h hi (j := 5) rfl, RAt.cell h hi (j := 6) rfl⟩
theorem RAt.ta {l : List Ta} (h : RAt encTa 4 w B (some ⟨b, off, none⟩) l) {i : Nat} (hi : i < l.length) :
    w.cell? ⟨b, off + i * 4, none⟩ = some (.string l[i].name) ∧ w.cell? ⟨b, off + i * 4 + 1, none⟩ = some (.slice l[i].cols.ao l[i].cols.l.length l[i].cols.cap) ∧ w.cell? ⟨b, off + i * 4 + 2, none⟩ = some (.int .i64 l[i].erase) ∧ w.cell? ⟨b, off + i * 4 + 3, none⟩ = some (.int .i64 l[i].retain) :=
  ⟨RAt.cell h hi (j := 0) rfl, RAt.cell h hi (j := 1) rfl, RAt.cell h hi (j := 2) rfl, RAt.cell h hi (j := 3) rfl⟩
theorem RAt.vw {l : List Vw} (h : RAt encVw 9 w B (some ⟨b, off, none⟩) l) {i : Nat} (hi : i < l.length) :
    w.cell? ⟨b, off + i * 9, none⟩ = some (.string l[i].name) ∧ w.cell? ⟨b, off + i * 9 + 1, none⟩ = some (.int .i64 l[i].kind) ∧ w.cell? ⟨b, off + i * 9 + 2, none⟩ = some (.string l[i].left) ∧ w.cell? ⟨b, off + i * 9 + 3, none⟩ = some (.string l[i].right) ∧ w.cell? ⟨b, off + i * 9 + 4, none⟩ = some (.slice l[i].on.ao l[i].on.l.length l[i].on.cap) ∧ w.cell? ⟨b, off + i * 9 + 5, none⟩ = some (.slice l[i].wh.ao l[i].wh.l.length l[i].wh.cap) ∧ w.cell? ⟨b, off + i * 9 + 6, none⟩ = some (.slice l[i].its.ao l[i].its.l.length l[i].its.cap) ∧ w.cell? ⟨b, off + i * 9 + 7, none⟩ = some (.bool l[i].dis) ∧ w.cell? ⟨b, off + i * 9 + 8, none⟩ = some (.slice l[i].ags.ao l[i].ags.l.length l[i].ags.cap) :=
  ⟨RAt.cell h hi (j := 0) rfl, RAt.cell h hi (j := 1) rfl, RAt.cell h hi (j := 2) rfl, RAt.cell h hi (j := 3) rfl, RAt.cell h hi (j := 4) rfl, RAt.cell h hi (j := 5) rfl, RAt.cell h hi (j := 6) rfl, RAt.cell h hi (j := 7) rfl, RAt.cell h hi (j := 8) rfl⟩
theorem RAt.it {l : List It} (h : RAt encIt 2 w B (some ⟨b, off, none⟩) l) {i : Nat} (hi : i < l.length) :
    w.cell? ⟨b, off + i * 2, none⟩ = some (.string l[i].name) ∧ w.cell? ⟨b, off + i * 2 + 1, none⟩ = some (.slice l[i].ex.ao l[i].ex.l.length l[i].ex.cap) := ⟨RAt.cell h hi (j := 0) rfl, RAt.cell h hi (j := 1) rfl⟩
theorem RAt.ag {l : List Ag} (h : RAt encAg 3 w B (some ⟨b, off, none⟩) l) {i : Nat} (hi : i < l.length) :
    w.cell? ⟨b, off + i * 3, none⟩ = some (.string l[i].name) ∧ w.cell? ⟨b, off + i * 3 + 1, none⟩ = some (.int .i64 l[i].fn) ∧ w.cell? ⟨b, off + i * 3 + 2, none⟩ = some (.slice l[i].ex.ao l[i].ex.l.length l[i].ex.cap) := ⟨RAt.cell h hi (j := 0) rfl, RAt.cell h hi (j := 1) rfl, RAt.cell h hi (j := 2) rfl⟩
theorem RAt.pr {l : List (Int × Int)} (h : RAt encPr 2 w B (some ⟨b, off, none⟩) l) {i : Nat} (hi : i < l.length) :
    w.cell? ⟨b, off + i * 2, none⟩ = some (.int .i64 l[i].1) ∧ w.cell? ⟨b, off + i * 2 + 1, none⟩ = some (.int .i64 l[i].2) := ⟨RAt.cell h hi (j := 0) rfl, RAt.cell h hi (j := 1) rfl⟩
theorem RAt.str' {l : List ByteArray} (h : RAt encStr' 1 w B (some ⟨b, off, none⟩) l) {i : Nat} (hi : i < l.length) : w.cell? ⟨b, off + i, none⟩ = some (.string l[i]) := by
  have := RAt.cell h hi (j := 0) (u := .string l[i]) rfl
  simpa using this
end
end Go.Proofs.YtenonljnldbkiaaGreatDoor
/- The reference's Quote and Digits. -/
namespace Go.Proofs.YtenonljnldbkiaaGreatDoor
open Go.RowKit Go.Proofs.EB
open Go.Lib (byteCells)
set_option maxHeartbeats 1000000
attribute [local go_sem] World.cell?_alloc_some

end Go.Proofs.YtenonljnldbkiaaGreatDoor
/- The reference's Digits. -/
namespace Go.Proofs.EB
open Go.RowKit
open Go.Lib (byteCells)
section
variable {P : Program} {t e : TypeId}
/-- 'string(b)' of one byte, at a step of a region that draws its order. -/
theorem step_b1 {dst : TypeId} (hd : P.underlying dst = some .string) (ht : P.underlying t = some (.slice e)) (he : P.underlying e = some (.int .u8)) (w : World)
    {ops : Array Oper} {o : Oper} {a : Act} {K : Act → World → Prop} {Q : Exit → Act → World → Prop} {E : Prop} (hgd : o.guard = none) (x : Operand) (ho : o.op = .convert t dst x) (g : Nat) (b : UInt8)
    (hx : a.eval x = .slice (some ⟨g, 0, none⟩) 1 1) (hc : w.cell? ⟨g, 0, none⟩ = some (.int .u8 (b.toNat : Int)))
    (h : K (a.put o.dst (.string ⟨#[b]⟩)) w) : if Region.wanted o (yielded ops a.tmps) = true then Oper.wp P o a w K Q else E := by
  have hwt : Region.wanted o (yielded ops a.tmps) = true := by simp [Region.wanted, hgd]
  rw [if_pos hwt]
  unfold Oper.wp execOp
  have hr : (convert t dst (.slice (some ⟨g, 0, none⟩) 1 1)).run P w = .ok (.string ⟨[b].toArray⟩) w := by
    refine run_convert_bytes_back w t dst e _ _ [b] ht he hd fun j hj => ?_
    have : j = 0 := by simpa using hj
    subst this
    exact hc
  simp only [ho, hx, Sem.run_bind, hr, Result.andThen_ok, Sem.run_pure]
  exact h
end
end Go.Proofs.EB
namespace Go.Proofs.YtenonljnldbkiaaGreatDoor
open Go.RowKit Go.Proofs.EB
open Go.Lib (byteCells)
set_option maxHeartbeats 1000000
attribute [local go_sem] World.cell?_alloc_some

theorem run_conv1 (w : World) (g : Nat) (b : UInt8) (hc : w.cell? ⟨g, 0, none⟩ = some (.int .u8 (b.toNat : Int))) : (convert 116 9 (.slice (some ⟨g, 0, none⟩) 1 1)).run Tryz.prog w = .ok (.string ⟨#[b]⟩) w := by
  refine run_convert_bytes_back w 116 9 5 _ _ [b] Tryz.underlying116 Tryz.underlying5 Tryz.underlying9 fun j hj => ?_
  have : j = 0 := by simpa using hj
  subst this
  exact hc
theorem run_conv1_new (w : World) (b : UInt8) : (convert 116 9 (.slice (some ⟨w.heap.size, 0, none⟩) 1 1)).run Tryz.prog (w.alloc (.cells #[.int .u8 (b.toNat : Int)] 5)) = .ok (.string ⟨#[b]⟩) (w.alloc (.cells #[.int .u8 (b.toNat : Int)] 5)) :=
  run_conv1 _ _ _ (by simp)
theorem run_conv1_drew (w : World) (b : UInt8) : (convert 116 9 (.slice (some ⟨w.heap.size, 0, none⟩) 1 1)).run Tryz.prog (w.alloc (.cells #[.int .u8 (b.toNat : Int)] 5)).drew = .ok (.string ⟨#[b]⟩) (w.alloc (.cells #[.int .u8 (b.toNat : Int)] 5)).drew :=
  run_conv1 _ _ _ (by simp [go_sem])
theorem run_conv1_drew2 (w : World) (b : UInt8) : (convert 116 9 (.slice (some ⟨w.heap.size, 0, none⟩) 1 1)).run Tryz.prog (w.alloc (.cells #[.int .u8 (b.toNat : Int)] 5)).drew.drew = .ok (.string ⟨#[b]⟩) (w.alloc (.cells #[.int .u8 (b.toNat : Int)] 5)).drew.drew :=
  run_conv1 _ _ _ (by simp [go_sem])
theorem digit_byte {n : Nat} (h : n < 10) : ((UInt8.ofNat (48 + n)).toNat : Int) = 48 + (n : Int) := by
  rw [UInt8.toNat_ofNat']
  omega
theorem str_snoc (ds : List UInt8) (b : UInt8) : (⟨ds.toArray⟩ : ByteArray) ++ ⟨#[b]⟩ = ⟨(ds ++ [b]).toArray⟩ := by
  apply ByteArray.ext
  simp
theorem str_cons (b : UInt8) (ds : List UInt8) : (⟨#[b]⟩ : ByteArray) ++ ⟨ds.toArray⟩ = ⟨(b :: ds).toArray⟩ := by
  apply ByteArray.ext
  simp
theorem digits_len : ∀ (u n : Nat), n ≤ u → (Lib.decDigits n).length ≤ n + 1 := by
  intro u
  induction u with
  | zero => intro n hn; rw [Lib.decDigits_one (by omega)]; simp
  | succ u ih =>
    intro n hn
    by_cases h : n < 10
    · rw [Lib.decDigits_one h]; simp
    · rw [Lib.decDigits, dif_neg h]
      have := ih (n / 10) (by omega)
      simp; omega
end Go.Proofs.YtenonljnldbkiaaGreatDoor
/- The reference's Format. -/
namespace Go.Proofs.YtenonljnldbkiaaGreatDoor
open Go.RowKit Go.Proofs.EB
set_option maxHeartbeats 1000000
attribute [local go_sem] World.cell?_alloc_some

/-- The text form of a clean value. -/
def fmtV (x : V) : List UInt8 := if x.k = 1 then Lib.itoa x.n else if x.k = 2 then quoteL x.s.data.toList ++ [34] else [110, 117, 108, 108]
end Go.Proofs.YtenonljnldbkiaaGreatDoor
/- Contracts of escapedByte, unescape, inLimits and parseText of package value. -/
namespace Go.Proofs.YtenonljnldbkiaaGreatDoor
open Go.RowKit Go.Proofs.EB Go.Proofs.TX
open Go.Lib (byteCells)
set_option maxHeartbeats 1000000
attribute [local go_sem] World.cell?_alloc_some

theorem needN_I (b : Nat) : needI (b : Int) = needN b := by unfold needI needN; congr 1; apply propext; omega
theorem hex_index (c : UInt8) : Lib.indexByte (⟨#[48, 49, 50, 51, 52, 53, 54, 55, 56, 57, 97, 98, 99, 100, 101, 102]⟩ : ByteArray).data.toList ((c.toNat : Int)).toNat.toUInt8 = match hexV c with | some a => (a : Int) | none => -1 := by
  have h : ∀ j : Fin 256, Lib.indexByte (⟨#[48, 49, 50, 51, 52, 53, 54, 55, 56, 57, 97, 98, 99, 100, 101, 102]⟩ : ByteArray).data.toList (UInt8.ofNat j.val) = match hexV (UInt8.ofNat j.val) with | some a => (a : Int) | none => -1 := by decide +kernel
  have h1 := h ⟨c.toNat, c.toNat_lt⟩
  have e : UInt8.ofNat c.toNat = c := by simp
  simp only [e] at h1
  have e2 : ((c.toNat : Int)).toNat.toUInt8 = c := by simp
  rw [e2]
  exact h1
theorem or16 (a b : Nat) (ha : a < 16) (hb : b < 16) : bits BinOp.or IntKind.i64 ((a : Int) * 16) (b : Int) = ((a * 16 + b : Nat) : Int) := by
  have : ∀ i : Fin 16, ∀ j : Fin 16, bits BinOp.or IntKind.i64 ((i.val : Int) * 16) (j.val : Int) = ((i.val * 16 + j.val : Nat) : Int) := by decide +kernel
  exact this ⟨a, ha⟩ ⟨b, hb⟩

/-- The escape at the head of a list. -/
def escAt : List UInt8 → Option UInt8
  | h1 :: h2 :: _ => esc2 h1 h2
  | _ => none
def EscPost (l : List UInt8) (e : Ending) : Prop := (∀ x, escAt l = some x → e = .returned (.tuple #[.int .u8 (x.toNat : Int), .bool true])) ∧ (escAt l = none → ∃ y : Int, e = .returned (.tuple #[.int .u8 y, .bool false]))
theorem escPost_none {l : List UInt8} {e : Ending} (h : escAt l = none) (y : Int) (he : e = .returned (.tuple #[.int .u8 y, .bool false])) : EscPost l e := ⟨fun x hx => by rw [h] at hx; simp at hx, fun _ => ⟨y, he⟩⟩
theorem escPost_some {l : List UInt8} {e : Ending} {x : UInt8} (h : escAt l = some x) (he : e = .returned (.tuple #[.int .u8 (x.toNat : Int), .bool true])) : EscPost l e := ⟨fun y hy => by rw [h] at hy; cases hy; exact he, fun h' => by rw [h] at h'; simp at h'⟩
theorem two_at {s : ByteArray} (h : 2 ≤ s.size) : ∃ r, s.data.toList = s[0] :: s[1] :: r := by
  have h2 : 2 ≤ s.data.toList.length := by simpa using h
  refine ⟨s.data.toList.drop 2, ?_⟩
  have e : s.data.toList.drop 0 = s.data.toList := rfl
  rw [← e, List.drop_eq_getElem_cons (by omega), List.drop_eq_getElem_cons (i := 1) (by omega)]
  rfl
theorem escAt_two {s : ByteArray} (h : 2 ≤ s.size) : escAt s.data.toList = esc2 s[0] s[1] := by
  obtain ⟨r, hr⟩ := two_at h
  rw [hr]; rfl
theorem escAt_short {s : ByteArray} (h : s.size < 2) : escAt s.data.toList = none := by
  have h2 : s.data.toList.length < 2 := by simpa using h
  match hl : s.data.toList with
  | [] => rfl
  | [_] => rfl
  | _ :: _ :: _ => rw [hl] at h2; simp at h2; omega


/-- What unescape has read so far and what it will give. -/
def UnescPost (o : Option (List UInt8)) (w : World) (e : Ending) (w' : World) : Prop :=
  Below w.heap.size w w' ∧ match o with
  | some t => e = .returned (.tuple #[.string ⟨t.toArray⟩, .bool true])
  | none => e = .returned (.tuple #[.string ⟨#[]⟩, .bool false])
theorem drop_cons {s : ByteArray} {k : Nat} (h : k < s.size) : s.data.toList.drop k = s[k] :: s.data.toList.drop (k + 1) := by
  rw [List.drop_eq_getElem_cons (by simpa using h)]
  rfl
theorem drop_all {s : ByteArray} {k : Nat} (h : s.size ≤ k) : s.data.toList.drop k = [] := List.drop_eq_nil_of_le (by simpa using h)
theorem unescPost_eq {o o' : Option (List UInt8)} {w w' : World} {e : Ending} (h : o = o') (hp : UnescPost o' w e w') : UnescPost o w e w' := h ▸ hp
/-- One step of unescape, at an escape. -/
theorem unesc_at_esc {s : ByteArray} {k : Nat} {t : List UInt8} (h : k < s.size) (hb : s[k].toNat = 92) : unesc t (s.data.toList.drop k) = match escAt (s.data.toList.drop (k + 1)) with | some x => unesc (t ++ [x]) (s.data.toList.drop (k + 3)) | none => none := by
  rw [drop_cons h, u92 hb]
  rcases hl : s.data.toList.drop (k + 1) with _ | ⟨h1, _ | ⟨h2, r⟩⟩
  · rw [unesc_esc0]; rfl
  · rw [unesc_esc1]; rfl
  · rw [unesc_esc]
    have e3 : s.data.toList.drop (k + 3) = r := by
      rw [show k + 3 = (k + 1) + 2 by omega, ← List.drop_drop, hl]; rfl
    rw [e3]; rfl
theorem escAt_len {l : List UInt8} {x : UInt8} (h : escAt l = some x) : 2 ≤ l.length := by
  rcases l with _ | ⟨h1, _ | ⟨h2, r⟩⟩ <;> simp [escAt] at h ⊢
theorem unesc_at_bad {s : ByteArray} {k : Nat} {t : List UInt8} (h : k < s.size) (hb : s[k].toNat ≠ 92) (hn : needN s[k].toNat = true) : unesc t (s.data.toList.drop k) = none := by
  rw [drop_cons h, unesc_plain _ _ _ hb, if_pos hn]
theorem unesc_at_ok {s : ByteArray} {k : Nat} {t : List UInt8} (h : k < s.size) (hb : s[k].toNat ≠ 92) (hn : needN s[k].toNat = false) : unesc t (s.data.toList.drop k) = unesc (t ++ [s[k]]) (s.data.toList.drop (k + 1)) := by
  rw [drop_cons h, unesc_plain _ _ _ hb, if_neg (by rw [hn]; decide)]
theorem extract_sub (s : ByteArray) (a b : Nat) : (s.extract a b).data.toList = (s.data.toList.drop a).take (b - a) := by
  simp only [ByteArray.data_extract, Array.toList_extract, List.extract_eq_take_drop]
theorem extract_toList (s : ByteArray) (k : Nat) (_ : k ≤ s.size) : (s.extract k s.size).data.toList = s.data.toList.drop k := by
  rw [extract_sub]
  exact List.take_of_length_le (by rw [List.length_drop]; exact Nat.le_refl _)

/-- A value and an error. -/
def VE (w : World) (v : V) (n : Int) (e : Ending) (w' : World) : Prop := Below w.heap.size w w' ∧ e = .returned (.tuple #[.agg #[.int .i64 v.k, .int .i64 v.n, .string v.s], .int .i64 n])
theorem VE.start {w w1 w' : World} {v : V} {n : Int} {e : Ending} (h : VE w1 v n e w') (hb : Below w.heap.size w w1) : VE w v n e w' := ⟨hb.trans (h.1.mono hb.size), h.2⟩
/-- What a text gives. -/
def textR (o : Option (List UInt8)) : V × Int := match o with
  | none => (V.zero, 2)
  | some t => if t.length ≤ 32 then (⟨2, 0, ⟨t.toArray⟩⟩, 0) else (V.zero, 1)
theorem textR_ok {t : List UInt8} (h : t.length ≤ 32) : textR (some t) = (⟨2, 0, ⟨t.toArray⟩⟩, 0) := if_pos h
theorem textR_long {t : List UInt8} (h : ¬ t.length ≤ 32) : textR (some t) = (V.zero, 1) := if_neg h
theorem quote_toList : (⟨#[34]⟩ : ByteArray).data.toList = [34] := rfl

theorem unesc_len : ∀ (n : Nat) (l acc t : List UInt8), l.length ≤ n → unesc acc l = some t → t.length ≤ acc.length + l.length := by
  intro n
  induction n with
  | zero => intro l acc t h hu; have : l = [] := List.eq_nil_of_length_eq_zero (by omega); subst this; simp [unesc] at hu; subst hu; simp
  | succ n ih =>
    intro l acc t h hu
    rcases l with _ | ⟨b, l⟩
    · simp [unesc] at hu; subst hu; simp
    · by_cases h9 : b.toNat = 92
      · obtain rfl := u92 h9
        rcases l with _ | ⟨h1, _ | ⟨h2, r⟩⟩
        · rw [unesc_esc0] at hu; simp at hu
        · rw [unesc_esc1] at hu; simp at hu
        · rw [unesc_esc] at hu
          cases he : esc2 h1 h2 with
          | none => rw [he] at hu; simp at hu
          | some x =>
            rw [he] at hu
            have := ih r _ t (by simp at h; omega) hu
            simp at this ⊢; omega
      · rw [unesc_plain _ _ _ h9] at hu
        split at hu
        · simp at hu
        · have := ih l _ t (by simp at h; omega) hu
          simp at this ⊢; omega
end Go.Proofs.YtenonljnldbkiaaGreatDoor
/- Format of package value, where the table of powers of ten reads as it is laid. -/
namespace Go.Proofs.YtenonljnldbkiaaGreatDoor
open Go.RowKit Go.Proofs.EB
set_option maxHeartbeats 1000000
attribute [local go_sem] World.cell?_alloc_some

theorem var_below {P : Program} {w w' : World} {n : String} {cs : Array Value} (hb : Below w.heap.size w w') (h : w.var? P n = some cs) : w'.var? P n = some cs := by
  unfold World.var? at h ⊢
  cases hg : P.globalNamed n with
  | none => rw [hg] at h; simp at h
  | some g =>
    rw [hg] at h
    simp only [Option.bind_some] at h ⊢
    have hlt : g < w.heap.size := by
      rcases Nat.lt_or_ge g w.heap.size with h1 | h1
      · exact h1
      · rw [Array.getElem?_eq_none h1] at h; simp at h
    rw [hb.block g hlt]
    exact h
/-- The table that FormatInt reads. -/
def Tab (w : World) : Prop := Lib.TabIs Tryz.prog w "internal/strconv.uint64pow10" .u64 Lib.pow10Tab
theorem tab_below {w w' : World} (h : Tab w) (hb : Below w.heap.size w w') : Tab w' := var_below hb h
theorem below_grown {w : World} (k : Nat) (os : Array Obj) : Below w.heap.size w (Go.Sort.grow (w.drewN k) os) :=
  ⟨rfl, rfl, rfl, by simp [Go.Sort.grow, World.drewN], fun i hi => by simp only [Go.Sort.grow, World.drewN, Array.getElem?_append_left hi]⟩
end Go.Proofs.YtenonljnldbkiaaGreatDoor
/- Contracts of isDecimal, parseInt and Parse of package value. -/
namespace Go.Proofs.YtenonljnldbkiaaGreatDoor
open Go.RowKit Go.Proofs.EB Go.Proofs.TX
open Go.Lib (byteCells)
set_option maxHeartbeats 1000000
attribute [local go_sem] World.cell?_alloc_some

theorem strEmpty {s : ByteArray} (h : s.size = 0) : s.toList.isEmpty = true := by
  rw [ByteArray.toList_eq]
  have : s.data.toList.length = 0 := by simpa using h
  rw [List.eq_nil_of_length_eq_zero this]; rfl
theorem strNonempty {s : ByteArray} (h : 0 < s.size) : s.toList.isEmpty = false := by
  rw [ByteArray.toList_eq]
  cases hl : s.data.toList with
  | nil => have : s.data.toList.length = s.size := by simp
           rw [hl] at this; simp at this; omega
  | cons a l => rfl
theorem isDec_nil {s : ByteArray} (h : s.size = 0) : isDec s.data.toList = false := by
  have : s.data.toList.length = 0 := by simpa using h
  rw [List.eq_nil_of_length_eq_zero this]; rfl
theorem isDec_lead {s : ByteArray} (h : 1 < s.size) (h0 : s[0].toNat = 48) : isDec s.data.toList = false := by
  have e := drop_cons (s := s) (k := 0) (by omega)
  have hl : s.data.toList.length = s.size := by simp
  have h48 : s[0] = 48 := UInt8.toNat_inj.1 h0
  rw [List.drop_zero, h48] at e
  unfold isDec
  rw [e] at hl ⊢
  have : decide (1 < (48 :: s.data.toList.drop (0 + 1)).length) = true := by simp at hl ⊢; omega
  rw [this]; simp
theorem isDec_rest {s : ByteArray} (h : 0 < s.size) (h0 : ¬ (1 < s.size ∧ s[0].toNat = 48)) : isDec s.data.toList = s.data.toList.all digB := by
  have e := drop_cons (s := s) (k := 0) (by omega)
  have hl : s.data.toList.length = s.size := by simp
  rw [List.drop_zero] at e
  unfold isDec
  rw [e] at hl ⊢
  have : (decide (1 < (s[0] :: s.data.toList.drop (0 + 1)).length) && (s[0] :: s.data.toList.drop (0 + 1)).head? == some 48) = false := by
    rw [Bool.and_eq_false_iff]
    by_cases h1 : 1 < s.size
    · right
      simp only [List.head?_cons, beq_eq_false_iff_ne, ne_eq, Option.some.injEq]
      intro e48
      exact h0 ⟨h1, by rw [e48]; rfl⟩
    · left; rw [hl]; simpa using h1
  rw [this]; simp
/-- The digits of s up to k. -/
theorem all_take {s : ByteArray} {k : Nat} (h : k < s.size) : (s.data.toList.take (k + 1)).all digB = ((s.data.toList.take k).all digB && digB s[k]) := by
  rw [take_snoc s k h, List.all_append]; simp
theorem all_false_of_take {l : List UInt8} {k : Nat} (h : (l.take k).all digB = false) : l.all digB = false := by
  rw [← List.take_append_drop k l, List.all_append, h]; rfl

/-- The error that ParseInt takes from package strconv. -/
def ErrV (w : World) : Prop := ∃ tp p, w.var? Tryz.prog "strconv.ErrRange" = some #[.iface tp p]
theorem err_below {w w' : World} (h : ErrV w) (hb : Below w.heap.size w w') : ErrV w' := by
  obtain ⟨tp, p, h⟩ := h
  exact ⟨tp, p, var_below hb h⟩
/-- What a number gives. -/
def signD (l : List UInt8) : List UInt8 := Lib.trimPrefix l [45]
def signV (l : List UInt8) : Int := if Lib.hasPrefix l [45] = true then -(valD (signD l) : Int) else (valD (signD l) : Int)
def intR (l : List UInt8) : V × Int :=
  if isDec (signD l) = false ∨ l = [45, 48] then (V.zero, 2)
  else if valD (signD l) ≤ 4294967296 then (⟨1, signV l, ⟨#[]⟩⟩, 0) else (V.zero, 1)
theorem intR_syn {l : List UInt8} (h : isDec (signD l) = false ∨ l = [45, 48]) : intR l = (V.zero, 2) := if_pos h
theorem intR_ok {l : List UInt8} (h : isDec (signD l) = true) (h2 : l ≠ [45, 48]) (h3 : valD (signD l) ≤ 4294967296) : intR l = (⟨1, signV l, ⟨#[]⟩⟩, 0) := by
  unfold intR; rw [if_neg (by simp [h, h2]), if_pos h3]
theorem intR_big {l : List UInt8} (h : isDec (signD l) = true) (h2 : l ≠ [45, 48]) (h3 : ¬ valD (signD l) ≤ 4294967296) : intR l = (V.zero, 1) := by
  unfold intR; rw [if_neg (by simp [h, h2]), if_neg h3]
/-- What the library reads there. -/
theorem parseI_all {l : List UInt8} (h : isDec (signD l) = true) : (∃ v, Lib.parseIntB 64 l = .ok v ∧ v = signV l) ∨ (Lib.parseIntB 64 l = .range ∧ ¬ valD (signD l) ≤ 4294967296) := by
  unfold signV signD at *
  unfold Lib.trimPrefix at *
  by_cases hp : Lib.hasPrefix l [45] = true
  · rw [if_pos hp] at h ⊢
    rw [if_pos hp]
    obtain ⟨r, rfl⟩ : ∃ r, l = 45 :: r := by
      unfold Lib.hasPrefix at hp
      rw [List.isPrefixOf_iff_prefix] at hp
      obtain ⟨r, hr⟩ := hp
      exact ⟨r, hr.symm⟩
    have e : (45 :: r).drop [(45 : UInt8)].length = r := rfl
    rw [e] at h ⊢
    rw [parseI_neg r h]
    by_cases hv : valD r ≤ 9223372036854775808
    · rw [if_pos hv]; exact .inl ⟨_, rfl, rfl⟩
    · rw [if_neg hv]; exact .inr ⟨rfl, by omega⟩
  · rw [if_neg hp] at h ⊢
    rw [if_neg hp, parseI_plain l h]
    by_cases hv : valD l < 9223372036854775808
    · rw [if_pos hv]; exact .inl ⟨_, rfl, rfl⟩
    · rw [if_neg hv]; exact .inr ⟨rfl, by omega⟩
theorem signV_abs (l : List UInt8) : (-4294967296 ≤ signV l ∧ signV l ≤ 4294967296) ↔ valD (signD l) ≤ 4294967296 := by
  unfold signV; split <;> omega
theorem toList_eq_data (s : ByteArray) : s.toList = s.data.toList := ByteArray.toList_eq s
theorem signD_len (l : List UInt8) : (signD l).length ≤ l.length := by
  unfold signD Lib.trimPrefix; split
  · rw [List.length_drop]; omega
  · exact Nat.le_refl _
/-- What Parse gives. -/
def bodyT (l : List UInt8) : Option (List UInt8) := if Lib.hasSuffix (l.drop 1) [34] = true then unesc [] ((l.drop 1).take ((l.drop 1).length - 1)) else none
def parseS (l : List UInt8) : V × Int := if l = [110, 117, 108, 108] then (V.zero, 0) else if Lib.hasPrefix l [34] = true then textR (bodyT l) else intR l
theorem prefix_len {s : ByteArray} (h : Lib.hasPrefix s.data.toList [34] = true) : 1 ≤ s.size := by
  have hsl : s.data.toList.length = s.size := by simp
  unfold Lib.hasPrefix at h
  rw [List.isPrefixOf_iff_prefix] at h
  have := h.length_le
  simp at this; omega
end Go.Proofs.YtenonljnldbkiaaGreatDoor
/- Contracts of IsName of package lexer and of its reference. -/
namespace Go.Proofs.YtenonljnldbkiaaGreatDoor
open Go.RowKit Go.Proofs.EB Go.Proofs.TX
set_option maxHeartbeats 1000000
attribute [local go_sem] World.cell?_alloc_some

theorem isLetter_any (c : UInt8) (w : World) : Calls Tryz.prog 167 #[.int .u8 (c.toNat : Int)] w fun e w' => e = .returned (.bool (letB c)) ∧ w' = w := by
  have hc := c.toNat_lt
  rcases (show (letB c = false ∧ decide ((97 : Int) ≤ (c.toNat : Int)) = false) ∨ (letB c = false ∧ decide ((97 : Int) ≤ (c.toNat : Int)) = true ∧ decide ((c.toNat : Int) ≤ 122) = false) ∨ (letB c = true ∧ decide ((97 : Int) ≤ (c.toNat : Int)) = true ∧ decide ((c.toNat : Int) ≤ 122) = true) by
    simp only [letB, Bool.and_eq_true, Bool.and_eq_false_iff, decide_eq_true_eq, decide_eq_false_iff_not]; omega) with ⟨hR, z1⟩ | ⟨hR, z1, z2⟩ | ⟨hR, z1, z2⟩
  all_goals
    rw [hR]
    clear hR
    go_enter Tryz.func167, Tryz.ntmps167
    go_wp2_with fail
    go_ret
    exact ⟨rfl, rfl⟩
theorem isDigit_any (c : UInt8) (w : World) : Calls Tryz.prog 180 #[.int .u8 (c.toNat : Int)] w fun e w' => e = .returned (.bool (digB c)) ∧ w' = w := by
  have hc := c.toNat_lt
  rcases (show (digB c = false ∧ decide ((48 : Int) ≤ (c.toNat : Int)) = false) ∨ (digB c = false ∧ decide ((48 : Int) ≤ (c.toNat : Int)) = true ∧ decide ((c.toNat : Int) ≤ 57) = false) ∨ (digB c = true ∧ decide ((48 : Int) ≤ (c.toNat : Int)) = true ∧ decide ((c.toNat : Int) ≤ 57) = true) by
    simp only [digB, Bool.and_eq_true, Bool.and_eq_false_iff, decide_eq_true_eq, decide_eq_false_iff_not]; omega) with ⟨hR, z1⟩ | ⟨hR, z1, z2⟩ | ⟨hR, z1, z2⟩
  all_goals
    rw [hR]
    clear hR
    go_enter Tryz.func180, Tryz.ntmps180
    go_wp2_with fail
    go_ret
    exact ⟨rfl, rfl⟩
theorem rletter_any (c : UInt8) (w : World) : Calls Tryz.prog 96 #[.int .u8 (c.toNat : Int)] w fun e w' => e = .returned (.bool (letB c)) ∧ w' = w := by
  have hc := c.toNat_lt
  rcases (show (letB c = false ∧ decide ((97 : Int) ≤ (c.toNat : Int)) = false) ∨ (letB c = false ∧ decide ((97 : Int) ≤ (c.toNat : Int)) = true ∧ decide ((c.toNat : Int) ≤ 122) = false) ∨ (letB c = true ∧ decide ((97 : Int) ≤ (c.toNat : Int)) = true ∧ decide ((c.toNat : Int) ≤ 122) = true) by
    simp only [letB, Bool.and_eq_true, Bool.and_eq_false_iff, decide_eq_true_eq, decide_eq_false_iff_not]; omega) with ⟨hR, z1⟩ | ⟨hR, z1, z2⟩ | ⟨hR, z1, z2⟩
  all_goals
    rw [hR]
    clear hR
    go_enter Tryz.func96, Tryz.ntmps96
    go_wp2_with fail
    go_ret
    exact ⟨rfl, rfl⟩
theorem rdecimal_any (c : UInt8) (w : World) : Calls Tryz.prog 141 #[.int .u8 (c.toNat : Int)] w fun e w' => e = .returned (.bool (digB c)) ∧ w' = w := by
  have hc := c.toNat_lt
  rcases (show (digB c = false ∧ decide ((48 : Int) ≤ (c.toNat : Int)) = false) ∨ (digB c = false ∧ decide ((48 : Int) ≤ (c.toNat : Int)) = true ∧ decide ((c.toNat : Int) ≤ 57) = false) ∨ (digB c = true ∧ decide ((48 : Int) ≤ (c.toNat : Int)) = true ∧ decide ((c.toNat : Int) ≤ 57) = true) by
    simp only [digB, Bool.and_eq_true, Bool.and_eq_false_iff, decide_eq_true_eq, decide_eq_false_iff_not]; omega) with ⟨hR, z1⟩ | ⟨hR, z1, z2⟩ | ⟨hR, z1, z2⟩
  all_goals
    rw [hR]
    clear hR
    go_enter Tryz.func141, Tryz.ntmps141
    go_wp2_with fail
    go_ret
    exact ⟨rfl, rfl⟩
theorem isInName_any (c : UInt8) (w : World) : Calls Tryz.prog 169 #[.int .u8 (c.toNat : Int)] w fun e w' => e = .returned (.bool (nameC c)) ∧ w' = w := by
  have hc := c.toNat_lt
  have hL := isLetter_any c w
  have hD := isDigit_any c w
  have hR : nameC c = (letB c || digB c || decide (c.toNat = 95)) := rfl
  have h95 : ((c.toNat : Int) == 95) = decide (c.toNat = 95) := by rw [Bool.eq_iff_iff]; simp; omega
  rw [hR]
  clear hR
  generalize decide (c.toNat = 95) = u at *
  cases hl : letB c <;> cases hd : digB c
  all_goals
    rw [hl] at hL
    rw [hd] at hD
    have HL := Lib.hid hL
    have HD := Lib.hid hD
    have z := h95
    clear hL hD hl hd h95
    cases u
  all_goals
    go_enter Tryz.func169, Tryz.ntmps169
    go_wp2_with fail
    refine HL.out.mono ?_
    rintro e w' ⟨rfl, rfl⟩
    go_wp2_with (refine HD.out.mono ?_; rintro e w' ⟨rfl, rfl⟩)
    go_ret
    exact ⟨rfl, rfl⟩
theorem rinName_any (c : UInt8) (w : World) : Calls Tryz.prog 97 #[.int .u8 (c.toNat : Int)] w fun e w' => e = .returned (.bool (nameC c)) ∧ w' = w := by
  have hc := c.toNat_lt
  have hL := rletter_any c w
  have hD := rdecimal_any c w
  have hR : nameC c = (letB c || digB c || decide (c.toNat = 95)) := rfl
  have h95 : ((c.toNat : Int) == 95) = decide (c.toNat = 95) := by rw [Bool.eq_iff_iff]; simp; omega
  rw [hR]
  clear hR
  generalize decide (c.toNat = 95) = u at *
  cases hl : letB c <;> cases hd : digB c
  all_goals
    rw [hl] at hL
    rw [hd] at hD
    have HL := Lib.hid hL
    have HD := Lib.hid hD
    have z := h95
    clear hL hD hl hd h95
    cases u
  all_goals
    go_enter Tryz.func97, Tryz.ntmps97
    go_wp2_with fail
    refine HL.out.mono ?_
    rintro e w' ⟨rfl, rfl⟩
    go_wp2_with (refine HD.out.mono ?_; rintro e w' ⟨rfl, rfl⟩)
    go_ret
    exact ⟨rfl, rfl⟩
theorem runName_any (s : ByteArray) (w : World) (hs : s.size ≤ 1000000) :
    Calls Tryz.prog 168 #[.string s, .func (.func 169) #[] #[]] w fun e w' => e = .returned (.int .i64 (runC nameC s.data.toList : Nat)) ∧ w' = w := by
  obtain ⟨R, hR⟩ : ∃ R : Nat, R = runC nameC s.data.toList := ⟨_, rfl⟩
  rw [← hR]
  have HR := Lib.hid hR
  clear hR
  go_enter Tryz.func168, Tryz.ntmps168
  go_wp2_with fail
  go_loop [5] (fun i => ∃ k : Nat, k ≤ s.size ∧ i = .int .i64 k ∧ Hid (R = k + runC nameC (s.data.toList.drop k))) (fun i => s.size - (intOf i).toNat)
  case atStart => exact ⟨0, Nat.zero_le _, rfl, by unfold Hid; rw [HR.out]; simp⟩
  case round =>
    obtain ⟨k, hk, rfl, hU⟩ := hrel
    by_cases hlt : k < s.size
    · have hst := drop_cons hlt
      have hP := isInName_any s[k] w
      cases hpk : nameC s[k]
      · have hfin : Hid (R = k) := by unfold Hid; rw [hU.out, hst, runC, if_neg (by rw [hpk]; decide)]; rfl
        rw [hpk] at hP
        have HP := Lib.hid hP
        clear hpk hst hP
        go_wp2_with fail
        refine HP.out.mono ?_
        rintro e w' ⟨rfl, rfl⟩
        go_wp2_with fail
        go_ret
        exact ⟨by rw [hfin.out]; rfl, rfl⟩
      · have hnx : Hid (R = k + 1 + runC nameC (s.data.toList.drop (k + 1))) := by unfold Hid; rw [hU.out, hst, runC, if_pos hpk]; omega
        rw [hpk] at hP
        have HP := Lib.hid hP
        clear hpk hst hP
        go_wp2_with fail
        refine HP.out.mono ?_
        rintro e w' ⟨rfl, rfl⟩
        go_wp2_with fail
        go_round
        case rel => exact ⟨k + 1, by omega, by go_num, hnx⟩
        case measure => simp [intOf]; omega
    · have hfin : Hid (R = k) := by unfold Hid; rw [hU.out, drop_all (by omega)]; rfl
      go_wp2_with fail
      go_ret
      exact ⟨by rw [hfin.out]; rfl, rfl⟩
theorem runDig_any (s : ByteArray) (w : World) (hs : s.size ≤ 1000000) :
    Calls Tryz.prog 168 #[.string s, .func (.func 180) #[] #[]] w fun e w' => e = .returned (.int .i64 (runC digB s.data.toList : Nat)) ∧ w' = w := by
  obtain ⟨R, hR⟩ : ∃ R : Nat, R = runC digB s.data.toList := ⟨_, rfl⟩
  rw [← hR]
  have HR := Lib.hid hR
  clear hR
  go_enter Tryz.func168, Tryz.ntmps168
  go_wp2_with fail
  go_loop [5] (fun i => ∃ k : Nat, k ≤ s.size ∧ i = .int .i64 k ∧ Hid (R = k + runC digB (s.data.toList.drop k))) (fun i => s.size - (intOf i).toNat)
  case atStart => exact ⟨0, Nat.zero_le _, rfl, by unfold Hid; rw [HR.out]; simp⟩
  case round =>
    obtain ⟨k, hk, rfl, hU⟩ := hrel
    by_cases hlt : k < s.size
    · have hst := drop_cons hlt
      have hP := isDigit_any s[k] w
      cases hpk : digB s[k]
      · have hfin : Hid (R = k) := by unfold Hid; rw [hU.out, hst, runC, if_neg (by rw [hpk]; decide)]; rfl
        rw [hpk] at hP
        have HP := Lib.hid hP
        clear hpk hst hP
        go_wp2_with fail
        refine HP.out.mono ?_
        rintro e w' ⟨rfl, rfl⟩
        go_wp2_with fail
        go_ret
        exact ⟨by rw [hfin.out]; rfl, rfl⟩
      · have hnx : Hid (R = k + 1 + runC digB (s.data.toList.drop (k + 1))) := by unfold Hid; rw [hU.out, hst, runC, if_pos hpk]; omega
        rw [hpk] at hP
        have HP := Lib.hid hP
        clear hpk hst hP
        go_wp2_with fail
        refine HP.out.mono ?_
        rintro e w' ⟨rfl, rfl⟩
        go_wp2_with fail
        go_round
        case rel => exact ⟨k + 1, by omega, by go_num, hnx⟩
        case measure => simp [intOf]; omega
    · have hfin : Hid (R = k) := by unfold Hid; rw [hU.out, drop_all (by omega)]; rfl
      go_wp2_with fail
      go_ret
      exact ⟨by rw [hfin.out]; rfl, rfl⟩
end Go.Proofs.YtenonljnldbkiaaGreatDoor
/- Contracts of IsName of package lexer and of its reference. -/
namespace Go.Proofs.YtenonljnldbkiaaGreatDoor
open Go.RowKit Go.Proofs.EB Go.Proofs.TX
set_option maxHeartbeats 1000000
attribute [local go_sem] World.cell?_alloc_some

theorem nameB_nil {s : ByteArray} (h : s.size = 0) : nameB s.data.toList = false := by
  rw [List.eq_nil_of_length_eq_zero (by simpa using h : s.data.toList.length = 0)]; rfl
theorem nameB_eq {s : ByteArray} (h : 0 < s.size) : nameB s.data.toList = (decide (s.size ≤ 16) && letB s[0] && s.data.toList.all nameC) := by
  have hl := drop_cons (s := s) (k := 0) h
  rw [List.drop_zero] at hl
  have hlen : s.data.toList.length = s.size := by simp
  rw [hl] at hlen ⊢
  have e : decide ((s.data.toList.drop (0 + 1)).length < 16) = decide (s.size ≤ 16) := by
    rw [← hlen, decide_eq_decide, List.length_cons]; omega
  show (decide ((s.data.toList.drop (0 + 1)).length < 16) && letB s[0] && _) = _
  rw [e]
theorem isName_any (s : ByteArray) (w : World) (hs : s.size ≤ 1000000) :
    Calls Tryz.prog 148 #[.string s] w fun e w' => e = .returned (.bool (nameB s.data.toList)) ∧ w' = w := by
  by_cases h0 : s.size = 0
  · have z1 := strEmpty h0
    rw [nameB_nil h0]
    clear h0
    go_enter Tryz.func148, Tryz.ntmps148
    go_wp2_with fail
    go_ret
    exact ⟨rfl, rfl⟩
  · have hpos : 0 < s.size := by omega
    have z1 := strNonempty hpos
    rw [nameB_eq hpos]
    by_cases h16 : s.size ≤ 16
    · have z2 : decide ((s.size : Int) ≤ 16) = true := by rw [decide_eq_true_eq]; omega
      have z16 : decide (s.size ≤ 16) = true := by rw [decide_eq_true_eq]; exact h16
      rw [z16, Bool.true_and]
      have hL := isLetter_any s[0] w
      cases h1 : letB s[0]
      · rw [h1] at hL
        rw [Bool.false_and]
        have HL := Lib.hid hL
        clear hL h1 z16 h0
        go_enter Tryz.func148, Tryz.ntmps148
        go_wp2_with fail
        refine HL.out.mono ?_
        rintro e w' ⟨rfl, rfl⟩
        go_wp2_with fail
        go_ret
        exact ⟨rfl, rfl⟩
      · rw [h1] at hL
        rw [Bool.true_and]
        have HL := Lib.hid hL
        have hR := fun w => runName_any s w hs
        have hall := runC_all nameC s.data.toList
        have hsl : s.data.toList.length = s.size := by simp
        rw [hsl] at hall
        generalize runC nameC s.data.toList = n at *
        have HR := Lib.hid hR
        cases ha : s.data.toList.all nameC
        · rw [ha] at hall
          have y : ((n : Int) == (s.size : Int)) = false := by
            rw [beq_eq_false_iff_ne]; intro e
            have := hall.1 (by omega)
            simp at this
          clear hL h1 z16 h0 ha hall hsl hR
          go_enter Tryz.func148, Tryz.ntmps148
          go_wp2_with fail
          refine HL.out.mono ?_
          rintro e w' ⟨rfl, rfl⟩
          go_wp2_with fail
          refine (HR.out _).mono ?_
          rintro e w' ⟨rfl, rfl⟩
          go_wp2_with fail
          go_ret
          exact ⟨rfl, rfl⟩
        · rw [ha] at hall
          have hn := hall.2 rfl
          have y : ((n : Int) == (s.size : Int)) = true := by rw [beq_iff_eq]; omega
          clear hL h1 z16 h0 ha hall hsl hR hn
          go_enter Tryz.func148, Tryz.ntmps148
          go_wp2_with fail
          refine HL.out.mono ?_
          rintro e w' ⟨rfl, rfl⟩
          go_wp2_with fail
          refine (HR.out _).mono ?_
          rintro e w' ⟨rfl, rfl⟩
          go_wp2_with fail
          go_ret
          exact ⟨rfl, rfl⟩
    · have z2 : decide ((s.size : Int) ≤ 16) = false := by rw [decide_eq_false_iff_not]; omega
      have z16 : decide (s.size ≤ 16) = false := by rw [decide_eq_false_iff_not]; exact h16
      rw [z16, Bool.false_and, Bool.false_and]
      clear z16 h16 h0
      go_enter Tryz.func148, Tryz.ntmps148
      go_wp2_with fail
      go_ret
      exact ⟨rfl, rfl⟩
theorem rname_loop (s : ByteArray) (w : World) (hs : s.size ≤ 1000000) (hpos : 0 < s.size) (h16 : s.size ≤ 16) (h1 : letB s[0] = true) :
    Calls Tryz.prog 58 #[.string s] w fun e w' => e = .returned (.bool (s.data.toList.all nameC)) ∧ w' = w := by
  obtain ⟨R, hR⟩ : ∃ R : Nat, R = runC nameC s.data.toList := ⟨_, rfl⟩
  have hall := runC_all nameC s.data.toList
  have hsl : s.data.toList.length = s.size := by simp
  rw [hsl, ← hR] at hall
  have HR := Lib.hid hR
  obtain ⟨r, hr⟩ : ∃ r, r = s.data.toList.all nameC := ⟨_, rfl⟩
  rw [← hr] at hall ⊢
  have Hall := Lib.hid hall
  have hL := rletter_any s[0] w
  rw [h1] at hL
  have HL := Lib.hid hL
  have z0 : ((s.size : Int) == 0) = false := by rw [beq_eq_false_iff_ne]; omega
  have z2 : decide ((16 : Int) < (s.size : Int)) = false := by rw [decide_eq_false_iff_not]; omega
  clear hall hR hL h1 hr hsl
  go_enter Tryz.func58, Tryz.ntmps58
  go_wp2_with fail
  refine HL.out.mono ?_
  rintro e w' ⟨rfl, rfl⟩
  go_wp2_with fail
  clear z2
  go_loop [3] (fun i => ∃ k : Nat, k ≤ s.size ∧ i = .int .i64 k ∧ Hid (R = k + runC nameC (s.data.toList.drop k))) (fun i => s.size - (intOf i).toNat)
  case atStart => exact ⟨0, Nat.zero_le _, rfl, by unfold Hid; rw [HR.out]; simp⟩
  case round =>
    obtain ⟨k, hk, rfl, hU⟩ := hrel
    by_cases hlt : k < s.size
    · have hst := drop_cons hlt
      have hP := rinName_any s[k] w'
      cases hpk : nameC s[k]
      · have hfin : R = k := by rw [hU.out, hst, runC, if_neg (by rw [hpk]; decide)]; rfl
        have hr : Hid (r = false) := by
          unfold Hid
          cases hrr : r
          · rfl
          · have := Hall.out.2 hrr; omega
        rw [hpk] at hP
        have HP := Lib.hid hP
        clear hpk hst hP hfin
        go_wp2_with fail
        refine HP.out.mono ?_
        rintro e w' ⟨rfl, rfl⟩
        go_wp2_with fail
        go_ret
        exact ⟨by rw [hr.out]; rfl, rfl⟩
      · have hnx : Hid (R = k + 1 + runC nameC (s.data.toList.drop (k + 1))) := by unfold Hid; rw [hU.out, hst, runC, if_pos hpk]; omega
        rw [hpk] at hP
        have HP := Lib.hid hP
        clear hpk hst hP
        go_wp2_with fail
        refine HP.out.mono ?_
        rintro e w' ⟨rfl, rfl⟩
        go_wp2_with fail
        go_round
        case rel => exact ⟨k + 1, by omega, by go_num, hnx⟩
        case measure => simp [intOf]; omega
    · have hfin : R = k := by rw [hU.out, drop_all (by omega)]; rfl
      have hr : Hid (r = true) := Hall.out.1 (by omega)
      clear hfin
      go_wp2_with fail
      go_ret
      exact ⟨by rw [hr.out]; rfl, rfl⟩
theorem risName_any (s : ByteArray) (w : World) (hs : s.size ≤ 1000000) :
    Calls Tryz.prog 58 #[.string s] w fun e w' => e = .returned (.bool (nameB s.data.toList)) ∧ w' = w := by
  by_cases h0 : s.size = 0
  · have z1 : ((s.size : Int) == 0) = true := by simp [h0]
    rw [nameB_nil h0]
    clear h0
    go_enter Tryz.func58, Tryz.ntmps58
    go_wp2_with fail
    go_ret
    exact ⟨rfl, rfl⟩
  · have hpos : 0 < s.size := by omega
    have z0 : ((s.size : Int) == 0) = false := by rw [beq_eq_false_iff_ne]; omega
    rw [nameB_eq hpos]
    by_cases h16 : s.size ≤ 16
    · have z2 : decide ((16 : Int) < (s.size : Int)) = false := by rw [decide_eq_false_iff_not]; omega
      have z16 : decide (s.size ≤ 16) = true := by rw [decide_eq_true_eq]; exact h16
      rw [z16, Bool.true_and]
      cases h1 : letB s[0]
      · have hL := rletter_any s[0] w
        rw [h1] at hL
        rw [Bool.false_and]
        have HL := Lib.hid hL
        clear hL h1 z16 h0 h16
        go_enter Tryz.func58, Tryz.ntmps58
        go_wp2_with fail
        refine HL.out.mono ?_
        rintro e w' ⟨rfl, rfl⟩
        go_wp2_with fail
        go_ret
        exact ⟨rfl, rfl⟩
      · rw [Bool.true_and]
        exact rname_loop s w hs hpos h16 h1
    · have z2 : decide ((16 : Int) < (s.size : Int)) = true := by rw [decide_eq_true_eq]; omega
      have z16 : decide (s.size ≤ 16) = false := by rw [decide_eq_false_iff_not]; exact h16
      rw [z16, Bool.false_and, Bool.false_and]
      clear z16 h16 h0
      go_enter Tryz.func58, Tryz.ntmps58
      go_wp2_with fail
      go_ret
      exact ⟨rfl, rfl⟩
end Go.Proofs.YtenonljnldbkiaaGreatDoor
/- Small functions of package catalogue: ranges, names, lists of names and of numbers. -/
namespace Go.Proofs.YtenonljnldbkiaaGreatDoor
open Go.RowKit Go.Proofs.EB Go.Proofs.TX
set_option maxHeartbeats 4000000
set_option maxRecDepth 100000
attribute [local go_sem] World.cell?_alloc_some

theorem ret_i {a b : Int} (h : a = b) : Ending.returned (.int .i64 a) = .returned (.int .i64 b) := by rw [h]
theorem nmB_long {s : ByteArray} (h : 16 < s.size) : nmB s = false := by
  unfold nmB
  rw [nameB_eq (by omega), show decide (s.size ≤ 16) = false by rw [decide_eq_false_iff_not]; omega]; rfl
theorem isNameA_any (s : ByteArray) (w : World) (hs : s.size ≤ maxLen) :
    Calls Tryz.prog 148 #[.string s] w fun e w' => e = .returned (.bool (nmB s)) ∧ w = w' := by
  by_cases h : s.size ≤ 1000000
  · exact (isName_any s w h).mono fun e w' ⟨h1, h2⟩ => ⟨h1, h2.symm⟩
  · unfold maxLen at hs
    rw [nmB_long (by omega)]
    have z1 := strNonempty (s := s) (by omega)
    have z2 : decide ((s.size : Int) ≤ 16) = false := by rw [decide_eq_false_iff_not]; omega
    go_enter Tryz.func148, Tryz.ntmps148
    go_wp2_with fail
    go_ret
    exact ⟨rfl, rfl⟩
theorem risNameA_any (s : ByteArray) (w : World) (hs : s.size ≤ maxLen) :
    Calls Tryz.prog 58 #[.string s] w fun e w' => e = .returned (.bool (nmB s)) ∧ w = w' := by
  by_cases h : s.size ≤ 1000000
  · exact (risName_any s w h).mono fun e w' ⟨h1, h2⟩ => ⟨h1, h2.symm⟩
  · unfold maxLen at hs
    rw [nmB_long (by omega)]
    have z0 : ((s.size : Int) == 0) = false := by rw [beq_eq_false_iff_ne]; omega
    have z2 : decide ((16 : Int) < (s.size : Int)) = true := by rw [decide_eq_true_eq]; omega
    go_enter Tryz.func58, Tryz.ntmps58
    go_wp2_with fail
    go_ret
    exact ⟨rfl, rfl⟩
theorem isWithin_any (n a b : Int) (w : World) :
    Calls Tryz.prog 126 #[.int .i64 n, .int .i64 a, .int .i64 b] w fun e w' => e = .returned (.bool (inB n a b)) ∧ w = w' := by
  unfold inB
  cases z1 : decide (a ≤ n) <;> cases z2 : decide (n ≤ b)
  all_goals
    go_enter Tryz.func126, Tryz.ntmps126
    go_wp2_with fail
    go_ret
    exact ⟨rfl, rfl⟩
theorem rwithin_any (n a b : Int) (w : World) :
    Calls Tryz.prog 98 #[.int .i64 n, .int .i64 a, .int .i64 b] w fun e w' => e = .returned (.bool (inB n a b)) ∧ w = w' := by
  unfold inB
  cases z1 : decide (a ≤ n) <;> cases z2 : decide (n ≤ b)
  all_goals
    go_enter Tryz.func98, Tryz.ntmps98
    go_wp2_with fail
    go_ret
    exact ⟨rfl, rfl⟩
theorem idxS_any (x : ByteArray) (ao : Option Addr) (cap : Nat) (l : List ByteArray) (hl : l.length ≤ maxLen) (w : World) (hR : RAt encStr' 1 w w.heap.size ao l) :
    Calls Tryz.prog 91 #[.slice ao l.length cap, .string x] w fun e w' => e = .returned (.int .i64 (idx x l)) ∧ w = w' := by
  unfold maxLen at hl
  have HR := Lib.hid hR
  clear hR
  go_enter Tryz.func91, Tryz.ntmps91
  go_wp2_with fail
  go_loop [8] (fun i => ∃ k : Nat, k ≤ l.length ∧ i = .int .i64 k ∧ Hid (∀ j (h : j < l.length), j < k → seq l[j] x = false)) (fun i => l.length - (intOf i).toNat)
  case atStart => exact ⟨0, Nat.zero_le _, rfl, fun j _ h => absurd h (by omega)⟩
  case round =>
    obtain ⟨k, hk, rfl, hX⟩ := hrel
    by_cases hlt : k < l.length
    · obtain ⟨b, off, rfl, _⟩ := HR.out.form (by omega)
      have c0 := RAt.str' HR.out hlt
      have Hj := Lib.hid (show ∀ j (h : j < l.length), j = k → l[j] = l[k] from fun j h e => by subst e; rfl)
      have hS := Lib.hid (show seq l[k] x = true → idx x l = k from fun h => idx_eq hlt h hX.out)
      generalize l[k] = s at *
      cases hv : seq s x
      · have z1 : (x.toList == s.toList) = false := by
          have := hv; unfold seq at this; rw [beq_eq_false_iff_ne] at this ⊢; exact fun e => this e.symm
        have Hv := Lib.hid hv
        clear hv
        go_wp2_with fail
        go_round
        case rel =>
          refine ⟨k + 1, by omega, by go_num, fun j hj hjk => ?_⟩
          by_cases hje : j < k
          · exact hX.out j hj hje
          · rw [Hj.out j hj (by omega)]; exact Hv.out
        case measure => simp [intOf]; omega
      · have z1 : (x.toList == s.toList) = true := by
          have := hv; unfold seq at this; rw [beq_iff_eq] at this ⊢; exact this.symm
        have Hs := Lib.hid (hS.out hv)
        clear hv hS
        go_wp2_with fail
        go_ret
        exact ⟨ret_i Hs.out.symm, rfl⟩
    · have Hn := Lib.hid (show idx x l = -1 from idx_none fun y hy => by
        obtain ⟨j, hj, rfl⟩ := List.mem_iff_getElem.1 hy
        exact hX.out j hj (by omega))
      go_wp2_with fail
      go_ret
      exact ⟨ret_i Hn.out.symm, rfl⟩
theorem idx_has {x : ByteArray} {l : List ByteArray} : decide (0 ≤ idx x l) = anyB x l := by
  unfold anyB
  rcases idx_cases x l with ⟨e, hn⟩ | ⟨k, hk, e, h1, _⟩
  · rw [e, List.any_eq_false.2 (fun y hy => by rw [hn y hy]; simp)]; rfl
  · rw [e, List.any_eq_true.2 ⟨_, List.getElem_mem hk, h1⟩, decide_eq_true_eq]; omega
theorem anyS_any (x : ByteArray) (ao : Option Addr) (cap : Nat) (l : List ByteArray) (hl : l.length ≤ maxLen) (w : World) (hR : RAt encStr' 1 w w.heap.size ao l) :
    Calls Tryz.prog 129 #[.slice ao l.length cap, .string x] w fun e w' => e = .returned (.bool (anyB x l)) ∧ w = w' := by
  have HI := Lib.hid (idxS_any x ao cap l hl w hR)
  clear hR
  go_enter Tryz.func129, Tryz.ntmps129
  go_wp2_with fail
  refine HI.out.mono ?_
  rintro e w1 ⟨rfl, rfl⟩
  go_wp2_with fail
  go_ret
  exact ⟨ret_b idx_has, rfl⟩
theorem checkName_any (x : ByteArray) (hx : x.size ≤ maxLen) (ao : Option Addr) (cap : Nat) (l : List ByteArray) (hl : l.length ≤ maxLen) (w : World) (hR : RAt encStr' 1 w w.heap.size ao l) :
    Calls Tryz.prog 147 #[.string x, .slice ao l.length cap] w fun e w' => e = .returned (.int .i64 (nameE x l)) ∧ w = w' := by
  have HA := Lib.hid (anyS_any x ao cap l hl w hR)
  have HN := Lib.hid (isNameA_any x w hx)
  have hE : Hid (nameE x l = if nmB x = false then 3 else if anyB x l = true then 4 else 0) := rfl
  clear hR
  generalize nameE x l = r at *
  cases h1 : nmB x
  · rw [h1] at HN
    have hr : Hid (r = 3) := by unfold Hid; rw [hE.out, h1]; simp
    go_enter Tryz.func147, Tryz.ntmps147
    go_wp2_with fail
    refine HN.out.mono ?_
    rintro e w1 ⟨rfl, rfl⟩
    go_wp2_with fail
    go_ret
    exact ⟨ret_i hr.out.symm, rfl⟩
  · rw [h1] at HN
    cases h2 : anyB x l
    · have hr : Hid (r = 0) := by unfold Hid; rw [hE.out, h1, h2]; simp
      rw [h2] at HA
      go_enter Tryz.func147, Tryz.ntmps147
      go_wp2_with fail
      refine HN.out.mono ?_
      rintro e w1 ⟨rfl, rfl⟩
      go_wp2_with fail
      refine HA.out.mono ?_
      rintro e w1 ⟨rfl, rfl⟩
      go_wp2_with fail
      go_ret
      exact ⟨ret_i hr.out.symm, rfl⟩
    · have hr : Hid (r = 4) := by unfold Hid; rw [hE.out, h1, h2]; simp
      rw [h2] at HA
      go_enter Tryz.func147, Tryz.ntmps147
      go_wp2_with fail
      refine HN.out.mono ?_
      rintro e w1 ⟨rfl, rfl⟩
      go_wp2_with fail
      refine HA.out.mono ?_
      rintro e w1 ⟨rfl, rfl⟩
      go_wp2_with fail
      go_ret
      exact ⟨ret_i hr.out.symm, rfl⟩
/-- The first place of a number, or -1. -/
def idxI (x : Int) : List Int → Int
  | [] => -1
  | y :: l => if y = x then 0 else if idxI x l < 0 then -1 else idxI x l + 1
theorem idxI_has (x : Int) (l : List Int) : (-1 ≤ idxI x l) ∧ decide (0 ≤ idxI x l) = l.contains x := by
  induction l with
  | nil => simp [idxI]
  | cons y l ih =>
    unfold idxI
    by_cases h : y = x
    · rw [if_pos h]; simp [h]
    · rw [if_neg h]
      have hx : (x == y) = false := by rw [beq_eq_false_iff_ne]; exact fun e => h e.symm
      rw [List.contains_cons, hx, Bool.false_or]
      by_cases h2 : idxI x l < 0
      · rw [if_pos h2, ← ih.2]
        refine ⟨by omega, ?_⟩
        rw [show decide (0 ≤ idxI x l) = false by rw [decide_eq_false_iff_not]; omega]; rfl
      · rw [if_neg h2, ← ih.2]
        refine ⟨by omega, ?_⟩
        rw [decide_eq_decide]; omega
/-- A number among numbers: a place from 0 exactly if it is there. -/
def PlaceI (x : Int) (l : List Int) (w : World) (e : Ending) (w' : World) : Prop := ∃ z : Int, e = .returned (.int .i64 z) ∧ Hid (decide (0 ≤ z) = l.contains x) ∧ w = w'
theorem idxI_any (x : Int) (ao : Option Addr) (cap : Nat) (l : List Int) (hl : l.length ≤ maxLen) (w : World) (hR : RAt encInt 1 w w.heap.size ao l) :
    Calls Tryz.prog 94 #[.slice ao l.length cap, .int .i64 x] w (PlaceI x l w) := by
  unfold maxLen at hl
  have HR := Lib.hid hR
  clear hR
  go_enter Tryz.func94, Tryz.ntmps94
  go_wp2_with fail
  go_loop [8] (fun i => ∃ k : Nat, k ≤ l.length ∧ i = .int .i64 k ∧ Hid (∀ j (h : j < l.length), j < k → l[j] ≠ x)) (fun i => l.length - (intOf i).toNat)
  case atStart => exact ⟨0, Nat.zero_le _, rfl, fun j _ h => absurd h (by omega)⟩
  case round =>
    obtain ⟨k, hk, rfl, hX⟩ := hrel
    by_cases hlt : k < l.length
    · obtain ⟨b, off, rfl, _⟩ := HR.out.form (by omega)
      have c0 := RAt.int HR.out hlt
      have Hj := Lib.hid (show ∀ j (h : j < l.length), j = k → l[j] = l[k] from fun j h e => by subst e; rfl)
      have hM := Lib.hid (List.getElem_mem hlt)
      generalize l[k] = s at *
      by_cases hv : x = s
      · subst hv
        have z1 : (x == x) = true := by simp
        have hc : Hid (decide ((0 : Int) ≤ (k : Int)) = l.contains x) := by
          unfold Hid
          rw [show l.contains x = true by simpa using hM.out, decide_eq_true_eq]; omega
        go_wp2_with fail
        go_ret
        exact ⟨_, rfl, hc, rfl⟩
      · have z1 : (x == s) = false := by rw [beq_eq_false_iff_ne]; exact hv
        have Hv := Lib.hid hv
        clear hv
        go_wp2_with fail
        go_round
        case rel =>
          refine ⟨k + 1, by omega, by go_num, fun j hj hjk => ?_⟩
          by_cases hje : j < k
          · exact hX.out j hj hje
          · rw [Hj.out j hj (by omega)]; exact fun e => Hv.out e.symm
        case measure => simp [intOf]; omega
    · have hc : Hid (decide ((0 : Int) ≤ -1) = l.contains x) := by
        unfold Hid
        rw [show l.contains x = false by
          rw [Bool.eq_false_iff]; intro h
          obtain ⟨j, hj, e⟩ := List.mem_iff_getElem.1 (List.contains_iff_mem.1 h)
          exact hX.out j hj (by omega) e]; rfl
      go_wp2_with fail
      go_ret
      exact ⟨_, rfl, hc, rfl⟩
theorem hasI_any (x : Int) (ao : Option Addr) (cap : Nat) (l : List Int) (hl : l.length ≤ maxLen) (w : World) (hR : RAt encInt 1 w w.heap.size ao l) :
    Calls Tryz.prog 53 #[.slice ao l.length cap, .int .i64 x] w fun e w' => e = .returned (.bool (l.contains x)) ∧ w = w' := by
  have HI := Lib.hid (idxI_any x ao cap l hl w hR)
  clear hR
  go_enter Tryz.func53, Tryz.ntmps53
  go_wp2_with fail
  refine HI.out.mono ?_
  rintro e w1 ⟨z, rfl, hz, rfl⟩
  go_wp2_with fail
  go_ret
  exact ⟨ret_b hz.out, rfl⟩
end Go.Proofs.YtenonljnldbkiaaGreatDoor
