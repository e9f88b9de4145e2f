/- Plain functions of bytes: what a text form reads as (no program in this text). -/
import Derived.Lib.ParseIntB
import Derived.Lib.ItoaMem
import Derived.Lib.Bytealg
import Derived.Lib.IndexLaws
namespace Go.Proofs.TX
open Go.Lib

def needN (b : Nat) : Bool := decide (b = 34 ∨ b = 92 ∨ b < 32 ∨ 126 < b)
def hexV (c : UInt8) : Option Nat := if 48 ≤ c.toNat ∧ c.toNat ≤ 57 then some (c.toNat - 48) else if 97 ≤ c.toNat ∧ c.toNat ≤ 102 then some (c.toNat - 87) else none
theorem hexV_lt {c : UInt8} {a : Nat} (h : hexV c = some a) : a < 16 := by
  unfold hexV at h; split at h
  · simp at h; omega
  · split at h
    · simp at h; omega
    · simp at h
/-- The byte that two digits stand for, if it is one that has to be escaped. -/
def esc2 (h1 h2 : UInt8) : Option UInt8 :=
  match hexV h1, hexV h2 with
  | some a, some b => if needN (a * 16 + b) = true then some (UInt8.ofNat (a * 16 + b)) else none
  | _, _ => none
/-- The text whose bytes are written so. -/
def unesc : List UInt8 → List UInt8 → Option (List UInt8)
  | acc, [] => some acc
  | acc, b :: l =>
    if b.toNat = 92 then
      match l with
      | h1 :: h2 :: r => match esc2 h1 h2 with
        | some x => unesc (acc ++ [x]) r
        | none => none
      | _ => none
    else if needN b.toNat = true then none
    else unesc (acc ++ [b]) l
/-- The text up to the next quotation mark, and how many bytes stand behind it. -/
def unqt : List UInt8 → List UInt8 → Option (List UInt8 × Nat)
  | _, [] => none
  | acc, b :: l =>
    if b.toNat = 34 then some (acc, l.length)
    else if b.toNat = 92 then
      match l with
      | h1 :: h2 :: r => match esc2 h1 h2 with
        | some x => unqt (acc ++ [x]) r
        | none => none
      | _ => none
    else if needN b.toNat = true then none
    else unqt (acc ++ [b]) l

theorem hexV_quote : hexV 34 = none := by decide
theorem u34 {b : UInt8} (h : b.toNat = 34) : b = 34 := UInt8.toNat_inj.1 h
theorem u92 {b : UInt8} (h : b.toNat = 92) : b = 92 := UInt8.toNat_inj.1 h
theorem esc2_ne {h1 h2 : UInt8} {x : UInt8} (h : esc2 h1 h2 = some x) : h1.toNat ≠ 34 ∧ h2.toNat ≠ 34 := by
  constructor <;> intro e <;> have := u34 e <;> subst this <;> unfold esc2 at h <;> rw [hexV_quote] at h
  · simp at h
  · cases hexV h1 <;> simp at h
theorem esc2_some {h1 h2 x : UInt8} (h : esc2 h1 h2 = some x) : ∃ a b, hexV h1 = some a ∧ hexV h2 = some b ∧ needN (a * 16 + b) = true ∧ x = UInt8.ofNat (a * 16 + b) := by
  unfold esc2 at h
  cases h3 : hexV h1 with
  | none => rw [h3] at h; simp at h
  | some a =>
    cases h4 : hexV h2 with
    | none => rw [h3, h4] at h; simp at h
    | some b =>
      rw [h3, h4] at h
      simp only at h
      split at h
      · exact ⟨a, b, rfl, rfl, by assumption, by simpa using h.symm⟩
      · simp at h

theorem unesc_esc (acc : List UInt8) (h1 h2 : UInt8) (r : List UInt8) : unesc acc (92 :: h1 :: h2 :: r) = (match esc2 h1 h2 with | some x => unesc (acc ++ [x]) r | none => none) := by simp [unesc]
theorem unesc_esc0 (acc : List UInt8) : unesc acc [92] = none := by simp [unesc]
theorem unesc_esc1 (acc : List UInt8) (h : UInt8) : unesc acc [92, h] = none := by simp [unesc]
theorem unesc_plain (acc l : List UInt8) (b : UInt8) (h : b.toNat ≠ 92) : unesc acc (b :: l) = if needN b.toNat = true then none else unesc (acc ++ [b]) l := by
  rcases l with _ | ⟨h1, _ | ⟨h2, r⟩⟩ <;> simp [unesc, h]
theorem unqt_esc (acc : List UInt8) (h1 h2 : UInt8) (r : List UInt8) : unqt acc (92 :: h1 :: h2 :: r) = (match esc2 h1 h2 with | some x => unqt (acc ++ [x]) r | none => none) := by simp [unqt]
theorem unqt_esc0 (acc : List UInt8) : unqt acc [92] = none := by simp [unqt]
theorem unqt_esc1 (acc : List UInt8) (h : UInt8) : unqt acc [92, h] = none := by simp [unqt]
theorem unqt_plain (acc l : List UInt8) (b : UInt8) (h0 : b.toNat ≠ 34) (h : b.toNat ≠ 92) : unqt acc (b :: l) = if needN b.toNat = true then none else unqt (acc ++ [b]) l := by
  rcases l with _ | ⟨h1, _ | ⟨h2, r⟩⟩ <;> simp [unqt, h, h0]
theorem unqt_cons_q (acc l : List UInt8) : unqt acc (34 :: l) = some (acc, l.length) := by
  rcases l with _ | ⟨h1, _ | ⟨h2, r⟩⟩ <;> simp [unqt]
/-- No quotation mark: no text. -/
theorem unqt_none : ∀ (n : Nat) (l acc : List UInt8), l.length ≤ n → (∀ b ∈ l, b ≠ 34) → unqt acc l = none := by
  intro n
  induction n with
  | zero => intro l acc h _; have : l = [] := List.eq_nil_of_length_eq_zero (by omega); subst this; rfl
  | succ n ih =>
    intro l acc h hq
    rcases l with _ | ⟨b, l⟩
    · rfl
    · have hb : b.toNat ≠ 34 := fun e => hq b (by simp) (u34 e)
      by_cases h9 : b.toNat = 92
      · obtain rfl := u92 h9
        rcases l with _ | ⟨h1, _ | ⟨h2, r⟩⟩
        · exact unqt_esc0 _
        · exact unqt_esc1 _ _
        · rw [unqt_esc]
          cases esc2 h1 h2 with
          | none => rfl
          | some x => exact ih r _ (by simp at h; omega) (fun b hb => hq b (by simp [hb]))
      · rw [unqt_plain _ _ _ hb h9]
        split
        · rfl
        · exact ih l _ (by simp at h; omega) (fun b hb => hq b (by simp [hb]))
/-- The first quotation mark ends the text. -/
theorem unqt_first : ∀ (n : Nat) (l rest acc : List UInt8), l.length ≤ n → (∀ b ∈ l, b ≠ 34) → unqt acc (l ++ 34 :: rest) = (unesc acc l).map fun t => (t, rest.length) := by
  intro n
  induction n with
  | zero => intro l rest acc h _; have : l = [] := List.eq_nil_of_length_eq_zero (by omega); subst this; rw [List.nil_append, unqt_cons_q]; rfl
  | succ n ih =>
    intro l rest acc h hq
    rcases l with _ | ⟨b, l⟩
    · rw [List.nil_append, unqt_cons_q]; rfl
    · have hb : b.toNat ≠ 34 := fun e => hq b (by simp) (u34 e)
      by_cases h9 : b.toNat = 92
      · obtain rfl := u92 h9
        rcases l with _ | ⟨h1, _ | ⟨h2, r⟩⟩
        · rw [unesc_esc0]
          rcases rest with _ | ⟨h2, r⟩
          · exact unqt_esc1 _ _
          · show unqt acc (92 :: 34 :: h2 :: r) = _
            rw [unqt_esc]
            cases he : esc2 34 h2 with
            | none => rfl
            | some x => exact absurd rfl (esc2_ne he).1
        · rw [unesc_esc1]
          show unqt acc (92 :: h1 :: 34 :: rest) = _
          rw [unqt_esc]
          cases he : esc2 h1 34 with
          | none => rfl
          | some x => exact absurd rfl (esc2_ne he).2
        · show unqt acc (92 :: h1 :: h2 :: (r ++ 34 :: rest)) = _
          rw [unqt_esc, unesc_esc]
          cases esc2 h1 h2 with
          | none => rfl
          | some x => exact ih r rest _ (by simp at h; omega) (fun b hb => hq b (by simp [hb]))
      · rw [List.cons_append, unqt_plain _ _ _ hb h9, unesc_plain _ _ _ h9]
        split
        · rfl
        · exact ih l rest _ (by simp at h; omega) (fun b hb => hq b (by simp [hb]))
/-- A quotation mark has to be escaped. -/
theorem unesc_quote : ∀ (n : Nat) (l rest acc : List UInt8), l.length ≤ n → (∀ b ∈ l, b ≠ 34) → unesc acc (l ++ 34 :: rest) = none := by
  intro n
  have h34 : ∀ acc rest, unesc acc (34 :: rest) = none := fun acc rest => by rw [unesc_plain _ _ _ (by decide)]; rfl
  induction n with
  | zero => intro l rest acc h _; have : l = [] := List.eq_nil_of_length_eq_zero (by omega); subst this; exact h34 _ _
  | succ n ih =>
    intro l rest acc h hq
    rcases l with _ | ⟨b, l⟩
    · exact h34 _ _
    · by_cases h9 : b.toNat = 92
      · obtain rfl := u92 h9
        rcases l with _ | ⟨h1, _ | ⟨h2, r⟩⟩
        · rcases rest with _ | ⟨h2, r⟩
          · exact unesc_esc1 _ _
          · show unesc acc (92 :: 34 :: h2 :: r) = _
            rw [unesc_esc]
            cases he : esc2 34 h2 with
            | none => rfl
            | some x => exact absurd rfl (esc2_ne he).1
        · show unesc acc (92 :: h1 :: 34 :: rest) = _
          rw [unesc_esc]
          cases he : esc2 h1 34 with
          | none => rfl
          | some x => exact absurd rfl (esc2_ne he).2
        · show unesc acc (92 :: h1 :: h2 :: (r ++ 34 :: rest)) = _
          rw [unesc_esc]
          cases esc2 h1 h2 with
          | none => rfl
          | some x => exact ih r rest _ (by simp at h; omega) (fun b hb => hq b (by simp [hb]))
      · rw [List.cons_append, unesc_plain _ _ _ h9]
        split
        · rfl
        · exact ih l rest _ (by simp at h; omega) (fun b hb => hq b (by simp [hb]))
/-- A list with a quotation mark has a first one. -/
theorem quote_split : ∀ (l : List UInt8), (∀ b ∈ l, b ≠ 34) ∨ ∃ l1 l2, l = l1 ++ 34 :: l2 ∧ ∀ b ∈ l1, b ≠ 34 := by
  intro l
  induction l with
  | nil => exact .inl (by simp)
  | cons b l ih =>
    by_cases hb : b = 34
    · exact .inr ⟨[], l, by simp [hb], by simp⟩
    · rcases ih with h | ⟨l1, l2, h, h1⟩
      · exact .inl (by intro x hx; rcases List.mem_cons.1 hx with e | hx; (· exact e ▸ hb); exact h x hx)
      · exact .inr ⟨b :: l1, l2, by rw [h]; rfl, by intro x hx; rcases List.mem_cons.1 hx with e | hx; (· exact e ▸ hb); exact h1 x hx⟩
/-- The whole of t is a text and its quotation mark: the two ways to say so. -/
theorem whole_text (t : List UInt8) : (if hasSuffix t [34] = true then unesc [] (t.take (t.length - 1)) else none) = match unqt [] t with | some (x, 0) => some x | _ => none := by
  rcases quote_split t with h | ⟨l1, l2, rfl, h1⟩
  · rw [unqt_none t.length t [] (Nat.le_refl _) h]
    have : hasSuffix t [34] = false := by
      unfold hasSuffix
      rw [Bool.eq_false_iff]
      intro hs
      rw [List.isSuffixOf_iff_suffix] at hs
      obtain ⟨p, rfl⟩ := hs
      exact h 34 (by simp) rfl
    simp [this]
  · rw [unqt_first _ l1 l2 [] (Nat.le_refl _) h1]
    cases l2 with
    | nil =>
      have : hasSuffix (l1 ++ [34]) [34] = true := by unfold hasSuffix; rw [List.isSuffixOf_iff_suffix]; exact ⟨l1, rfl⟩
      rw [if_pos this]
      have e : (l1 ++ [34]).take ((l1 ++ [34]).length - 1) = l1 := by simp
      rw [e]
      cases unesc [] l1 <;> rfl
    | cons c l2 =>
      have e : (if hasSuffix (l1 ++ 34 :: c :: l2) [34] = true then unesc [] ((l1 ++ 34 :: c :: l2).take ((l1 ++ 34 :: c :: l2).length - 1)) else none) = none := by
        split
        · have e2 : (l1 ++ 34 :: c :: l2).take ((l1 ++ 34 :: c :: l2).length - 1) = l1 ++ 34 :: (c :: l2).take l2.length := by
            rw [List.take_append]
            have : (l1 ++ 34 :: c :: l2).length - 1 - l1.length = l2.length + 1 := by simp
            rw [this, List.take_of_length_le (by simp)]
            rfl
          rw [e2]
          exact unesc_quote _ _ _ _ (Nat.le_refl _) h1
        · rfl
      rw [e]
      cases unesc [] l1 <;> rfl

/- Numbers. -/
def digB (c : UInt8) : Bool := decide (48 ≤ c.toNat) && decide (c.toNat ≤ 57)
def valF (a : Nat) (l : List UInt8) : Nat := l.foldl (fun a c => a * 10 + (c.toNat - 48)) a
def valD (l : List UInt8) : Nat := valF 0 l
/-- A decimal notation without a sign. -/
def isDec (l : List UInt8) : Bool := !l.isEmpty && !(decide (1 < l.length) && l.head? == some 48) && l.all digB
theorem valF_ge (l : List UInt8) : ∀ a, a ≤ valF a l := by
  induction l with
  | nil => intro a; exact Nat.le_refl _
  | cons c l ih => intro a; exact Nat.le_trans (by show a ≤ a * 10 + (c.toNat - 48); omega) (ih _)
theorem valF_mono (l : List UInt8) : ∀ a b, a ≤ b → valF a l ≤ valF b l := by
  induction l with
  | nil => intro a b h; exact h
  | cons c l ih => intro a b h; exact ih _ _ (by show a * 10 + (c.toNat - 48) ≤ b * 10 + (c.toNat - 48); omega)
theorem valF_snoc (l : List UInt8) (a : Nat) (c : UInt8) : valF a (l ++ [c]) = valF a l * 10 + (c.toNat - 48) := by simp [valF]
theorem digB_iff {c : UInt8} (h : digB c = true) : 48 ≤ c.toNat ∧ c.toNat ≤ 57 := by simpa [digB] using h
/-- What the library reads, at digits alone. -/
theorem parseM_digits (M : Nat) (hM : M ≤ 18446744073709551615) (l : List UInt8) (h : l.all digB = true) : ∀ acc, acc ≤ M → parseUintM M acc l = if valF acc l ≤ M then .ok (valF acc l) else .range := by
  induction l with
  | nil => intro acc ha; simp [parseUintM, valF, ha]
  | cons c l ih =>
    intro acc ha
    simp only [List.all_cons, Bool.and_eq_true] at h
    have hc := digB_iff h.1
    have e : valF acc (c :: l) = valF (acc * 10 + (c.toNat - 48)) l := rfl
    have hg := valF_ge l (acc * 10 + (c.toNat - 48))
    rw [parseUintM, if_pos hc, e]
    by_cases h1 : 1844674407370955162 ≤ acc
    · rw [if_pos h1, if_neg (by omega)]
    · rw [if_neg h1]
      by_cases h2 : M < acc * 10 + (c.toNat - 48)
      · rw [if_pos h2, if_neg (by omega)]
      · rw [if_neg h2]
        exact ih h.2 _ (by omega)
theorem parseU_digits (l : List UInt8) (h : l.all digB = true) (hne : l ≠ []) : parseUintB 64 l = if valD l ≤ 18446744073709551615 then .ok (valD l) else .range := by
  unfold parseUintB
  rw [if_neg hne, show 2 ^ 64 - 1 = 18446744073709551615 by decide, parseM_digits _ (Nat.le_refl _) l h 0 (by decide)]
  rfl
theorem isDec_parts {l : List UInt8} (h : isDec l = true) : l ≠ [] ∧ l.all digB = true := by
  unfold isDec at h
  simp only [Bool.and_eq_true] at h
  exact ⟨by intro e; subst e; simp at h, h.2⟩
/-- ParseInt at a decimal notation. -/
theorem parseI_plain (l : List UInt8) (h : isDec l = true) : parseIntB 64 l = if valD l < 9223372036854775808 then .ok (valD l : Int) else .range := by
  obtain ⟨hne, hd⟩ := isDec_parts h
  rcases l with _ | ⟨c, r⟩
  · exact absurd rfl hne
  · have hc := digB_iff (by simpa using (List.all_eq_true.1 hd c (by simp)))
    unfold parseIntB
    have hn : ¬ (c.toNat = 43 ∨ c.toNat = 45) := by omega
    have hn2 : ¬ c.toNat = 45 := by omega
    simp only [if_neg hn]
    rw [parseU_digits _ hd hne]
    by_cases h1 : valD (c :: r) ≤ 18446744073709551615
    · rw [if_pos h1]
      simp only [hn2]
      by_cases h2 : valD (c :: r) < 9223372036854775808
      · rw [if_pos h2, if_neg (by simp; omega), if_neg (by simp)]; simp
      · rw [if_neg h2, if_pos (by simp; omega)]
    · rw [if_neg h1, if_neg (by omega)]
theorem parseI_neg (l : List UInt8) (h : isDec l = true) : parseIntB 64 (45 :: l) = if valD l ≤ 9223372036854775808 then .ok (-(valD l : Int)) else .range := by
  obtain ⟨hne, hd⟩ := isDec_parts h
  unfold parseIntB
  have hn : (UInt8.toNat 45 = 43 ∨ UInt8.toNat 45 = 45) := by decide
  have hn2 : UInt8.toNat 45 = 45 := by decide
  simp only [if_pos hn]
  rw [parseU_digits _ hd hne]
  by_cases h1 : valD l ≤ 18446744073709551615
  · rw [if_pos h1]
    simp only [hn2]
    by_cases h2 : valD l ≤ 9223372036854775808
    · rw [if_pos h2, if_neg (by simp), if_neg (by simp; omega)]; simp
    · rw [if_neg h2, if_neg (by simp), if_pos (by simp; omega)]
  · rw [if_neg h1, if_neg (by omega)]
/-- A decimal notation of 0 is "0". -/
theorem val_zero {l : List UInt8} (h : isDec l = true) (h0 : valD l = 0) : l = [48] := by
  obtain ⟨hne, hd⟩ := isDec_parts h
  rcases l with _ | ⟨c, r⟩
  · exact absurd rfl hne
  · have hc := digB_iff (by simpa using (List.all_eq_true.1 hd c (by simp)))
    have e : valD (c :: r) = valF (0 * 10 + (c.toNat - 48)) r := rfl
    have hg := valF_ge r (0 * 10 + (c.toNat - 48))
    have hc48 : c = 48 := UInt8.toNat_inj.1 (by show c.toNat = 48; omega)
    subst hc48
    rcases r with _ | ⟨d, r⟩
    · rfl
    · simp [isDec] at h
/-- The notation of a number is decimal and has its value. -/
theorem val_dec (u : Nat) : valD (decDigits u) = u ∧ (decDigits u).all digB = true := by
  induction u using Nat.strongRecOn with
  | _ u ih =>
    have hd : ∀ k, k < 10 → (UInt8.ofNat (48 + k)).toNat = 48 + k := fun k hk => by simp; omega
    by_cases h : u < 10
    · rw [decDigits, dif_pos h]
      refine ⟨?_, ?_⟩
      · show 0 * 10 + ((UInt8.ofNat (48 + u)).toNat - 48) = u
        rw [hd u h]; omega
      · simp only [List.all_cons, List.all_nil, Bool.and_true, digB, hd u h]; simp; omega
    · rw [decDigits, dif_neg h]
      obtain ⟨h1, h2⟩ := ih (u / 10) (by omega)
      refine ⟨?_, ?_⟩
      · unfold valD at h1 ⊢
        rw [valF_snoc, h1, hd _ (by omega)]; omega
      · rw [List.all_append, h2]; simp only [List.all_cons, List.all_nil, Bool.and_true, Bool.true_and, digB, hd _ (Nat.mod_lt u (by decide : 10 > 0))]; simp; omega
theorem dec_head (u : Nat) (h : 0 < u) : ∃ c r, decDigits u = c :: r ∧ c.toNat ≠ 48 := by
  induction u using Nat.strongRecOn with
  | _ u ih =>
    by_cases h9 : u < 10
    · rw [decDigits, dif_pos h9]
      exact ⟨_, [], rfl, by simp; omega⟩
    · rw [decDigits, dif_neg h9]
      obtain ⟨c, r, hc, h1⟩ := ih (u / 10) (by omega) (by omega)
      rw [hc]
      exact ⟨c, r ++ [UInt8.ofNat (48 + u % 10)], rfl, h1⟩
theorem isDec_dec (u : Nat) : isDec (decDigits u) = true := by
  by_cases h : u = 0
  · subst h; rw [decDigits, dif_pos (by decide)]; decide
  · obtain ⟨c, r, hc, h1⟩ := dec_head u (by omega)
    have hd := (val_dec u).2
    rw [hc] at hd ⊢
    unfold isDec
    rw [hd]
    have : (List.head? (c :: r) == some 48) = false := by simp; intro e; subst e; exact h1 rfl
    rw [this]; simp
end Go.Proofs.TX
