/- The error of ParseInt, out of a row's condition; a text form reads back. -/
import Derived.Test.YtninmolgkkhikaaDoorPe
import Derived.Test.YtninmolgkkhikaaDoorRows
import Derived.Lib.LaidTab
import Derived.LaidLaws
namespace Go.Proofs.YtninmolgkkhikaaDoor
open Go.RowKit Go.Proofs.EB Go.Proofs.TX
theorem err_of_laid {n1 n2 n3 : String} {d1 d2 d3 : DataW Unit} {rest : List (String × DataW Unit)} {W : World} (h : laidMet Tryd.prog ((n1, d1) :: (n2, d2) :: (n3, d3) :: ("strconv.ErrRange", Rows.laid_strconv_ErrRange) :: rest) W) : ErrV W := by
  obtain ⟨ps, hL, _⟩ := h
  obtain ⟨_, _, _, _, _, _, _, _, _, _, hL2, _⟩ := hL
  obtain ⟨_, _, _, _, _, _, _, _, _, _, hL3, _⟩ := hL2
  obtain ⟨_, _, _, _, _, _, _, _, _, _, hL4, _⟩ := hL3
  obtain ⟨g', t', cs, fuel, p, q, hg', ht', hvar, hd, _, _⟩ := hL4
  have hg : Tryd.prog.globalNamed "strconv.ErrRange" = some 2 := by kernel_rfl
  obtain rfl := Option.some.inj (hg.symm.trans hg')
  have hty : (Tryd.prog.globals[2]?).map (·.type) = some 78 := by kernel_rfl
  obtain rfl := Option.some.inj (hty.symm.trans ht')
  obtain ⟨_, u, v, hc, _, _⟩ := iface_of_trod Tryd.underlying78 hd
  refine ⟨u, v, ?_⟩
  have hcs : cs = #[.iface u v] := Array.toList_inj.1 hc
  rw [hvar, hcs]

theorem esc2_hex (b : UInt8) (h : needN b.toNat = true) : esc2 (hexD.getD (b.toNat / 16) 0) (hexD.getD (b.toNat % 16) 0) = some b := by
  have hh : ∀ j : Fin 256, needN (UInt8.ofNat j.val).toNat = true → esc2 (hexD.getD ((UInt8.ofNat j.val).toNat / 16) 0) (hexD.getD ((UInt8.ofNat j.val).toNat % 16) 0) = some (UInt8.ofNat j.val) := by decide +kernel
  have := hh ⟨b.toNat, b.toNat_lt⟩
  simp only [UInt8.ofNat_toNat] at this
  exact this h
theorem hex_ne (j : Nat) : hexD.getD j 0 ≠ 34 := by
  by_cases h : j < 16
  · have : ∀ i : Fin 16, hexD.getD i.val 0 ≠ 34 := by decide
    exact this ⟨j, h⟩
  · have : hexD.getD j 0 = 0 := by
      rw [List.getD_eq_getElem?_getD, List.getElem?_eq_none (by simp [hexD]; omega)]; rfl
    rw [this]; decide
theorem quote1_ne (b : UInt8) : ∀ x ∈ quote1 b, x ≠ 34 := by
  intro x hx
  unfold quote1 at hx
  split at hx
  · simp only [List.mem_cons, List.not_mem_nil, or_false] at hx
    rcases hx with rfl | rfl | rfl
    · decide
    · exact hex_ne _
    · exact hex_ne _
  · rename_i h
    simp only [List.mem_singleton] at hx
    subst hx
    intro e
    subst e
    exact h (by decide)
theorem unesc_quoted : ∀ (t acc : List UInt8), unesc acc (t.flatMap quote1) = some (acc ++ t) := by
  intro t
  induction t with
  | nil => intro acc; simp [unesc]
  | cons b t ih =>
    intro acc
    rw [List.flatMap_cons]
    unfold quote1
    by_cases h : needI b.toNat = true
    · rw [if_pos h]
      show unesc acc (92 :: _ :: _ :: t.flatMap quote1) = _
      rw [unesc_esc, esc2_hex b (by rw [← needN_I]; exact h)]
      simp only
      rw [ih]; simp
    · rw [if_neg h]
      have h2 : needN b.toNat = false := by rw [← needN_I]; simpa using h
      have h92 : b.toNat ≠ 92 := by intro e; rw [e] at h2; simp [needN] at h2
      show unesc acc (b :: t.flatMap quote1) = _
      rw [unesc_plain _ _ _ h92, if_neg (by rw [h2]; decide), ih]; simp
theorem quoted_ne (t : List UInt8) : ∀ x ∈ t.flatMap quote1, x ≠ 34 := by
  intro x hx
  rw [List.mem_flatMap] at hx
  obtain ⟨b, _, hb⟩ := hx
  exact quote1_ne b x hb
theorem unqt_quoted (t rest : List UInt8) : unqt [] (t.flatMap quote1 ++ 34 :: rest) = some (t, rest.length) := by
  rw [unqt_first _ _ _ _ (Nat.le_refl _) (quoted_ne t), unesc_quoted]; simp
theorem parseS_quote (t : List UInt8) (h : t.length ≤ 32) : parseS (quoteL t ++ [34]) = (⟨2, 0, ⟨t.toArray⟩⟩, 0) := by
  have hne : quoteL t ++ [34] ≠ [110, 117, 108, 108] := by intro e; unfold quoteL at e; simp at e
  have hq : unqO (quoteL t ++ [34]) = some (t, 0) := by
    unfold unqO
    rw [if_pos (by unfold quoteL; simp [Lib.hasPrefix, List.isPrefixOf])]
    show unqt [] (t.flatMap quote1 ++ 34 :: []) = _
    rw [unqt_quoted]; rfl
  rw [parseS_some hne hq, if_pos rfl, textR_ok h]
theorem dec_first (u : Nat) : ∃ c r, Lib.decDigits u = c :: r ∧ 48 ≤ c.toNat ∧ c.toNat ≤ 57 := by
  obtain ⟨hne, hd⟩ := isDec_parts (isDec_dec u)
  cases hl : Lib.decDigits u with
  | nil => exact absurd hl hne
  | cons c r =>
    rw [hl] at hd
    exact ⟨c, r, rfl, digB_iff (by simpa using (List.all_eq_true.1 hd c (by simp)))⟩
theorem signD_plain (u : Nat) : signD (Lib.decDigits u) = Lib.decDigits u ∧ Lib.hasPrefix (Lib.decDigits u) [45] = false := by
  obtain ⟨c, r, hc, h0, h1⟩ := dec_first u
  have hp : Lib.hasPrefix (Lib.decDigits u) [45] = false := by
    rw [hc]; unfold Lib.hasPrefix
    simp only [List.isPrefixOf, Bool.and_true, beq_eq_false_iff_ne, ne_eq]
    intro e; subst e; simp at h0
  refine ⟨?_, hp⟩
  unfold signD Lib.trimPrefix; rw [if_neg (by rw [hp]; decide)]
theorem signD_minus (l : List UInt8) : signD (45 :: l) = l ∧ Lib.hasPrefix (45 :: l) [45] = true := by
  have hp : Lib.hasPrefix (45 :: l) [45] = true := by unfold Lib.hasPrefix; simp [List.isPrefixOf]
  refine ⟨?_, hp⟩
  unfold signD Lib.trimPrefix; rw [if_pos hp]; rfl
theorem head_ne {l : List UInt8} {c : UInt8} {r : List UInt8} (hl : l = c :: r) (h : c.toNat ≤ 57) (h34 : c.toNat ≠ 34) : l ≠ [110, 117, 108, 108] ∧ unqO l = none := by
  subst hl
  refine ⟨?_, ?_⟩
  · intro e
    have : c = 110 := (List.cons.inj e).1
    subst this; simp at h
  · unfold unqO
    rw [if_neg]
    unfold Lib.hasPrefix
    simp only [List.isPrefixOf, Bool.and_true, beq_iff_eq]
    intro e; subst e; exact h34 rfl
theorem parseS_int (n : Int) (h : -4294967296 ≤ n ∧ n ≤ 4294967296) : parseS (Lib.itoa n) = (⟨1, n, ⟨#[]⟩⟩, 0) := by
  by_cases hn : n < 0
  · have hi : Lib.itoa n = 45 :: Lib.decDigits n.natAbs := by unfold Lib.itoa; rw [if_pos hn]
    obtain ⟨h1, h2⟩ := head_ne hi (by decide) (by decide)
    rw [parseS_none h1 h2, hi]
    obtain ⟨hs, hp⟩ := signD_minus (Lib.decDigits n.natAbs)
    have hv := (val_dec n.natAbs).1
    rw [intR_ok (by rw [hs]; exact isDec_dec _) (by
      intro e
      have e2 : Lib.decDigits n.natAbs = [48] := (List.cons.inj e).2
      rw [e2] at hv
      have : valD [48] = 0 := rfl
      omega) (by rw [hs, hv]; omega)]
    congr 2
    unfold signV
    rw [if_pos hp, hs, hv]; omega
  · have hi : Lib.itoa n = Lib.decDigits n.toNat := by unfold Lib.itoa; rw [if_neg hn]
    obtain ⟨c, r, hc, c0, c1⟩ := dec_first n.toNat
    obtain ⟨h1, h2⟩ := head_ne (hi.trans hc) c1 (by omega)
    rw [parseS_none h1 h2, hi]
    obtain ⟨hs, hp⟩ := signD_plain n.toNat
    have hv := (val_dec n.toNat).1
    rw [intR_ok (by rw [hs]; exact isDec_dec _) (by
      intro e
      rw [hc] at e
      have : c = 45 := (List.cons.inj e).1
      subst this; simp at c0) (by rw [hs, hv]; omega)]
    congr 2
    unfold signV
    rw [if_neg (by rw [hp]; decide), hs, hv]; omega
theorem parse_back (v : V) : parseS (fmtV (cleanV v)) = (cleanV v, 0) := by
  have hv := cleanV_valid v
  rcases clean_shape v with h | ⟨n, h⟩ | ⟨s, h⟩
  · rw [h]; rfl
  · rw [h] at hv ⊢
    have hr : -4294967296 ≤ n ∧ n ≤ 4294967296 := by simp [vB, validB] at hv; omega
    exact parseS_int n hr
  · rw [h] at hv ⊢
    have hr : s.size ≤ 32 := by simp [vB, validB] at hv; omega
    exact parseS_quote s.data.toList (by simpa using hr)
theorem pow_nDigits_le (u : Nat) (h : 0 < u) : 10 ^ (Lib.nDigits u - 1) ≤ u := by
  induction u using Nat.strongRecOn with
  | _ u ih =>
    by_cases h9 : u < 10
    · rw [Lib.nDigits_small h9]; show 1 ≤ u; exact h
    · have := ih (u / 10) (by omega) (by omega)
      have hp := Lib.nDigits_pos (u / 10)
      rw [Lib.nDigits_big h9, show Lib.nDigits (u / 10) + 1 - 1 = (Lib.nDigits (u / 10) - 1) + 1 by omega, Nat.pow_succ]
      omega
theorem itoa_len (n : Int) (h : -4294967296 ≤ n ∧ n ≤ 4294967296) : (Lib.itoa n).length ≤ 12 := by
  have hp : ∀ u : Nat, u ≤ 4294967296 → (Lib.decDigits u).length ≤ 11 := by
    intro u hu
    rw [Lib.decDigits_length]
    rcases Nat.lt_or_ge 11 (Lib.nDigits u) with h1 | h1
    · exfalso
      have := pow_nDigits_le u (by
        rcases Nat.eq_zero_or_pos u with h0 | h0
        · subst h0; simp [Lib.nDigits_small (u := 0) (by decide)] at h1
        · exact h0)
      have h2 : 10 ^ 11 ≤ 10 ^ (Lib.nDigits u - 1) := Nat.pow_le_pow_right (by decide) (by omega)
      omega
    · exact h1
  unfold Lib.itoa
  split
  · have := hp n.natAbs (by omega); simp; omega
  · have := hp n.toNat (by omega); omega
theorem fmt_len (v : V) : (fmtV (cleanV v)).length ≤ 100 := by
  have hv := cleanV_valid v
  rcases clean_shape v with h | ⟨n, h⟩ | ⟨s, h⟩
  · rw [h]; simp [fmtV]
  · rw [h] at hv ⊢
    have hr : -4294967296 ≤ n ∧ n ≤ 4294967296 := by simp [vB, validB] at hv; omega
    have := itoa_len n hr
    show (Lib.itoa n).length ≤ 100
    omega
  · rw [h] at hv ⊢
    have hr : s.size ≤ 32 := by simp [vB, validB] at hv; omega
    have h1 := quoteL_len s.data.toList
    have h2 : s.data.toList.length = s.size := by simp
    show (quoteL s.data.toList ++ [34]).length ≤ 100
    simp only [List.length_append, List.length_cons, List.length_nil]
    omega
end Go.Proofs.YtninmolgkkhikaaDoor
