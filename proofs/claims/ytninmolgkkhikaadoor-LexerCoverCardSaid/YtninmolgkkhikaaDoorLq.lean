/- A token that Scan gives has a text, and the text reads back as the token: the scan of a joined row (plain lists). -/
import Derived.Test.YtninmolgkkhikaaDoorLo
import Derived.Test.YtninmolgkkhikaaDoorLi
namespace Go.Proofs.YtninmolgkkhikaaDoor
open Go.RowKit Go.Proofs.EB Go.Proofs.TX

theorem dec_val : ∀ (n : Nat) (d : List UInt8), d.length = n → isDec d = true → Lib.decDigits (valD d) = d := by
  intro n
  induction n with
  | zero => intro d h hd; exact absurd (List.eq_nil_of_length_eq_zero h) (isDec_parts hd).1
  | succ n ih =>
    intro d h hd
    obtain ⟨hne, hall⟩ := isDec_parts hd
    obtain ⟨i, c, rfl⟩ : ∃ i c, d = i ++ [c] := ⟨d.dropLast, d.getLast hne, (List.dropLast_concat_getLast hne).symm⟩
    have hc := digB_iff (List.all_eq_true.1 hall c (by simp))
    have hv : valD (i ++ [c]) = valD i * 10 + (c.toNat - 48) := valF_snoc i 0 c
    have hcc : ∀ k, k = c.toNat - 48 → UInt8.ofNat (48 + k) = c := fun k hk => UInt8.toNat_inj.1 (by subst hk; simp; omega)
    rw [hv]
    rcases i with _ | ⟨a, r⟩
    · show Lib.decDigits (0 * 10 + (c.toNat - 48)) = [c]
      rw [Lib.decDigits, dif_pos (by omega), hcc _ (by omega)]
    · have hi : isDec (a :: r) = true := by
        have hall2 : (a :: r).all digB = true := by
          rw [List.all_append, Bool.and_eq_true] at hall; exact hall.1
        unfold isDec at hd ⊢
        rw [hall2]
        simp at hd ⊢
        exact .inr hd.1
      have h1 : valD (a :: r) ≠ 0 := by
        intro e
        have h2 := val_zero hi e
        rw [h2] at hd
        have : isDec ([48] ++ [c]) = false := by unfold isDec; simp
        rw [this] at hd; cases hd
      rw [Lib.decDigits, dif_neg (by omega)]
      have e1 : (valD (a :: r) * 10 + (c.toNat - 48)) / 10 = valD (a :: r) := by omega
      have e2 : (valD (a :: r) * 10 + (c.toNat - 48)) % 10 = c.toNat - 48 := by omega
      rw [e1, e2, ih _ (by simpa using h) hi, hcc _ rfl]
theorem hexV_back {c : UInt8} {a : Nat} (h : hexV c = some a) : hexD.getD a 0 = c := by
  have hh : ∀ j : Fin 256, (match hexV (UInt8.ofNat j.val) with | some a => hexD.getD a 0 == UInt8.ofNat j.val | none => true) = true := by decide +kernel
  have := hh ⟨c.toNat, c.toNat_lt⟩
  simp only [UInt8.ofNat_toNat, h] at this
  simpa using this
theorem esc2_back {h1 h2 x : UInt8} (h : esc2 h1 h2 = some x) : quote1 x = [92, h1, h2] := by
  obtain ⟨a, b, ha, hb, hn, rfl⟩ := esc2_some h
  have h16a := hexV_lt ha
  have h16b := hexV_lt hb
  have e : (UInt8.ofNat (a * 16 + b)).toNat = a * 16 + b := by simp; omega
  unfold quote1
  rw [e, needN_I, if_pos hn, show (a * 16 + b) / 16 = a by omega, show (a * 16 + b) % 16 = b by omega, hexV_back ha, hexV_back hb]
theorem unqt_body : ∀ (n : Nat) (l acc t : List UInt8) (m : Nat), l.length ≤ n → unqt acc l = some (t, m) → ∃ t' rest, t = acc ++ t' ∧ l = t'.flatMap quote1 ++ 34 :: rest ∧ rest.length = m := by
  intro n
  induction n with
  | zero => intro l acc t m h hu; have : l = [] := List.eq_nil_of_length_eq_zero (by omega); subst this; simp [unqt] at hu
  | succ n ih =>
    intro l acc t m h hu
    rcases l with _ | ⟨b, l⟩
    · simp [unqt] at hu
    · by_cases h34 : b.toNat = 34
      · obtain rfl := u34 h34
        rw [unqt_cons_q] at hu
        simp only [Option.some.injEq, Prod.mk.injEq] at hu
        obtain ⟨rfl, rfl⟩ := hu
        exact ⟨[], l, by simp, by simp, rfl⟩
      · by_cases h9 : b.toNat = 92
        · obtain rfl := u92 h9
          rcases l with _ | ⟨h1, _ | ⟨h2, r⟩⟩
          · rw [unqt_esc0] at hu; simp at hu
          · rw [unqt_esc1] at hu; simp at hu
          · rw [unqt_esc] at hu
            cases he : esc2 h1 h2 with
            | none => rw [he] at hu; simp at hu
            | some x =>
              rw [he] at hu
              obtain ⟨t', rest, e1, e2, e3⟩ := ih r _ t m (by simp at h; omega) hu
              exact ⟨x :: t', rest, by rw [e1]; simp, by rw [List.flatMap_cons, esc2_back he, e2]; rfl, e3⟩
        · rw [unqt_plain _ _ _ h34 h9] at hu
          split at hu
          · simp at hu
          · rename_i hnd
            obtain ⟨t', rest, e1, e2, e3⟩ := ih l _ t m (by simp at h; omega) hu
            have hq : quote1 b = [b] := by unfold quote1; rw [needN_I, if_neg hnd]
            exact ⟨b :: t', rest, by rw [e1]; simp, by rw [List.flatMap_cons, hq, e2]; rfl, e3⟩
/-- What may stand behind a token: the end, or a blank. -/
def Gap (l : List UInt8) : Prop := l = [] ∨ ∃ r, l = 32 :: r
theorem runC_again (p : UInt8 → Bool) (h32 : p 32 = false) (l rest : List UInt8) (hr : Gap rest) : runC p (l.take (runC p l) ++ rest) = runC p l := by
  have hlen : (l.take (runC p l)).length = runC p l := by have := runC_le p l; simp; omega
  have h0 : runC p rest = 0 := by
    rcases hr with rfl | ⟨r, rfl⟩
    · rfl
    · rw [runC, if_neg (by rw [h32]; decide)]
  rw [runC_from p _ (runC p l) (by rw [List.length_append]; omega) (by rw [List.take_left' hlen]; exact runC_take p l), List.drop_left' hlen, h0, Nat.add_zero]
theorem signN_again (l rest : List UInt8) (hr : Gap rest) (h : signN l ≠ 0) : signN (l.take (signN l) ++ rest) = signN l := by
  have one : ∀ c : UInt8, sign1 c = true → signN ([c] ++ rest) = 1 := by
    intro c hc
    rcases hr with rfl | ⟨r, rfl⟩
    · show signN [c] = 1
      rw [signN_one, if_pos hc]
    · show signN (c :: 32 :: r) = 1
      rw [signN_two, if_neg (by simp), if_pos hc]
  rcases l with _ | ⟨c, _ | ⟨d, l⟩⟩
  · exact absurd rfl h
  · rw [signN_one] at h ⊢
    by_cases hc : sign1 c = true
    · rw [if_pos hc]; exact one c hc
    · rw [if_neg hc] at h; exact absurd rfl h
  · rw [signN_two] at h ⊢
    by_cases h2 : (c == 43 && d == 43 || c == 60 && d == 61) = true
    · rw [if_pos h2]
      show signN (c :: d :: rest) = 2
      rw [signN_two, if_pos h2]
    · rw [if_neg h2] at h ⊢
      by_cases hc : sign1 c = true
      · rw [if_pos hc]; exact one c hc
      · rw [if_neg hc] at h; exact absurd rfl h
theorem tokAt_name {l : List UInt8} {b : UInt8} {r : List UInt8} (e : l = b :: r) (h1 : letB b = true) (h2 : runC nameC l ≤ 16) : tokAt l = .ok ⟨1, l.take (runC nameC l), 0⟩ (runC nameC l) := by
  subst e; unfold tokAt; simp only; rw [if_pos h1, if_pos h2]
theorem tokAt_num {l : List UInt8} {b : UInt8} {r : List UInt8} (e : l = b :: r) (h0 : letB b = false) (h1 : digB b = true) (h2 : isDec (l.take (runC digB l)) = true) (h3 : valD (l.take (runC digB l)) ≤ 4294967296) : tokAt l = .ok ⟨2, [], valD (l.take (runC digB l))⟩ (runC digB l) := by
  subst e; unfold tokAt; simp only; rw [if_neg (by rw [h0]; decide), if_pos h1, if_pos h2, if_pos h3]
theorem tokAt_text {l : List UInt8} {b : UInt8} {r t : List UInt8} {m : Nat} (e : l = b :: r) (h2 : b.toNat = 34) (h3 : unqt [] r = some (t, m)) (h4 : t.length ≤ 32) : tokAt l = .ok ⟨3, t, 0⟩ (l.length - m) := by
  subst e; obtain rfl := u34 h2; unfold tokAt; simp only; rw [if_neg (by decide), if_neg (by decide), if_pos h2, h3]; simp only; rw [if_pos h4]
theorem tokAt_sign {l : List UInt8} {b : UInt8} {r : List UInt8} (e : l = b :: r) (h0 : letB b = false) (h1 : digB b = false) (h2 : b.toNat ≠ 34) (h3 : signN l ≠ 0) : tokAt l = .ok ⟨4, l.take (signN l), 0⟩ (signN l) := by
  subst e; unfold tokAt; simp only; rw [if_neg (by rw [h0]; decide), if_neg (by rw [h1]; decide), if_neg h2, if_neg h3]
theorem take_cons_pos {b : UInt8} {r rest : List UInt8} {n : Nat} (h : 0 < n) : (b :: r).take n ++ rest = b :: (r.take (n - 1) ++ rest) := by
  obtain ⟨k, rfl⟩ : ∃ k, n = k + 1 := ⟨n - 1, by omega⟩
  rfl
/-- A token of a source: its text is the piece of the source, and the piece reads as the token. -/
theorem tok_back {l : List UInt8} {t : Tk} {n : Nat} (h : tokAt l = .ok t n) : textK t.k t.n ⟨t.s.toArray⟩ = some (l.take n) ∧ (∀ rest, Gap rest → tokAt (l.take n ++ rest) = .ok t n) ∧ t.s.length ≤ 32 ∧ 0 ≤ t.n ∧ t.n ≤ 4294967296 := by
  have hsz := tokAt_size h
  have hlen : (l.take n).length = n := by simp; omega
  unfold tokAt at h
  rcases l with _ | ⟨b, r⟩
  · simp at h
  · simp only at h
    split at h
    · rename_i h1
      split at h
      · rename_i h2
        cases h
        refine ⟨?_, ?_, by simp only [hlen]; omega, by simp, by simp⟩
        · show textK 1 0 _ = _
          unfold textK
          rw [if_pos rfl]
          have e : (⟨((b :: r).take (runC nameC (b :: r))).toArray⟩ : ByteArray).data.toList = (b :: r).take (runC nameC (b :: r)) := rfl
          rw [e, if_pos]
          have ha := runC_take nameC (b :: r)
          obtain ⟨k, hk⟩ : ∃ k, runC nameC (b :: r) = k + 1 := ⟨runC nameC (b :: r) - 1, by omega⟩
          rw [hk, List.take_succ_cons] at ha ⊢
          unfold nameB
          simp only
          rw [h1, ha, decide_eq_true (by simp; omega)]; rfl
        · intro rest hr
          have hrun := runC_again nameC (by decide) (b :: r) rest hr
          have := tokAt_name (l := (b :: r).take (runC nameC (b :: r)) ++ rest) (take_cons_pos hsz.1) h1 (by rw [hrun]; exact h2)
          rw [this, hrun, List.take_left' hlen]
      · cases h
    · rename_i h0
      have h0' : letB b = false := by simpa using h0
      split at h
      · rename_i h1
        split at h
        · rename_i h2
          split at h
          · rename_i h3
            cases h
            refine ⟨?_, ?_, by simp, by simp, by simp only; omega⟩
            · show textK 2 ((valD ((b :: r).take (runC digB (b :: r))) : Nat) : Int) _ = _
              unfold textK
              rw [if_neg (by decide), if_pos rfl, if_pos ⟨by omega, by omega⟩]
              unfold Lib.itoa
              rw [if_neg (by omega), Int.toNat_natCast, dec_val _ _ rfl h2]
            · intro rest hr
              have hrun := runC_again digB (by decide) (b :: r) rest hr
              have htk : ((b :: r).take (runC digB (b :: r)) ++ rest).take (runC digB ((b :: r).take (runC digB (b :: r)) ++ rest)) = (b :: r).take (runC digB (b :: r)) := by
                rw [hrun, List.take_left' hlen]
              have := tokAt_num (l := (b :: r).take (runC digB (b :: r)) ++ rest) (take_cons_pos hsz.1) h0' h1 (by rw [htk]; exact h2) (by rw [htk]; exact h3)
              rw [this, htk, hrun]
          · cases h
        · cases h
      · rename_i h1
        have h1' : digB b = false := by simpa using h1
        split at h
        · rename_i h34
          split at h
          · rename_i t0 m hu
            split at h
            · rename_i h32
              cases h
              obtain ⟨t', rest', e1, e2, e3⟩ := unqt_body r.length r [] t0 m (Nat.le_refl _) hu
              obtain rfl : t0 = t' := by simpa using e1
              obtain rfl := u34 h34
              have el : (34 :: r : List UInt8) = (quoteL t0 ++ [34]) ++ rest' := by rw [e2]; simp [quoteL]
              have en : (34 :: r : List UInt8).length - m = (quoteL t0 ++ [34]).length := by rw [el, List.length_append]; omega
              have et : (34 :: r : List UInt8).take ((34 :: r : List UInt8).length - m) = quoteL t0 ++ [34] := by rw [en, el]; exact List.take_left
              refine ⟨?_, ?_, h32, by simp, by simp⟩
              · rw [et]
                show textK 3 0 _ = _
                unfold textK
                rw [if_neg (by decide), if_neg (by decide), if_pos rfl, if_pos (by show t0.toArray.size ≤ 32; simpa using h32)]
              · intro rest hr
                rw [et, en]
                have e5 : quoteL t0 ++ [34] ++ rest = 34 :: (t0.flatMap quote1 ++ 34 :: rest) := by simp [quoteL]
                have := tokAt_text (l := quoteL t0 ++ [34] ++ rest) e5 rfl (unqt_quoted t0 rest) h32
                rw [this, List.length_append, Nat.add_sub_cancel]
            · cases h
          · cases h
        · rename_i h34
          split at h
          · cases h
          · rename_i hs0
            cases h
            refine ⟨?_, ?_, by have := (signN_le (b :: r)).2; simp only [hlen]; omega, by simp, by simp⟩
            · show textK 4 0 _ = _
              unfold textK
              rw [if_neg (by decide), if_neg (by decide), if_neg (by decide), if_pos rfl]
              have e : (⟨((b :: r).take (signN (b :: r))).toArray⟩ : ByteArray).data.toList = (b :: r).take (signN (b :: r)) := rfl
              rw [e, if_pos]
              have h5 := signN_again (b :: r) [] (.inl rfl) hs0
              rw [List.append_nil] at h5
              rw [sgn_all, h5, hlen, decide_eq_true rfl, Bool.and_true]
              have : (b :: r).take (signN (b :: r)) ≠ [] := by intro e6; rw [e6] at hlen; simp at hlen; omega
              simpa using this
            · intro rest hr
              have h5 := signN_again (b :: r) rest hr hs0
              have := tokAt_sign (l := (b :: r).take (signN (b :: r)) ++ rest) (take_cons_pos hsz.1) h0' h1' h34 (by rw [h5]; exact hs0)
              rw [this, h5, List.take_left' hlen]

/-- The source that reads back: what stands before each token, a blank. -/
def sep (l : List Tok) : List UInt8 := l.flatMap fun t => 32 :: (textT t).getD []
theorem sep_gap (l : List Tok) : Gap (sep l) := by
  cases l with
  | nil => exact .inl rfl
  | cons t l => exact .inr ⟨_, by unfold sep; rw [List.flatMap_cons]; rfl⟩
/-- A token that has a text which reads back. -/
def RT (t : Tok) : Prop := ∃ x b r, textT t = some x ∧ x = b :: r ∧ blankC b = false ∧ b.toNat ≠ 35 ∧ (∀ rest, Gap rest → tokAt (x ++ rest) = .ok ⟨t.k, t.s.data.toList, t.n⟩ x.length) ∧ t.s.size ≤ 32 ∧ 0 ≤ t.n ∧ t.n ≤ 4294967296
theorem sep_cons {t : Tok} {l : List Tok} {x : List UInt8} (h : textT t = some x) : sep (t :: l) = 32 :: (x ++ sep l) := by
  unfold sep; rw [List.flatMap_cons, h]; rfl
theorem fold_sep : ∀ (l : List Tok) (acc : List UInt8), acc ≠ [] → (∀ t ∈ l, RT t) → l.foldl addT acc = acc ++ sep l := by
  intro l
  induction l with
  | nil => intro acc _ _; simp [sep]
  | cons t l ih =>
    intro acc hne h
    obtain ⟨x, b, r, hx, rfl, _⟩ := h t (by simp)
    have e : addT acc t = acc ++ 32 :: (b :: r) := by unfold addT; rw [hx]; simp only; rw [if_neg hne]
    rw [List.foldl_cons, e, ih _ (by simp) (fun t ht => h t (by simp [ht])), sep_cons hx]; simp
theorem joinL_cons {t : Tok} {l : List Tok} {x : List UInt8} (hx : textT t = some x) (h : ∀ t' ∈ t :: l, RT t') : joinL (t :: l) = x ++ sep l := by
  have hne : x ≠ [] := by
    obtain ⟨x', b, r, hx', rfl, _⟩ := h t (by simp)
    rw [hx] at hx'
    rw [Option.some.inj hx']; simp
  unfold joinL
  have e : addT [] t = x := by unfold addT; rw [hx]; simp
  rw [List.foldl_cons, e, fold_sep l x hne (fun t ht => h t (by simp [ht]))]
theorem joinL_sep {l : List Tok} (h : ∀ t ∈ l, RT t) : (joinL l).length ≤ (sep l).length := by
  cases l with
  | nil => simp [joinL]
  | cons t l =>
    obtain ⟨x, _, _, hx, _⟩ := h t (by simp)
    rw [joinL_cons hx h, sep_cons hx]; simp
theorem sep_take (l : List Tok) (k : Nat) : (sep (l.take k)).length ≤ (sep l).length := by
  have : sep l = sep (l.take k) ++ sep (l.drop k) := by unfold sep; rw [← List.flatMap_append, List.take_append_drop]
  rw [this]; simp
def keyT (t : Tok) : Int × ByteArray × Int := (t.k, t.s, t.n)
theorem scan_step {t : Tok} {x rest : List UInt8} (h : RT t) (hx : textT t = some x) (hr : Gap rest) (f at_ : Nat) (acc : List Tok) (ha : acc.length ≠ 4096) :
    scanF (f + 1) (x ++ rest) at_ acc = scanF f rest (at_ + x.length) (acc ++ [⟨t.k, t.s, t.n, at_⟩]) := by
  obtain ⟨x', b, r, hx', hxe, hbl, h35, htok, _⟩ := h
  obtain rfl : x = x' := Option.some.inj (hx.symm.trans hx')
  have h1 := htok rest hr
  subst hxe
  rw [List.cons_append] at h1 ⊢
  rw [scanF_tok f b (r ++ rest) at_ acc hbl h35 _ _ h1 ha]
  have e : (b :: (r ++ rest)).drop (b :: r).length = rest := by rw [← List.cons_append]; exact List.drop_left
  rw [e]
theorem scan_sep : ∀ (l : List Tok) (f at_ : Nat) (acc : List Tok), (∀ t ∈ l, RT t) → (sep l).length ≤ f → acc.length + l.length ≤ 4096 → ∃ m, scanF f (sep l) at_ acc = (acc ++ m, 0, 0) ∧ l.map keyT = m.map keyT := by
  intro l
  induction l with
  | nil => intro f at_ acc _ _ _; exact ⟨[], by rw [show sep [] = [] from rfl, scanF_nil]; simp, rfl⟩
  | cons t l ih =>
    intro f at_ acc h hf hl
    obtain ⟨x, b, r, hx, hxe, hh⟩ := h t (by simp)
    have hRt := h t (by simp)
    rw [sep_cons hx] at hf ⊢
    have hxl : x.length = r.length + 1 := by rw [hxe]; rfl
    simp only [List.length_cons, List.length_append] at hf hl
    obtain ⟨f2, rfl⟩ : ∃ f2, f = f2 + 1 + 1 := ⟨f - 2, by omega⟩
    rw [scanF_blank (f2 + 1) 32 _ _ _ (by decide), scan_step hRt hx (sep_gap l) f2 _ acc (by omega)]
    obtain ⟨m, e1, e2⟩ := ih f2 (at_ + 1 + x.length) (acc ++ [⟨t.k, t.s, t.n, ((at_ + 1 : Nat) : Int)⟩]) (fun t ht => h t (by simp [ht])) (by omega) (by simp; omega)
    refine ⟨⟨t.k, t.s, t.n, ((at_ + 1 : Nat) : Int)⟩ :: m, ?_, ?_⟩
    · rw [e1]; simp
    · rw [List.map_cons, List.map_cons, e2]; rfl
theorem scan_join {l : List Tok} (h : ∀ t ∈ l, RT t) (hl : l.length ≤ 4096) (hsz : (joinL l).length ≤ 32768) : ∃ m, scanL (joinL l) = (m, 0, 0) ∧ l.map keyT = m.map keyT := by
  unfold scanL
  rw [if_neg (by omega)]
  cases l with
  | nil => exact ⟨[], by show scanF 0 [] 0 [] = _; rw [scanF_nil], rfl⟩
  | cons t l =>
    obtain ⟨x, b, r, hx, hxe, hh⟩ := h t (by simp)
    have hRt := h t (by simp)
    rw [joinL_cons hx h]
    have hxl : x.length = r.length + 1 := by rw [hxe]; rfl
    simp only [List.length_cons] at hl
    obtain ⟨f, hf⟩ : ∃ f, (x ++ sep l).length = f + 1 := ⟨(x ++ sep l).length - 1, by rw [List.length_append]; omega⟩
    rw [hf, scan_step hRt hx (sep_gap l) f 0 [] (by simp)]
    rw [List.length_append] at hf
    obtain ⟨m, e1, e2⟩ := scan_sep l f (0 + x.length) ([] ++ [⟨t.k, t.s, t.n, ((0 : Nat) : Int)⟩]) (fun t ht => h t (by simp [ht])) (by omega) (by simp; omega)
    refine ⟨⟨t.k, t.s, t.n, ((0 : Nat) : Int)⟩ :: m, ?_, ?_⟩
    · rw [e1]; simp
    · rw [List.map_cons, List.map_cons, e2]; rfl
theorem key_eq {l m : List Tok} (h : l.map keyT = m.map keyT) : l.length = m.length ∧ ∀ i (h1 : i < l.length) (h2 : i < m.length), eqT l[i] m[i] := by
  refine ⟨by simpa using congrArg List.length h, fun i h1 h2 => ?_⟩
  have h3 : (l.map keyT)[i]? = (m.map keyT)[i]? := by rw [h]
  rw [List.getElem?_map, List.getElem?_map, List.getElem?_eq_getElem h1, List.getElem?_eq_getElem h2] at h3
  simp only [Option.map_some, Option.some.injEq, keyT, Prod.mk.injEq] at h3
  exact h3
/-- The token of a step of the scan reads back. -/
theorem rt_of {b : UInt8} {r : List UInt8} {t : Tk} {n at_ : Nat} (hb : blankC b = false) (h35 : b.toNat ≠ 35) (h : tokAt (b :: r) = .ok t n) : textT ⟨t.k, ⟨t.s.toArray⟩, t.n, at_⟩ = some ((b :: r).take n) ∧ RT ⟨t.k, ⟨t.s.toArray⟩, t.n, at_⟩ := by
  obtain ⟨h1, h2, h3, h4, h5⟩ := tok_back h
  have hp := tokAt_size h
  obtain ⟨k, rfl⟩ : ∃ k, n = k + 1 := ⟨n - 1, by omega⟩
  have hlen : ((b :: r).take (k + 1)).length = k + 1 := by simp at hp ⊢; omega
  refine ⟨h1, (b :: r).take (k + 1), b, r.take k, h1, rfl, hb, h35, fun rest hr => ?_, by show t.s.toArray.size ≤ 32; simpa using h3, h4, h5⟩
  rw [hlen]
  exact h2 rest hr
theorem scanF_rt (Z : Nat) : ∀ (f : Nat) (l : List UInt8) (at_ : Nat) (acc m : List Tok) (n : Nat), scanF f l at_ acc = (m, n, 0) → (∀ t ∈ acc, RT t) → (sep acc).length + 2 * l.length ≤ Z → (∀ t ∈ m, RT t) ∧ (sep m).length ≤ Z := by
  intro f
  induction f with
  | zero =>
    intro l at_ acc m n h ha hz
    simp only [scanF, Prod.mk.injEq] at h
    obtain ⟨rfl, _⟩ := h
    exact ⟨ha, by omega⟩
  | succ f ih =>
    intro l at_ acc m n h ha hz
    rcases l with _ | ⟨b, r⟩
    · simp only [scanF, Prod.mk.injEq] at h
      obtain ⟨rfl, _⟩ := h
      exact ⟨ha, by omega⟩
    · cases hb : blankC b with
      | true =>
        rw [scanF_blank f b r at_ acc hb] at h
        exact ih _ _ _ _ _ h ha (by simp at hz; omega)
      | false =>
        by_cases h35 : b.toNat = 35
        · rw [scanF_com f b r at_ acc h35] at h
          exact ih _ _ _ _ _ h ha (by simp only [List.length_drop]; omega)
        · cases ht : tokAt (b :: r) with
          | err e =>
            rw [scanF_err f b r at_ acc hb h35 e ht] at h
            simp only [Prod.mk.injEq] at h
            have := tokAt_err ht
            omega
          | ok t k =>
            by_cases hl : acc.length = 4096
            · rw [scanF_full f b r at_ acc hb h35 t k ht hl] at h
              simp at h
            · rw [scanF_tok f b r at_ acc hb h35 t k ht hl] at h
              obtain ⟨h1, h2⟩ := rt_of (at_ := at_) hb h35 ht
              have hp := tokAt_size ht
              refine ih _ _ _ _ _ h ?_ ?_
              · intro t' ht'
                rcases List.mem_append.1 ht' with h3 | h3
                · exact ha t' h3
                · rw [List.mem_singleton.1 h3]; exact h2
              · have e : sep (acc ++ [⟨t.k, ⟨t.s.toArray⟩, t.n, at_⟩]) = sep acc ++ 32 :: (b :: r).take k := by
                  unfold sep; rw [List.flatMap_append, List.flatMap_cons, List.flatMap_nil, h1]; simp
                rw [e]
                simp only [List.length_append, List.length_cons, List.length_take, List.length_drop] at hz hp ⊢
                omega
theorem scanL_rt {l : List UInt8} {m : List Tok} {n : Nat} (h : scanL l = (m, n, 0)) : (∀ t ∈ m, RT t) ∧ (sep m).length ≤ 2 * l.length := by
  unfold scanL at h
  split at h
  · simp at h
  · exact scanF_rt _ _ _ _ _ _ _ h (by simp) (by simp [sep])
end Go.Proofs.YtninmolgkkhikaaDoor
