/- Contracts of scanText, scanSign and scanToken of package lexer. -/
import Derived.Test.YtninmolgkkhikaaDoorLc
namespace Go.Proofs.TX
open Go.Lib
/-- The body of a text: the bytes before the next quotation mark. -/
theorem text_split (r : List UInt8) (j : Nat) (h : indexByte r 34 = j) : j < r.length ∧ r = r.take j ++ 34 :: r.drop (j + 1) ∧ ∀ b ∈ r.take j, b ≠ 34 := by
  obtain ⟨h1, h2⟩ := indexByte_some h
  have hj : j < r.length := (List.getElem?_eq_some_iff.1 h1).1
  refine ⟨hj, ?_, ?_⟩
  · have e : r.drop j = 34 :: r.drop (j + 1) := by
      rw [List.drop_eq_getElem_cons hj]
      congr 1
      exact (List.getElem?_eq_some_iff.1 h1).2
    rw [← e, List.take_append_drop]
  · intro b hb e
    obtain ⟨i, hi, hib⟩ := List.mem_iff_getElem.1 hb
    simp only [List.length_take] at hi
    refine h2 i (by omega) ?_
    rw [List.getElem_take] at hib
    rw [List.getElem?_eq_getElem (by omega), hib, e]
theorem text_none (r : List UInt8) (h : indexByte r 34 = -1) : unqt [] r = none := by
  refine unqt_none _ r [] (Nat.le_refl _) fun b hb e => ?_
  obtain ⟨i, hi, hib⟩ := List.mem_iff_getElem.1 hb
  exact indexByte_none h i (by rw [List.getElem?_eq_getElem hi, hib, e])
end Go.Proofs.TX
namespace Go.Proofs.YtninmolgkkhikaaDoor
open Go.RowKit Go.Proofs.EB Go.Proofs.TX
set_option maxHeartbeats 1000000
attribute [local go_sem] World.cell?_alloc_some

/-- What a text token is. -/
def textTk (r : List UInt8) : TR := match unqt [] r with
  | some (t, m) => if t.length ≤ 32 then .ok ⟨3, t, 0⟩ (r.length + 1 - m) else .err 1
  | none => .err 2
theorem textTk_some (r : List UInt8) (j : Nat) (h : Lib.indexByte r 34 = j) : textTk r = match unesc [] (r.take j) with
    | some t => if t.length ≤ 32 then .ok ⟨3, t, 0⟩ (j + 2) else .err 1
    | none => .err 2 := by
  obtain ⟨hj, hr, hne⟩ := text_split r j h
  have hu : unqt [] r = (unesc [] (r.take j)).map fun t => (t, (r.drop (j + 1)).length) := by
    conv => lhs; rw [hr]
    exact unqt_first _ _ _ _ (Nat.le_refl _) hne
  unfold textTk
  rw [hu]
  cases unesc [] (r.take j) with
  | none => rfl
  | some t =>
    simp only [Option.map_some]
    rw [show r.length + 1 - (r.drop (j + 1)).length = j + 2 by rw [List.length_drop]; omega]
theorem parse_text (r : List UInt8) (j : Nat) (h : Lib.indexByte r 34 = j) : parseS ((34 :: r).take (j + 2)) = textR (unesc [] (r.take j)) := by
  obtain ⟨hj, hr, hne⟩ := text_split r j h
  have e : (34 :: r).take (j + 2) = 34 :: (r.take j ++ [34]) := by
    show 34 :: r.take (j + 1) = _
    congr 1
    rw [List.take_succ_eq_append_getElem hj]
    congr 2
    have := (Lib.indexByte_some h).1
    exact (List.getElem?_eq_some_iff.1 this).2
  rw [e]
  have hnull : (34 :: (r.take j ++ [34])) ≠ [110, 117, 108, 108] := by intro e; simp at e
  have hu : unqO (34 :: (r.take j ++ [34])) = (unesc [] (r.take j)).map fun t => (t, 0) := by
    unfold unqO
    rw [if_pos (by simp [Lib.hasPrefix, List.isPrefixOf])]
    exact unqt_first _ (r.take j) [] [] (Nat.le_refl _) hne
  cases hb : unesc [] (r.take j) with
  | none =>
    rw [hb] at hu
    rw [parseS_none hnull hu]
    exact intR_quote _
  | some t =>
    rw [hb] at hu
    rw [parseS_some hnull hu, if_pos rfl]
theorem scanText_any (s : ByteArray) (w : World) (hs : s.size ≤ 1000000) (h0 : 0 < s.size) (h34 : s[0].toNat = 34) (hE : ErrV w) :
    Calls Tryd.prog 76 #[.string s] w (TkPost (textTk (s.data.toList.drop 1)) w) := by
  have hx := extract_toList s 1 h0
  obtain ⟨u1, hu1⟩ : ∃ u : ByteArray, s.extract 1 s.size = u := ⟨_, rfl⟩
  rw [hu1] at hx
  have hl := drop_cons (s := s) (k := 0) h0
  rw [List.drop_zero, u34 h34] at hl
  have hl2 : s.data.toList = 34 :: s.data.toList.drop 1 := hl
  have hsl : s.data.toList.length = s.size := by simp
  have hI : ∀ w, Calls Tryd.prog 93 #[.string u1, .int .u8 34] w fun e w' => e = .returned (.int .i64 (Lib.indexByte (s.data.toList.drop 1) 34)) ∧ w' = w := by
    intro w
    have := Tryd.strings_IndexByte u1 34 w
    rw [hx] at this
    exact this
  have hb0 : Below w.heap.size w (w.alloc (.cells #[.int .i64 0, .string ⟨#[]⟩, .int .i64 0, .int .i64 0] 50)) := (Below.refl _ _).alloc (Nat.le_refl _) _
  have Hb0 := Lib.hid hb0
  have hn0 : (w.alloc (.cells #[.int .i64 0, .string ⟨#[]⟩, .int .i64 0, .int .i64 0] 50)).heap[w.heap.size]? = some (.cells #[.int .i64 0, .string ⟨#[]⟩, .int .i64 0, .int .i64 0] 50) := heap_alloc_new _ _
  have Hn0 := Lib.hid hn0
  clear hb0 hn0
  have HE := Lib.hid hE
  rcases (show Lib.indexByte (s.data.toList.drop 1) 34 = -1 ∨ ∃ j : Nat, Lib.indexByte (s.data.toList.drop 1) 34 = j by
    have := Lib.indexByte_ge (s.data.toList.drop 1) 34
    by_cases h : Lib.indexByte (s.data.toList.drop 1) 34 = -1
    · exact .inl h
    · exact .inr ⟨(Lib.indexByte (s.data.toList.drop 1) 34).toNat, by omega⟩) with hj | ⟨j, hj⟩
  · have hR : textTk (s.data.toList.drop 1) = .err 2 := by unfold textTk; rw [text_none _ hj]
    rw [hR]
    rw [hj] at hI
    have HI := Lib.hid hI
    clear hI hR hj hl hl2 hx hE h34
    go_enter Tryd.func76, Tryd.ntmps76
    go_wp2_with fail
    refine (HI.out _).mono ?_
    rintro e w' ⟨rfl, rfl⟩
    go_wp2_with fail
    refine bodyPost_ret (v := .tuple #[.agg #[.int .i64 0, .string ⟨#[]⟩, .int .i64 0, .int .i64 0], .int .i64 0, .int .i64 2]) (by simp [results, Tryd.results76, go_sem]) rfl ?_
    exact tkPost_err Hb0.out rfl
  · have hR := textTk_some _ j hj
    have hP := parse_text _ j hj
    rw [← hl2] at hP
    have hjl := (text_split _ j hj).1
    rw [List.length_drop] at hjl
    have hj2 : j + 2 ≤ s.size := by omega
    rw [hR]
    rw [hj] at hI
    have HI := Lib.hid hI
    obtain ⟨u, hu⟩ : ∃ u, s.extract 0 (j + 2) = u := ⟨_, rfl⟩
    cases hb : unesc [] ((s.data.toList.drop 1).take j) with
    | none =>
      rw [hb] at hP
      have HP := Lib.hid (parse_head s (j + 2) hs u hu 0 0 2 ⟨#[]⟩ hP)
      clear hI hR hj hl hl2 hx hE h34 hP hb hjl hsl
      go_enter Tryd.func76, Tryd.ntmps76
      go_wp2_with fail
      refine (HI.out _).mono ?_
      rintro e w' ⟨rfl, rfl⟩
      go_wp2_with fail
      refine (HP.out _ (err_below HE.out Hb0.out)).mono ?_
      rintro e w1 ⟨rfl, hb1⟩
      have hb2 := Hb0.out.trans (hb1.mono (by simp))
      have hn1 := (hb1.block _ (by simp)).trans Hn0.out
      obtain ⟨c0, c1, c2, c3, _, _, _, _⟩ := box4 hn1
      have hs2 := hb2.size
      have hlt1 := (Array.getElem?_eq_some_iff.1 hn1).1
      have Hc := Lib.hid hn1
      clear hb1 hn1
      go_wp2_with fail
      obtain ⟨e0, e1, e2, e3⟩ := filled Hc.out (.int .i64 0) (.string ⟨#[]⟩) (.int .i64 0) (.int .i64 0) (.cells #[.int .i64 0, .int .i64 0, .string ⟨#[]⟩] 24)
      refine bodyPost_ret (v := .tuple #[.agg #[.int .i64 0, .string ⟨#[]⟩, .int .i64 0, .int .i64 0], .int .i64 0, .int .i64 2]) (by simp [results, Tryd.results76, go_sem, e0, e1, e2, e3]) rfl ?_
      exact tkPost_err ((set4 hb2 (Nat.le_refl _) _ _ _ _).alloc (by simp; omega) _) rfl
    | some t =>
      rw [hb] at hP
      by_cases h32 : t.length ≤ 32
      · rw [textR_ok h32] at hP
        simp only [h32, if_true]
        obtain ⟨tt, htt⟩ : ∃ tt : ByteArray, tt = ⟨t.toArray⟩ := ⟨_, rfl⟩
        rw [← htt] at hP
        have HP := Lib.hid (parse_head s (j + 2) hs u hu 2 0 0 tt hP)
        have Htt := Lib.hid htt
        clear hI hR hj hl hl2 hx hE h34 hP hb hjl hsl h32 htt
        go_enter Tryd.func76, Tryd.ntmps76
        go_wp2_with fail
        refine (HI.out _).mono ?_
        rintro e w' ⟨rfl, rfl⟩
        go_wp2_with fail
        refine (HP.out _ (err_below HE.out Hb0.out)).mono ?_
        rintro e w1 ⟨rfl, hb1⟩
        have hb2 := Hb0.out.trans (hb1.mono (by simp))
        have hn1 := (hb1.block _ (by simp)).trans Hn0.out
        obtain ⟨c0, c1, c2, c3, _, _, _, _⟩ := box4 hn1
        have hs2 := hb2.size
        have hlt1 := (Array.getElem?_eq_some_iff.1 hn1).1
        have Hc := Lib.hid hn1
        clear hb1 hn1
        go_wp2_with fail
        obtain ⟨e0, e1, e2, e3⟩ := filled Hc.out (.int .i64 3) (.string tt) (.int .i64 0) (.int .i64 0) (.cells #[.int .i64 2, .int .i64 0, .string tt] 24)
        refine bodyPost_ret (v := .tuple #[.agg #[.int .i64 3, .string tt, .int .i64 0, .int .i64 0], .int .i64 ((j : Int) + 2), .int .i64 0]) (by simp [results, Tryd.results76, go_sem, e0, e1, e2, e3]) rfl ?_
        exact tkPost_ok (n := j + 2) ((set4 hb2 (Nat.le_refl _) _ _ _ _).alloc (by simp; omega) _) Htt.out (by rfl)
      · rw [textR_long h32] at hP
        simp only [h32, if_false]
        have HP := Lib.hid (parse_head s (j + 2) hs u hu 0 0 1 ⟨#[]⟩ hP)
        clear hI hR hj hl hl2 hx hE h34 hP hb hjl hsl h32
        go_enter Tryd.func76, Tryd.ntmps76
        go_wp2_with fail
        refine (HI.out _).mono ?_
        rintro e w' ⟨rfl, rfl⟩
        go_wp2_with fail
        refine (HP.out _ (err_below HE.out Hb0.out)).mono ?_
        rintro e w1 ⟨rfl, hb1⟩
        have hb2 := Hb0.out.trans (hb1.mono (by simp))
        have hn1 := (hb1.block _ (by simp)).trans Hn0.out
        obtain ⟨c0, c1, c2, c3, _, _, _, _⟩ := box4 hn1
        have hs2 := hb2.size
        have hlt1 := (Array.getElem?_eq_some_iff.1 hn1).1
        have Hc := Lib.hid hn1
        clear hb1 hn1
        go_wp2_with fail
        obtain ⟨e0, e1, e2, e3⟩ := filled Hc.out (.int .i64 0) (.string ⟨#[]⟩) (.int .i64 0) (.int .i64 0) (.cells #[.int .i64 0, .int .i64 0, .string ⟨#[]⟩] 24)
        refine bodyPost_ret (v := .tuple #[.agg #[.int .i64 0, .string ⟨#[]⟩, .int .i64 0, .int .i64 0], .int .i64 0, .int .i64 1]) (by simp [results, Tryd.results76, go_sem, e0, e1, e2, e3]) rfl ?_
        exact tkPost_err ((set4 hb2 (Nat.le_refl _) _ _ _ _).alloc (by simp; omega) _) rfl
end Go.Proofs.YtninmolgkkhikaaDoor
