/- Contracts of signSize, scanSign and scanToken of package lexer. -/
import Derived.Test.YtninmolgkkhikaaDoorLd
namespace Go.Proofs.YtninmolgkkhikaaDoor
open Go.RowKit Go.Proofs.EB Go.Proofs.TX
set_option maxHeartbeats 1000000
attribute [local go_sem] World.cell?_alloc_some

theorem signSize_any (s : ByteArray) (w : World) :
    Calls Tryd.prog 78 #[.string s] w fun e w' => e = .returned (.int .i64 (signN s.data.toList : Nat)) ∧ w' = w := by
  obtain ⟨R, hR⟩ : ∃ R : Nat, R = signN s.data.toList := ⟨_, rfl⟩
  rw [← hR]
  have hP : ∀ w, Calls Tryd.prog 35 #[.string s, .string ⟨#[43, 43]⟩] w fun e w' => e = .returned (.bool (Lib.hasPrefix s.data.toList [43, 43])) ∧ w' = w := Tryd.strings_HasPrefix s ⟨#[43, 43]⟩
  have hQ : ∀ w, Calls Tryd.prog 35 #[.string s, .string ⟨#[60, 61]⟩] w fun e w' => e = .returned (.bool (Lib.hasPrefix s.data.toList [60, 61])) ∧ w' = w := Tryd.strings_HasPrefix s ⟨#[60, 61]⟩
  cases h1 : Lib.hasPrefix s.data.toList [43, 43]
  · cases h2 : Lib.hasPrefix s.data.toList [60, 61]
    · rw [h1] at hP
      rw [h2] at hQ
      rw [signN_one' _ h1 h2] at hR
      have HP := Lib.hid hP
      have HQ := Lib.hid hQ
      clear hP hQ h1 h2
      by_cases h0 : s.size = 0
      · have z1 := strEmpty h0
        have hnil : s.data.toList = [] := List.eq_nil_of_length_eq_zero (by simpa using h0)
        rw [hnil] at hR
        have HR := Lib.hid hR
        clear hR hnil h0
        go_enter Tryd.func78, Tryd.ntmps78
        go_wp2_with fail
        refine (HP.out _).mono ?_
        rintro e w' ⟨rfl, rfl⟩
        go_wp2_with fail
        refine (HQ.out _).mono ?_
        rintro e w' ⟨rfl, rfl⟩
        go_wp2_with fail
        go_ret
        exact ⟨by rw [HR.out]; rfl, rfl⟩
      · have z1 := strNonempty (s := s) (by omega)
        have hpos : 0 < s.size := by omega
        have hl := drop_cons (s := s) (k := 0) hpos
        rw [List.drop_zero] at hl
        rw [hl] at hR
        simp only [sign0] at hR
        have hidx := sign1_idx s[0]
        have hI : ∀ w, Calls Tryd.prog 93 #[.string ⟨#[40, 41, 44, 46, 59, 43, 45, 42, 47, 61, 60]⟩, .int .u8 (s[0].toNat : Int)] w fun e w' => e = .returned (.int .i64 (Lib.indexByte (⟨#[40, 41, 44, 46, 59, 43, 45, 42, 47, 61, 60]⟩ : ByteArray).data.toList s[0])) ∧ w' = w := by
          intro w
          have := Tryd.strings_IndexByte ⟨#[40, 41, 44, 46, 59, 43, 45, 42, 47, 61, 60]⟩ (s[0].toNat : Int) w
          rw [show ((s[0].toNat : Int)).toNat.toUInt8 = s[0] by simp] at this
          exact this
        generalize Lib.indexByte (⟨#[40, 41, 44, 46, 59, 43, 45, 42, 47, 61, 60]⟩ : ByteArray).data.toList s[0] = j at *
        have HI := Lib.hid hI
        cases hs1 : sign1 s[0]
        · rw [hs1] at hR hidx
          have z2 : decide ((0 : Int) ≤ j) = false := by simpa using hidx
          have HR : Hid (R = 0) := hR
          clear hR hidx hs1 hI hl h0
          go_enter Tryd.func78, Tryd.ntmps78
          go_wp2_with fail
          refine (HP.out _).mono ?_
          rintro e w' ⟨rfl, rfl⟩
          go_wp2_with fail
          refine (HQ.out _).mono ?_
          rintro e w' ⟨rfl, rfl⟩
          go_wp2_with fail
          refine (HI.out _).mono ?_
          rintro e w' ⟨rfl, rfl⟩
          go_wp2_with fail
          go_ret
          exact ⟨by rw [HR.out]; rfl, rfl⟩
        · rw [hs1] at hR hidx
          have z2 : decide ((0 : Int) ≤ j) = true := by simpa using hidx
          have HR : Hid (R = 1) := hR
          clear hR hidx hs1 hI hl h0
          go_enter Tryd.func78, Tryd.ntmps78
          go_wp2_with fail
          refine (HP.out _).mono ?_
          rintro e w' ⟨rfl, rfl⟩
          go_wp2_with fail
          refine (HQ.out _).mono ?_
          rintro e w' ⟨rfl, rfl⟩
          go_wp2_with fail
          refine (HI.out _).mono ?_
          rintro e w' ⟨rfl, rfl⟩
          go_wp2_with fail
          go_ret
          exact ⟨by rw [HR.out]; rfl, rfl⟩
    · rw [h1] at hP
      rw [h2] at hQ
      have HR : Hid (R = 2) := hR.trans (signN_two' _ (.inr h2))
      have HP := Lib.hid hP
      have HQ := Lib.hid hQ
      clear hP hQ h1 h2 hR
      go_enter Tryd.func78, Tryd.ntmps78
      go_wp2_with fail
      refine (HP.out _).mono ?_
      rintro e w' ⟨rfl, rfl⟩
      go_wp2_with fail
      refine (HQ.out _).mono ?_
      rintro e w' ⟨rfl, rfl⟩
      go_wp2_with fail
      go_ret
      exact ⟨by rw [HR.out]; rfl, rfl⟩
  · rw [h1] at hP
    have HR : Hid (R = 2) := hR.trans (signN_two' _ (.inl h1))
    have HP := Lib.hid hP
    clear hP hQ h1 hR
    go_enter Tryd.func78, Tryd.ntmps78
    go_wp2_with fail
    refine (HP.out _).mono ?_
    rintro e w' ⟨rfl, rfl⟩
    go_wp2_with fail
    go_ret
    exact ⟨by rw [HR.out]; rfl, rfl⟩
theorem scanSign_any (s : ByteArray) (w : World) (hs : s.size ≤ 1000000) :
    Calls Tryd.prog 77 #[.string s] w (TkPost (if signN s.data.toList = 0 then .err 2 else .ok ⟨4, s.data.toList.take (signN s.data.toList), 0⟩ (signN s.data.toList)) w) := by
  have hrun := fun w => signSize_any s w
  have hle := (signN_le s.data.toList).1
  have hsl : s.data.toList.length = s.size := by simp
  generalize signN s.data.toList = n at *
  have hb0 : Below w.heap.size w (w.alloc (.cells #[.int .i64 0, .string ⟨#[]⟩, .int .i64 0, .int .i64 0] 50)) := (Below.refl _ _).alloc (Nat.le_refl _) _
  have Hb0 := Lib.hid hb0
  have hn0 : (w.alloc (.cells #[.int .i64 0, .string ⟨#[]⟩, .int .i64 0, .int .i64 0] 50)).heap[w.heap.size]? = some (.cells #[.int .i64 0, .string ⟨#[]⟩, .int .i64 0, .int .i64 0] 50) := heap_alloc_new _ _
  have Hn0 := Lib.hid hn0
  clear hb0 hn0
  have Hrun := Lib.hid hrun
  have hns : n ≤ s.size := by omega
  clear hrun hle hsl
  by_cases h0 : n = 0
  · rw [if_pos h0]
    have z1 : ((n : Int) == 0) = true := by simp [h0]
    clear h0
    go_enter Tryd.func77, Tryd.ntmps77
    go_wp2_with fail
    refine (Hrun.out _).mono ?_
    rintro e w' ⟨rfl, rfl⟩
    go_wp2_with fail
    refine bodyPost_ret (v := .tuple #[.agg #[.int .i64 0, .string ⟨#[]⟩, .int .i64 0, .int .i64 0], .int .i64 0, .int .i64 2]) (by simp [results, Tryd.results77, go_sem]) rfl ?_
    exact tkPost_err Hb0.out rfl
  · have z1 : ((n : Int) == 0) = false := by rw [beq_eq_false_iff_ne]; omega
    rw [if_neg h0]
    have hx := extract_head s n
    obtain ⟨u, hu⟩ : ∃ u, s.extract 0 n = u := ⟨_, rfl⟩
    have Hcl := Lib.hid (clone_head s n hs u hu)
    have Hu : Hid (u = ⟨(s.data.toList.take n).toArray⟩) := hu.symm.trans hx
    clear hx h0
    go_enter Tryd.func77, Tryd.ntmps77
    go_wp2_with fail
    refine (Hrun.out _).mono ?_
    rintro e w' ⟨rfl, rfl⟩
    go_wp2_with fail
    refine (Hcl.out _).mono ?_
    rintro e w1 ⟨rfl, hb1⟩
    obtain ⟨c0, c1, c2, c3, _, _, _, _⟩ := box4 ((hb1.block _ (by simp)).trans Hn0.out)
    have hb2 := Hb0.out.trans (hb1.mono (by simp))
    clear hb1
    go_wp2_with fail
    refine bodyPost_ret (v := .tuple #[.agg #[.int .i64 4, .string u, .int .i64 0, .int .i64 0], .int .i64 n, .int .i64 0]) (by simp [results, Tryd.results77, go_sem, c0, c1, c2, c3]) rfl ?_
    exact tkPost_ok (set4 hb2 (Nat.le_refl _) _ _ _ _) Hu.out rfl
/-- A token's result, handed on. -/
theorem tkPost_shape {r : TR} {w w' : World} {e : Ending} (h : TkPost r w e w') : ∃ (k n size c : Int) (u : ByteArray), e = .returned (.tuple #[.agg #[.int .i64 k, .string u, .int .i64 n, .int .i64 0], .int .i64 size, .int .i64 c]) ∧ Below w.heap.size w w' ∧
    ∀ (w0 : World) (e' : Ending) (w'' : World), Below w0.heap.size w0 w'' → e' = .returned (.tuple #[.agg #[.int .i64 k, .string u, .int .i64 n, .int .i64 0], .int .i64 size, .int .i64 c]) → TkPost r w0 e' w'' := by
  cases r with
  | err c => exact ⟨0, 0, 0, c, ⟨#[]⟩, h.2, h.1, fun _ _ _ hb he => ⟨hb, he⟩⟩
  | ok t n => exact ⟨t.k, t.n, n, 0, ⟨t.s.toArray⟩, h.2, h.1, fun _ _ _ hb he => ⟨hb, he⟩⟩
theorem scanToken_any (s : ByteArray) (w : World) (hs : s.size ≤ 1000000) (h0 : 0 < s.size) (hE : ErrV w) :
    Calls Tryd.prog 56 #[.string s] w (TkPost (tokAt s.data.toList) w) := by
  have hl := drop_cons (s := s) (k := 0) h0
  rw [List.drop_zero] at hl
  have hT : tokAt s.data.toList = if letB s[0] = true then (if runC nameC s.data.toList ≤ 16 then .ok ⟨1, s.data.toList.take (runC nameC s.data.toList), 0⟩ (runC nameC s.data.toList) else .err 1)
    else if digB s[0] = true then
      (if isDec (s.data.toList.take (runC digB s.data.toList)) = true then (if valD (s.data.toList.take (runC digB s.data.toList)) ≤ 4294967296 then .ok ⟨2, [], valD (s.data.toList.take (runC digB s.data.toList))⟩ (runC digB s.data.toList) else .err 1) else .err 2)
    else if s[0].toNat = 34 then textTk (s.data.toList.drop 1)
    else if signN s.data.toList = 0 then .err 2 else .ok ⟨4, s.data.toList.take (signN s.data.toList), 0⟩ (signN s.data.toList) := by
    conv => lhs; rw [hl]
    unfold tokAt
    simp only
    rw [← hl]
    have e1 : s.data.toList.length = (s.data.toList.drop 1).length + 1 := by have := congrArg List.length hl; simpa using this
    unfold textTk
    rw [e1]
    rfl
  have hdrun : digB s[0] = true → 0 < runC digB s.data.toList := fun h => by rw [hl, runC, if_pos h]; omega
  have hL := isLetter_any s[0]
  have hD := isDigit_any s[0]
  have hA1 := fun w => scanName_any s w hs
  have hA2 := fun w hn hE => scanNumber_any s w hs hn hE
  have hA3 := fun w h34 hE => scanText_any s w hs h0 h34 hE
  have hA4 := fun w => scanSign_any s w hs
  have hb0 : Below w.heap.size w (w.alloc (.cells #[.int .i64 0, .string ⟨#[]⟩, .int .i64 0, .int .i64 0] 50)) := (Below.refl _ _).alloc (Nat.le_refl _) _
  have Hb0 := Lib.hid hb0
  have hn0 : (w.alloc (.cells #[.int .i64 0, .string ⟨#[]⟩, .int .i64 0, .int .i64 0] 50)).heap[w.heap.size]? = some (.cells #[.int .i64 0, .string ⟨#[]⟩, .int .i64 0, .int .i64 0] 50) := heap_alloc_new _ _
  have Hn0 := Lib.hid hn0
  clear hb0 hn0
  have HE := Lib.hid hE
  clear hl hE
  cases h1 : letB s[0]
  · rw [h1] at hL
    have HL := Lib.hid hL
    rw [h1] at hT
    simp only [Bool.false_eq_true, if_false] at hT
    cases h2 : digB s[0]
    · rw [h2] at hD
      have HD := Lib.hid hD
      rw [h2] at hT
      simp only [Bool.false_eq_true, if_false] at hT
      by_cases h3 : s[0].toNat = 34
      · rw [if_pos h3] at hT
        rw [hT]
        have z : ((s[0].toNat : Int) == 34) = true := by simp [h3]
        have H := Lib.hid (fun w hE => hA3 w h3 hE)
        clear hA1 hA2 hA3 hA4 hT h1 h2 h3 hL hD hdrun
        generalize textTk (s.data.toList.drop 1) = r at *
        go_enter Tryd.func56, Tryd.ntmps56
        go_wp2_with fail
        refine (HL.out _).mono ?_
        rintro e w' ⟨rfl, rfl⟩
        go_wp2_with fail
        refine (HD.out _).mono ?_
        rintro e w' ⟨rfl, rfl⟩
        go_wp2_with fail
        refine (H.out _ (err_below HE.out Hb0.out)).mono ?_
        intro e w1 hp
        obtain ⟨k, n, size, c, u, rfl, hb1, hfin⟩ := tkPost_shape hp
        have HF := Lib.hid hfin
        obtain ⟨c0, c1, c2, c3, _, _, _, _⟩ := box4 ((hb1.block _ (by simp)).trans Hn0.out)
        have hb2 := Hb0.out.trans (hb1.mono (by simp))
        clear hb1 hfin hp
        go_wp2_with fail
        refine bodyPost_ret (v := .tuple #[.agg #[.int .i64 k, .string u, .int .i64 n, .int .i64 0], .int .i64 size, .int .i64 c]) (by simp [results, Tryd.results56, go_sem, c0, c1, c2, c3]) rfl ?_
        exact HF.out _ _ _ (set4 hb2 (Nat.le_refl _) _ _ _ _) rfl
      · rw [if_neg h3] at hT
        rw [hT]
        have z : ((s[0].toNat : Int) == 34) = false := by rw [beq_eq_false_iff_ne]; omega
        have H := Lib.hid hA4
        clear hA1 hA2 hA3 hA4 hT h1 h2 h3 hL hD hdrun
        generalize (if signN s.data.toList = 0 then TR.err 2 else .ok ⟨4, s.data.toList.take (signN s.data.toList), 0⟩ (signN s.data.toList)) = r at *
        go_enter Tryd.func56, Tryd.ntmps56
        go_wp2_with fail
        refine (HL.out _).mono ?_
        rintro e w' ⟨rfl, rfl⟩
        go_wp2_with fail
        refine (HD.out _).mono ?_
        rintro e w' ⟨rfl, rfl⟩
        go_wp2_with fail
        refine (H.out _).mono ?_
        intro e w1 hp
        obtain ⟨k, n, size, c, u, rfl, hb1, hfin⟩ := tkPost_shape hp
        have HF := Lib.hid hfin
        obtain ⟨c0, c1, c2, c3, _, _, _, _⟩ := box4 ((hb1.block _ (by simp)).trans Hn0.out)
        have hb2 := Hb0.out.trans (hb1.mono (by simp))
        clear hb1 hfin hp
        go_wp2_with fail
        refine bodyPost_ret (v := .tuple #[.agg #[.int .i64 k, .string u, .int .i64 n, .int .i64 0], .int .i64 size, .int .i64 c]) (by simp [results, Tryd.results56, go_sem, c0, c1, c2, c3]) rfl ?_
        exact HF.out _ _ _ (set4 hb2 (Nat.le_refl _) _ _ _ _) rfl
    · rw [h2] at hD
      have HD := Lib.hid hD
      rw [h2] at hT
      simp only [if_true] at hT
      rw [hT]
      have H := Lib.hid (fun w hE => hA2 w (hdrun h2) hE)
      clear hA1 hA2 hA3 hA4 hT h1 h2 hL hD hdrun
      generalize (if isDec (s.data.toList.take (runC digB s.data.toList)) = true then (if valD (s.data.toList.take (runC digB s.data.toList)) ≤ 4294967296 then TR.ok ⟨2, [], valD (s.data.toList.take (runC digB s.data.toList))⟩ (runC digB s.data.toList) else .err 1) else .err 2) = r at *
      go_enter Tryd.func56, Tryd.ntmps56
      go_wp2_with fail
      refine (HL.out _).mono ?_
      rintro e w' ⟨rfl, rfl⟩
      go_wp2_with fail
      refine (HD.out _).mono ?_
      rintro e w' ⟨rfl, rfl⟩
      go_wp2_with fail
      refine (H.out _ (err_below HE.out Hb0.out)).mono ?_
      intro e w1 hp
      obtain ⟨k, n, size, c, u, rfl, hb1, hfin⟩ := tkPost_shape hp
      have HF := Lib.hid hfin
      obtain ⟨c0, c1, c2, c3, _, _, _, _⟩ := box4 ((hb1.block _ (by simp)).trans Hn0.out)
      have hb2 := Hb0.out.trans (hb1.mono (by simp))
      clear hb1 hfin hp
      go_wp2_with fail
      refine bodyPost_ret (v := .tuple #[.agg #[.int .i64 k, .string u, .int .i64 n, .int .i64 0], .int .i64 size, .int .i64 c]) (by simp [results, Tryd.results56, go_sem, c0, c1, c2, c3]) rfl ?_
      exact HF.out _ _ _ (set4 hb2 (Nat.le_refl _) _ _ _ _) rfl
  · rw [h1] at hL
    have HL := Lib.hid hL
    rw [h1] at hT
    simp only [if_true] at hT
    rw [hT]
    have H := Lib.hid hA1
    clear hA1 hA2 hA3 hA4 hT h1 hL hD hdrun
    generalize (if runC nameC s.data.toList ≤ 16 then TR.ok ⟨1, s.data.toList.take (runC nameC s.data.toList), 0⟩ (runC nameC s.data.toList) else .err 1) = r at *
    go_enter Tryd.func56, Tryd.ntmps56
    go_wp2_with fail
    refine (HL.out _).mono ?_
    rintro e w' ⟨rfl, rfl⟩
    go_wp2_with fail
    refine (H.out _).mono ?_
    intro e w1 hp
    obtain ⟨k, n, size, c, u, rfl, hb1, hfin⟩ := tkPost_shape hp
    have HF := Lib.hid hfin
    obtain ⟨c0, c1, c2, c3, _, _, _, _⟩ := box4 ((hb1.block _ (by simp)).trans Hn0.out)
    have hb2 := Hb0.out.trans (hb1.mono (by simp))
    clear hb1 hfin hp
    go_wp2_with fail
    refine bodyPost_ret (v := .tuple #[.agg #[.int .i64 k, .string u, .int .i64 n, .int .i64 0], .int .i64 size, .int .i64 c]) (by simp [results, Tryd.results56, go_sem, c0, c1, c2, c3]) rfl ?_
    exact HF.out _ _ _ (set4 hb2 (Nat.le_refl _) _ _ _ _) rfl
end Go.Proofs.YtninmolgkkhikaaDoor
