/- The walk of the law LexerNames. -/
import Derived.Test.YtninmolgkkhikaaDoorLi
import Derived.Test.YtninmolgkkhikaaDoorLj
import Derived.Test.YtninmolgkkhikaaDoorLl
namespace Go.Proofs.YtninmolgkkhikaaDoor
open Go.RowKit Go.Proofs.EB Go.Proofs.TX
set_option maxHeartbeats 2000000
attribute [local go_sem] World.cell?_alloc_some
/-- The walk behind the choice of the first string. -/
theorem names_walk (ao : Option Addr) (len cap : Nat) (zs : List Int) (s s' : ByteArray) (w : World) (h : IntsAt w ao len cap zs) (hE : ErrV w) (hs' : s'.size ≤ 1000)
    (hz : (decide ((200 : Int) < (s.size : Int)) = false ∧ s' = s) ∨ (decide ((200 : Int) < (s.size : Int)) = true ∧ s' = ⟨#[]⟩)) :
    Calls Tryd.prog 6 #[.slice ao len cap, .string s] w fun e w' => e = .returned (.bool true) ∧ Below w.heap.size w w' := by
  have HE := Lib.hid hE
  clear hE
  rcases hz with ⟨z, hz⟩ | ⟨z, hz⟩
  · subst hz
    go_enter Tryd.func6, Tryd.ntmps6
    go_wp2_with fail
    refine (new_any _ _ _ _ _ h).mono ?_
    rintro e w1 ⟨g, rfl, hg, hT, hb1⟩
    have hB1 := hb1.size
    generalize hBd : w1.heap.size = B at *
    have hTk : Took w1 B g w1 := ⟨hT, away_refl _ _, by omega⟩
    have HTk := Lib.hid hTk
    have Hb1 := Lib.hid hb1
    have Hal : ∀ wr, Took w1 B g wr → Below w.heap.size w wr := fun wr hk => Hb1.out.trans (hk.2.1.below (by omega) (fun k hk => by simp at hk; omega))
    have HAl := Lib.hid Hal
    clear hT h hTk hBd hb1 Hal
    go_wp2_with fail
    refine (name_any B g w1 HTk.out.1 HTk.out.2.2).mono ?_
    rintro e w2 ⟨t1, rfl, ht1, hK2⟩
    have H2 := Lib.hid (HTk.out.trans hK2)
    clear hK2
    go_wp2_with fail
    refine (name_any B g w2 H2.out.1 H2.out.2.2).mono ?_
    rintro e w3 ⟨t2, rfl, ht2, hK3⟩
    have H3 := Lib.hid (H2.out.trans hK3)
    clear hK3
    go_wp2_with fail
    refine (edit_any B g t2 w3 (by omega) H3.out.1 H3.out.2.2).mono ?_
    rintro e w4 ⟨t3, rfl, ht3, hK4⟩
    have H4 := Lib.hid (H3.out.trans hK4)
    clear hK4
    go_wp2_with fail
    refine (name_any B g w4 H4.out.1 H4.out.2.2).mono ?_
    rintro e w5 ⟨u1, rfl, hu1, hK5⟩
    have H5 := Lib.hid (H4.out.trans hK5)
    clear hK5
    go_wp2_with fail
    refine (name_any B g w5 H5.out.1 H5.out.2.2).mono ?_
    rintro e w6 ⟨u2, rfl, hu2, hK6⟩
    have H6 := Lib.hid (H5.out.trans hK6)
    clear hK6
    go_wp2_with fail
    refine (name_any B g w6 H6.out.1 H6.out.2.2).mono ?_
    rintro e w7 ⟨u3, rfl, hu3, hK7⟩
    have H7 := Lib.hid (H6.out.trans hK7)
    clear hK7
    go_wp2_with fail
    refine (name_any B g w7 H7.out.1 H7.out.2.2).mono ?_
    rintro e w8 ⟨u4, rfl, hu4, hK8⟩
    have H8 := Lib.hid (H7.out.trans hK8)
    clear hK8
    go_wp2_with fail
    refine (name_any B g w8 H8.out.1 H8.out.2.2).mono ?_
    rintro e w9 ⟨u5, rfl, hu5, hK9⟩
    have H9 := Lib.hid (H8.out.trans hK9)
    clear hK9 H2 H3 H4 H5 H6 H7 H8
    obtain ⟨u9, hu9⟩ : ∃ u, u = u1 ++ u2 ++ u3 ++ u4 ++ u5 := ⟨_, rfl⟩
    have hu9s : u9.size ≤ 1000 := by rw [hu9]; simp; omega
    have hu9' := hu9.symm
    clear hu9
    have hn9 : (w9.alloc (.cells #[.string s', .string t1, .string t3, .string u9] 9)).heap[w9.heap.size]? = some (.cells #[.string s', .string t1, .string t3, .string u9] 9 (0, 0)) := heap_alloc_new _ _
    have Hn9 := Lib.hid hn9
    have hTk10 := H9.out.below ((Below.refl _ _).alloc (Nat.le_refl _) (.cells #[.string s', .string t1, .string t3, .string u9] 9))
    have HT10 := Lib.hid hTk10
    have hstr : ∀ k, k < 4 → ∃ u : ByteArray, (#[.string s', .string t1, .string t3, .string u9] : Array Value)[k]? = some (.string u) ∧ u.size ≤ 1000000 := by
      intro k hk
      match k, hk with
      | 0, _ => exact ⟨s', rfl, by first | omega | simp [ByteArray.size]⟩
      | 1, _ => exact ⟨t1, rfl, by omega⟩
      | 2, _ => exact ⟨t3, rfl, by omega⟩
      | 3, _ => exact ⟨u9, rfl, by omega⟩
      | n + 4, h => omega
    have Hstr := Lib.hid hstr
    clear hn9 hTk10 hstr
    go_wp2_with fail
    try rw [hu9']
    have hsz9 : (w9.alloc (.cells #[.string s', .string t1, .string t3, .string u9] 9)).heap.size = w9.heap.size + 1 := by simp
    generalize w9.alloc (.cells #[.string s', .string t1, .string t3, .string u9] 9) = wb at *
    generalize hcs : (#[.string s', .string t1, .string t3, .string u9] : Array Value) = cs at *
    have Hsz9 := Lib.hid hsz9
    clear hcs hu9' hsz9 z
    go_loopw [7] (fun i wr => ∃ k : Nat, k ≤ 4 ∧ i = .int .i64 k ∧ Hid (Below wb.heap.size wb wr)) (fun i _ => 4 - (intOf i).toNat)
    case atStart => exact ⟨0, by omega, rfl, Below.refl _ _⟩
    case round =>
      obtain ⟨k, hk, rfl, hbl⟩ := hrel
      by_cases hlt : k < 4
      · obtain ⟨u, hcu, hus⟩ := Hstr.out k hlt
        have m1 := (hbl.out.block w9.heap.size (by rw [Hsz9.out]; omega)).trans Hn9.out
        have d0 := (cell_of_row wr w9.heap.size k _ _ _ m1).trans hcu
        have hki : (k : Int) < 4 := by omega
        have hki0 : (0 : Int) ≤ (k : Int) := by omega
        have Hus := Lib.hid hus
        clear m1 hcu hus
        obtain ⟨b, hb⟩ : ∃ b, b = nameB u.data.toList := ⟨_, rfl⟩
        have hP := fun w => isName_any u w Hus.out
        have hQ := fun w => risName_any u w Hus.out
        rw [← hb] at hP hQ
        have HP := Lib.hid hP
        have HQ := Lib.hid hQ
        have hbb : (b != b) = false := by cases b <;> rfl
        clear hP hQ hb
        go_wp2_with fail
        go_quiet (((first | (go_at_call 23; exact Calls.quiet_of_same (HP.out _)) | (go_at_call 24; exact Calls.quiet_of_same (HQ.out _)))))
        go_wp2_with fail
        go_roundw
        case rel => exact ⟨k + 1, by omega, by go_num, hbl.out.trans ⟨rfl, rfl, rfl, Nat.le_refl _, fun _ _ => rfl⟩⟩
        case measure => simp [intOf]; omega
      · have hk4 : ¬ (k : Int) < 4 := by omega
        have hfin : Below w.heap.size w wr := (HAl.out _ HT10.out).trans (hbl.out.mono (HAl.out _ HT10.out).size)
        have Hfin := Lib.hid hfin
        clear hfin
        go_wp2_with fail
        refine (lawake_any _ (err_below HE.out Hfin.out)).mono ?_
        rintro e w10 ⟨rfl, hb10⟩
        go_wp2_with fail
        go_ret
        exact ⟨rfl, Hfin.out.trans (hb10.mono Hfin.out.size)⟩
  · subst hz
    go_enter Tryd.func6, Tryd.ntmps6
    go_wp2_with fail
    refine (new_any _ _ _ _ _ h).mono ?_
    rintro e w1 ⟨g, rfl, hg, hT, hb1⟩
    have hB1 := hb1.size
    generalize hBd : w1.heap.size = B at *
    have hTk : Took w1 B g w1 := ⟨hT, away_refl _ _, by omega⟩
    have HTk := Lib.hid hTk
    have Hb1 := Lib.hid hb1
    have Hal : ∀ wr, Took w1 B g wr → Below w.heap.size w wr := fun wr hk => Hb1.out.trans (hk.2.1.below (by omega) (fun k hk => by simp at hk; omega))
    have HAl := Lib.hid Hal
    clear hT h hTk hBd hb1 Hal
    go_wp2_with fail
    refine (name_any B g w1 HTk.out.1 HTk.out.2.2).mono ?_
    rintro e w2 ⟨t1, rfl, ht1, hK2⟩
    have H2 := Lib.hid (HTk.out.trans hK2)
    clear hK2
    go_wp2_with fail
    refine (name_any B g w2 H2.out.1 H2.out.2.2).mono ?_
    rintro e w3 ⟨t2, rfl, ht2, hK3⟩
    have H3 := Lib.hid (H2.out.trans hK3)
    clear hK3
    go_wp2_with fail
    refine (edit_any B g t2 w3 (by omega) H3.out.1 H3.out.2.2).mono ?_
    rintro e w4 ⟨t3, rfl, ht3, hK4⟩
    have H4 := Lib.hid (H3.out.trans hK4)
    clear hK4
    go_wp2_with fail
    refine (name_any B g w4 H4.out.1 H4.out.2.2).mono ?_
    rintro e w5 ⟨u1, rfl, hu1, hK5⟩
    have H5 := Lib.hid (H4.out.trans hK5)
    clear hK5
    go_wp2_with fail
    refine (name_any B g w5 H5.out.1 H5.out.2.2).mono ?_
    rintro e w6 ⟨u2, rfl, hu2, hK6⟩
    have H6 := Lib.hid (H5.out.trans hK6)
    clear hK6
    go_wp2_with fail
    refine (name_any B g w6 H6.out.1 H6.out.2.2).mono ?_
    rintro e w7 ⟨u3, rfl, hu3, hK7⟩
    have H7 := Lib.hid (H6.out.trans hK7)
    clear hK7
    go_wp2_with fail
    refine (name_any B g w7 H7.out.1 H7.out.2.2).mono ?_
    rintro e w8 ⟨u4, rfl, hu4, hK8⟩
    have H8 := Lib.hid (H7.out.trans hK8)
    clear hK8
    go_wp2_with fail
    refine (name_any B g w8 H8.out.1 H8.out.2.2).mono ?_
    rintro e w9 ⟨u5, rfl, hu5, hK9⟩
    have H9 := Lib.hid (H8.out.trans hK9)
    clear hK9 H2 H3 H4 H5 H6 H7 H8
    obtain ⟨u9, hu9⟩ : ∃ u, u = u1 ++ u2 ++ u3 ++ u4 ++ u5 := ⟨_, rfl⟩
    have hu9s : u9.size ≤ 1000 := by rw [hu9]; simp; omega
    have hu9' := hu9.symm
    clear hu9
    have hn9 : (w9.alloc (.cells #[.string ⟨#[]⟩, .string t1, .string t3, .string u9] 9)).heap[w9.heap.size]? = some (.cells #[.string ⟨#[]⟩, .string t1, .string t3, .string u9] 9 (0, 0)) := heap_alloc_new _ _
    have Hn9 := Lib.hid hn9
    have hTk10 := H9.out.below ((Below.refl _ _).alloc (Nat.le_refl _) (.cells #[.string ⟨#[]⟩, .string t1, .string t3, .string u9] 9))
    have HT10 := Lib.hid hTk10
    have hstr : ∀ k, k < 4 → ∃ u : ByteArray, (#[.string ⟨#[]⟩, .string t1, .string t3, .string u9] : Array Value)[k]? = some (.string u) ∧ u.size ≤ 1000000 := by
      intro k hk
      match k, hk with
      | 0, _ => exact ⟨⟨#[]⟩, rfl, by first | omega | simp [ByteArray.size]⟩
      | 1, _ => exact ⟨t1, rfl, by omega⟩
      | 2, _ => exact ⟨t3, rfl, by omega⟩
      | 3, _ => exact ⟨u9, rfl, by omega⟩
      | n + 4, h => omega
    have Hstr := Lib.hid hstr
    clear hn9 hTk10 hstr
    go_wp2_with fail
    try rw [hu9']
    have hsz9 : (w9.alloc (.cells #[.string ⟨#[]⟩, .string t1, .string t3, .string u9] 9)).heap.size = w9.heap.size + 1 := by simp
    generalize w9.alloc (.cells #[.string ⟨#[]⟩, .string t1, .string t3, .string u9] 9) = wb at *
    generalize hcs : (#[.string ⟨#[]⟩, .string t1, .string t3, .string u9] : Array Value) = cs at *
    have Hsz9 := Lib.hid hsz9
    clear hcs hu9' hsz9 z
    go_loopw [7] (fun i wr => ∃ k : Nat, k ≤ 4 ∧ i = .int .i64 k ∧ Hid (Below wb.heap.size wb wr)) (fun i _ => 4 - (intOf i).toNat)
    case atStart => exact ⟨0, by omega, rfl, Below.refl _ _⟩
    case round =>
      obtain ⟨k, hk, rfl, hbl⟩ := hrel
      by_cases hlt : k < 4
      · obtain ⟨u, hcu, hus⟩ := Hstr.out k hlt
        have m1 := (hbl.out.block w9.heap.size (by rw [Hsz9.out]; omega)).trans Hn9.out
        have d0 := (cell_of_row wr w9.heap.size k _ _ _ m1).trans hcu
        have hki : (k : Int) < 4 := by omega
        have hki0 : (0 : Int) ≤ (k : Int) := by omega
        have Hus := Lib.hid hus
        clear m1 hcu hus
        obtain ⟨b, hb⟩ : ∃ b, b = nameB u.data.toList := ⟨_, rfl⟩
        have hP := fun w => isName_any u w Hus.out
        have hQ := fun w => risName_any u w Hus.out
        rw [← hb] at hP hQ
        have HP := Lib.hid hP
        have HQ := Lib.hid hQ
        have hbb : (b != b) = false := by cases b <;> rfl
        clear hP hQ hb
        go_wp2_with fail
        go_quiet (((first | (go_at_call 23; exact Calls.quiet_of_same (HP.out _)) | (go_at_call 24; exact Calls.quiet_of_same (HQ.out _)))))
        go_wp2_with fail
        go_roundw
        case rel => exact ⟨k + 1, by omega, by go_num, hbl.out.trans ⟨rfl, rfl, rfl, Nat.le_refl _, fun _ _ => rfl⟩⟩
        case measure => simp [intOf]; omega
      · have hk4 : ¬ (k : Int) < 4 := by omega
        have hfin : Below w.heap.size w wr := (HAl.out _ HT10.out).trans (hbl.out.mono (HAl.out _ HT10.out).size)
        have Hfin := Lib.hid hfin
        clear hfin
        go_wp2_with fail
        refine (lawake_any _ (err_below HE.out Hfin.out)).mono ?_
        rintro e w10 ⟨rfl, hb10⟩
        go_wp2_with fail
        go_ret
        exact ⟨rfl, Hfin.out.trans (hb10.mono Hfin.out.size)⟩
theorem W_LexerNames (ao : Option Addr) (len cap : Nat) (zs : List Int) (s : ByteArray) (w : World) (h : IntsAt w ao len cap zs) (_ : s.size ≤ maxLen) (hE : ErrV w) :
    Calls Tryd.prog 6 #[.slice ao len cap, .string s] w fun e w' => e = .returned (.bool true) ∧ Below w.heap.size w w' := by
  by_cases h200 : 200 < s.size
  · exact names_walk ao len cap zs s ⟨#[]⟩ w h hE (by simp [ByteArray.size]) (.inr ⟨by rw [decide_eq_true_eq]; omega, rfl⟩)
  · exact names_walk ao len cap zs s s w h hE (by omega) (.inl ⟨by rw [decide_eq_false_iff_not]; omega, rfl⟩)
end Go.Proofs.YtninmolgkkhikaaDoor
