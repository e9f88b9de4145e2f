/- Scan of the reference. -/
import Derived.Test.YtninmolgkkhikaaDoorLg
namespace Go.Proofs.YtninmolgkkhikaaDoor
open Go.RowKit Go.Proofs.EB Go.Proofs.TX
attribute [local go_sem] World.cell?_alloc_some
theorem rtk_call (s : ByteArray) (k : Nat) (hs : s.size ≤ 1000000) (h : k < s.size) (u : ByteArray) (hu : s.extract k s.size = u) (w : World) : Calls Tryd.prog 59 #[.string u] w (TkPost (tokAt (s.data.toList.drop k)) w) := by
  have hd : u.data.toList = s.data.toList.drop k := by rw [← hu]; exact extract_toList s k (by omega)
  rw [← hd]
  exact rtoken_any u w (by subst hu; simp; omega) (by subst hu; simp; omega)
set_option maxRecDepth 100000 in
set_option maxHeartbeats 4000000 in
theorem rscan_any (s : ByteArray) (w : World) (hs : s.size ≤ 1000000) :
    Calls Tryd.prog 32 #[.string s] w (ScanPost (scanL s.data.toList) w) := by
  have hsl : s.data.toList.length = s.size := by simp
  obtain ⟨R, hR⟩ : ∃ R, R = scanL s.data.toList := ⟨_, rfl⟩
  rw [← hR]
  unfold scanL at hR
  rw [hsl] at hR
  by_cases hbig : 32768 < s.size
  · rw [if_pos hbig] at hR
    have HR := Lib.hid hR
    have z : decide ((32768 : Int) < (s.size : Int)) = true := by simp; omega
    clear hR hbig
    go_enter Tryd.func32, Tryd.ntmps32
    go_wp2_with fail
    refine bodyPost_ret (v := .tuple #[.slice none 0 0, .int .i64 0, .int .i64 8]) (by simp [results, Tryd.results32, go_sem]) rfl ?_
    exact scanPost_nil (n := 0) (Below.refl _ _) HR.out rfl
  · rw [if_neg hbig] at hR
    have hR' : R = scanF s.size (s.data.toList.drop 0) 0 [] := hR
    have HR := Lib.hid hR'
    have z : decide ((32768 : Int) < (s.size : Int)) = false := by simp; omega
    clear hR hR' hbig hsl
    go_enter Tryd.func32, Tryd.ntmps32
    go_wp2_with fail
    clear z
    go_loopw [5, 6] (fun v i wr => ∃ (k f : Nat) (l : List Tok) (ad : Option Addr) (cp : Nat), k ≤ s.size ∧ i = .int .i64 k ∧ v = .slice ad l.length cp ∧ s.size - k ≤ f ∧ Hid (R = scanF f (s.data.toList.drop k) k l) ∧ l.length ≤ 4096 ∧ OwnsT wr w.heap.size (.slice ad l.length cp) l ∧ Below w.heap.size w wr) (fun _ i _ => s.size - (intOf i).toNat)
    case atStart => exact ⟨0, s.size, [], none, 0, by omega, rfl, rfl, by omega, HR.out, by simp, OwnsT.nil _ _, Below.refl _ _⟩
    case round =>
      obtain ⟨k, f, l, ad, cp, hk, rfl, rfl, hf, hU, hl, hown, hb⟩ := hrel
      clear HR
      have hsz := hb.size
      by_cases hlt : k < s.size
      · obtain ⟨f, rfl⟩ : ∃ g, f = g + 1 := ⟨f - 1, by omega⟩
        have hdc := drop_cons hlt
        cases hbl : blankC s[k]
        · obtain ⟨z1, z2, z3, z4⟩ := not_blank hbl
          obtain ⟨u, hu⟩ : ∃ u, s.extract k s.size = u := ⟨_, rfl⟩
          by_cases h35 : s[k].toNat = 35
          · have z5 : ((s[k].toNat : Int) == 35) = true := by simp [h35]
            have hst : R = scanF f ((s.data.toList.drop k).drop (runC comC (s.data.toList.drop k))) (k + runC comC (s.data.toList.drop k)) l := by
              rw [hU.out, hdc, scanF_com _ _ _ _ _ h35]
            have hle := runC_le comC (s.data.toList.drop k)
            rw [List.length_drop] at hle
            have hsl : s.data.toList.length = s.size := by simp
            have hpos : 0 < runC comC (s.data.toList.drop k) := by rw [hdc, runC, if_pos (by unfold comC; simp; omega)]; omega
            rw [List.drop_drop] at hst
            obtain ⟨n, hn⟩ : ∃ n, n = runC comC (s.data.toList.drop k) := ⟨_, rfl⟩
            rw [← hn] at hst hle hpos
            have Hst := Lib.hid hst
            have Hn := Lib.hid hn
            have Hf := Lib.hid hf
            have hkn : k + n ≤ s.size := by omega
            clear hst h35 hdc hbl hn hf hle hsl
            go_wp2_with fail
            go_loop [6] (fun i => ∃ j : Nat, k ≤ j ∧ j ≤ s.size ∧ i = .int .i64 j ∧ Hid (k + n = j + runC comC (s.data.toList.drop j))) (fun i => s.size - (intOf i).toNat)
            case atStart => exact ⟨k, Nat.le_refl _, by omega, rfl, by unfold Hid; rw [Hn.out]⟩
            case round =>
              obtain ⟨j, hkj, hjs, rfl, hJ⟩ := hrel
              by_cases hjl : j < s.size
              · have hdj := drop_cons hjl
                cases hcj : comC s[j]
                · have hfin : k + n = j := by rw [hJ.out, hdj, runC, if_neg (by rw [hcj]; decide)]; rfl
                  have y : ((s[j].toNat : Int) != 10) = false := by unfold comC at hcj; simp at hcj ⊢; omega
                  have Hfin := Lib.hid hfin
                  clear hcj hdj hfin
                  go_wp2_with fail
                  refine ⟨⟨j, f, l, _, _, by omega, by go_num, rfl, by have := Hf.out; have := Hfin.out; omega, by rw [← Hfin.out]; exact Hst.out, hl, hown, hb⟩, by simp [intOf]; have := Hfin.out; omega⟩
                · have y : ((s[j].toNat : Int) != 10) = true := by unfold comC at hcj; simp at hcj ⊢; omega
                  have hnx : Hid (k + n = j + 1 + runC comC (s.data.toList.drop (j + 1))) := by unfold Hid; rw [hJ.out, hdj, runC, if_pos hcj]; omega
                  clear hcj hdj
                  go_wp2_with fail
                  go_round
                  case rel => exact ⟨j + 1, by omega, by omega, by go_num, hnx⟩
                  case measure => simp [intOf]; omega
              · have hfin : k + n = j := by rw [hJ.out, drop_all (by omega)]; rfl
                have Hfin := Lib.hid hfin
                clear hfin
                go_wp2_with fail
                refine ⟨⟨j, f, l, _, _, by omega, by go_num, rfl, by have := Hf.out; have := Hfin.out; omega, by rw [← Hfin.out]; exact Hst.out, hl, hown, hb⟩, by simp [intOf]; have := Hfin.out; omega⟩
          · have z5 : ((s[k].toNat : Int) == 35) = false := by rw [beq_eq_false_iff_ne]; omega
            have hT := rtk_call s k hs hlt u hu
            cases htk : tokAt (s.data.toList.drop k) with
            | err c =>
              have hst : R = ([], k, c) := by rw [hU.out]; rw [hdc] at htk ⊢; exact scanF_err _ _ _ _ _ hbl h35 _ htk
              have hc := tokAt_err htk
              rw [htk] at hT
              have HT := Lib.hid hT
              have Hst := Lib.hid hst
              have y1 : ((c : Int) == 0) = false := by rw [beq_eq_false_iff_ne]; omega
              have y2 : ((c : Int) != 0) = true := by rw [bne_iff_ne]; omega
              clear hT hst hc htk h35 hdc hbl
              go_wp2_with fail
              refine (HT.out _).mono ?_
              rintro e w1 ⟨hb1, rfl⟩
              have hb2 := hb.trans (hb1.mono hsz)
              have hs2 := hb2.size
              clear hb1
              go_wp2_with fail
              refine bodyPost_ret (v := .tuple #[.slice none 0 0, .int .i64 k, .int .i64 c]) (by simp [results, Tryd.results32, go_sem]) rfl ?_
              exact scanPost_nil (hb2.alloc hs2 _) Hst.out rfl
            | ok t n =>
              obtain ⟨hn0, hn1⟩ := tokAt_size htk
              rw [List.length_drop] at hn1
              have hsl : s.data.toList.length = s.size := by simp
              have hkn : k + n ≤ s.size := by omega
              rw [htk] at hT
              obtain ⟨tk, ts, tn⟩ := t
              have HT := Lib.hid hT
              by_cases hfull : l.length = 4096
              · have hst : R = ([], k, 8) := by rw [hU.out]; rw [hdc] at htk ⊢; exact scanF_full _ _ _ _ _ hbl h35 _ _ htk hfull
                have Hst := Lib.hid hst
                have y1 : ((l.length : Int) == 4096) = true := by simp; omega
                clear hT hst htk h35 hdc hbl hfull
                go_wp2_with fail
                refine (HT.out _).mono ?_
                rintro e w1 ⟨hb1, rfl⟩
                have hb2 := hb.trans (hb1.mono hsz)
                have hs2 := hb2.size
                clear hb1
                go_wp2_with fail
                refine bodyPost_ret (v := .tuple #[.slice none 0 0, .int .i64 k, .int .i64 8]) (by simp [results, Tryd.results32, go_sem]) rfl ?_
                exact scanPost_nil (hb2.alloc hs2 _) Hst.out rfl
              · have hst : R = scanF f ((s.data.toList.drop k).drop n) (k + n) (l ++ [⟨tk, ⟨ts.toArray⟩, tn, k⟩]) := by rw [hU.out]; rw [hdc] at htk ⊢; exact scanF_tok _ _ _ _ _ hbl h35 _ _ htk hfull
                rw [List.drop_drop] at hst
                have y1 : ((l.length : Int) == 4096) = false := by rw [beq_eq_false_iff_ne]; omega
                have hl2 : l.length < 4096 := by omega
                have hT2 : ∀ w, Calls Tryd.prog 59 #[.string u] w fun e w' => e = .returned (.tuple #[.agg #[.int .i64 tk, .string ⟨ts.toArray⟩, .int .i64 tn, .int .i64 0], .int .i64 (n : Nat), .int .i64 0]) ∧ Below w.heap.size w w' := fun w => (hT w).mono fun _ _ hp => ⟨hp.2, hp.1⟩
                clear HT
                have HT := Lib.hid hT2
                clear hT2
                generalize (⟨ts.toArray⟩ : ByteArray) = tu at *
                have Hst := Lib.hid hst
                have Hf := Lib.hid hf
                clear hT hst htk h35 hdc hbl hfull hn1 hsl hf
                go_wp2_with fail
                refine (HT.out _).mono ?_
                rintro e w1 ⟨rfl, hb1⟩
                have hb2 := hb.trans (hb1.mono hsz)
                have hs2 := hb2.size
                have haw : Away none wr (w1.alloc (.cells #[.int .i64 tk, .string tu, .int .i64 tn, .int .i64 (k : Int)] 50)) := away_weak (hb1.alloc hb1.size _)
                have hown2 : OwnsT (w1.alloc (.cells #[.int .i64 tk, .string tu, .int .i64 tn, .int .i64 (k : Int)] 50)) w.heap.size (.slice ad l.length cp) l := haw.owns hown (by cases (Value.slice ad l.length cp).ownBlock <;> simp)
                have hb3 : Below w.heap.size w (w1.alloc (.cells #[.int .i64 tk, .string tu, .int .i64 tn, .int .i64 (k : Int)] 50)) := hb2.alloc hs2 _
                have hsz2 : w.heap.size ≤ (w1.alloc (.cells #[.int .i64 tk, .string tu, .int .i64 tn, .int .i64 (k : Int)] 50)).heap.size := hb3.size
                clear hb1
                go_wp2_with (at_builtin; refine wpList_appT _ (w1.alloc (.cells #[.int .i64 tk, .string tu, .int .i64 tn, .int .i64 (k : Int)] 50)) rfl (.tmp 42) (.tmp 44) rfl w.heap.size (.slice ad l.length cp) l rfl hown2 ⟨tk, tu, tn, k⟩ 1 (by simp [go_sem]) rfl rfl rfl rfl (by omega) hsz2 ?_; intro l3 g3 cap3 w3 hl3 hown3 haw3 hb4 hat3 hlt3)
                refine ⟨⟨k + n, f, l3, _, _, by omega, by go_num, rfl, by have := Hf.out; omega, ?_, ?_, hown3, hb3.trans hb4⟩, by simp [intOf]; omega⟩
                · unfold Hid; rw [hl3.out]; exact Hst.out
                · rw [hl3.out]; simp; omega
        · have hst : R = scanF f (s.data.toList.drop (k + 1)) (k + 1) l := by rw [hU.out, hdc]; exact scanF_blank _ _ _ _ _ hbl
          have Hst := Lib.hid hst
          have hz := blank_cases hbl
          clear hst hdc hbl
          rcases hz with z1 | ⟨z1, z2⟩ | ⟨z1, z2, z3⟩ | ⟨z1, z2, z3, z4⟩
          all_goals
            go_wp2_with fail
            exact ⟨⟨k + 1, f, l, _, _, by omega, by go_num, rfl, by omega, Hst.out, hl, hown, hb⟩, by simp [intOf]; omega⟩
      · have hfin : Hid (R = (l, 0, 0)) := by unfold Hid; rw [hU.out, drop_all (by omega), scanF_nil]
        obtain ⟨ao, cap, hsl2, hrow, hlo, hnil⟩ := hown.toksAt
        obtain ⟨rfl, _, rfl⟩ : ad = ao ∧ True ∧ cp = cap := by simpa using hsl2
        go_wp2_with fail
        refine bodyPost_ret (v := .tuple #[.slice ad l.length cp, .int .i64 0, .int .i64 0]) (by simp [results, Tryd.results32, go_sem]) rfl ?_
        exact ⟨hb, ad, cp, l, 0, 0, hfin.out, rfl, hrow, hlo, hnil⟩
end Go.Proofs.YtninmolgkkhikaaDoor
