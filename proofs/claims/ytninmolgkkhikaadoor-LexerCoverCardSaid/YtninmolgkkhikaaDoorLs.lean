/- Scan of package lexer, with the capacity of what it gives. -/
import Derived.Test.YtninmolgkkhikaaDoorLf
namespace Go.Proofs.YtninmolgkkhikaaDoor
open Go.RowKit Go.Proofs.EB Go.Proofs.TX
set_option maxHeartbeats 1000000
attribute [local go_sem] World.cell?_alloc_some

theorem ownsT_cap {w : World} {B : Nat} {ao : Option Addr} {n cap : Nat} {l : List Tok} (h : OwnsT w B (.slice ao n cap) l) : l.length ≤ cap ∧ cap ≤ maxLen := by
  rcases h.2 with ⟨h0, h1⟩ | ⟨g, cap', cur, h0, hb, hg, hn, hm, hs, ht⟩
  · simp at h0
    obtain ⟨_, _, rfl⟩ := h0
    exact ⟨by omega, by unfold maxLen; omega⟩
  · simp at h0
    obtain ⟨_, _, rfl⟩ := h0
    exact ⟨by omega, by omega⟩
/-- What a scan gives, with its capacity. -/
def ScanPost2 (R : List Tok × Nat × Int) (w : World) (e : Ending) (w' : World) : Prop := Below w.heap.size w w' ∧ ∃ ao cap l n c, R = (l, n, c) ∧ e = .returned (.tuple #[.slice ao l.length cap, .int .i64 (n : Nat), .int .i64 c]) ∧ ToksAt w' w'.heap.size ao l ∧ (l.length ≤ cap ∧ cap ≤ maxLen)
theorem scanPost2_nil {R : List Tok × Nat × Int} {w w' : World} {e : Ending} {n : Nat} {c : Int} (hb : Below w.heap.size w w') (hR : R = ([], n, c)) (he : e = .returned (.tuple #[.slice none 0 0, .int .i64 (n : Nat), .int .i64 c])) : ScanPost2 R w e w' :=
  ⟨hb, none, 0, [], n, c, hR, he, .inl rfl, by simp⟩
theorem scanc_any (s : ByteArray) (w : World) (hs : s.size ≤ 1000000) (hE : ErrV w) :
    Calls Tryd.prog 28 #[.string s] w (ScanPost2 (scanL s.data.toList) w) := by
  have hsl : s.data.toList.length = s.size := by simp
  obtain ⟨R, hR⟩ : ∃ R, R = scanL s.data.toList := ⟨_, rfl⟩
  rw [← hR]
  unfold scanL at hR
  rw [hsl] at hR
  by_cases hbig : 32768 < s.size
  · rw [if_pos hbig] at hR
    have HR := Lib.hid hR
    have z : decide ((32768 : Int) < (s.size : Int)) = true := by simp; omega
    clear hR hbig hE
    go_enter Tryd.func28, Tryd.ntmps28
    go_wp2_with fail
    refine bodyPost_ret (v := .tuple #[.slice none 0 0, .int .i64 0, .int .i64 8]) (by simp [results, Tryd.results28, go_sem]) rfl ?_
    exact scanPost2_nil (n := 0) (Below.refl _ _) HR.out rfl
  · rw [if_neg hbig] at hR
    have hR' : R = scanF s.size (s.data.toList.drop 0) 0 [] := hR
    have HR := Lib.hid hR'
    have HE := Lib.hid hE
    have z : decide ((32768 : Int) < (s.size : Int)) = false := by simp; omega
    clear hR hR' hE hbig hsl
    go_enter Tryd.func28, Tryd.ntmps28
    go_wp2_with fail
    clear z
    go_loopw [5, 6] (fun v i wr => ∃ (k f : Nat) (l : List Tok) (ad : Option Addr) (cp : Nat), k ≤ s.size ∧ i = .int .i64 k ∧ v = .slice ad l.length cp ∧ s.size - k ≤ f ∧ Hid (R = scanF f (s.data.toList.drop k) k l) ∧ l.length ≤ 4096 ∧ OwnsT wr w.heap.size (.slice ad l.length cp) l ∧ Below w.heap.size w wr) (fun _ i _ => s.size - (intOf i).toNat)
    case atStart => exact ⟨0, s.size, [], none, 0, by omega, rfl, rfl, by omega, HR.out, by simp, OwnsT.nil _ _, Below.refl _ _⟩
    case round =>
      obtain ⟨k, f, l, ad, cp, hk, rfl, rfl, hf, hU, hl, hown, hb⟩ := hrel
      clear HR
      have hsz := hb.size
      by_cases hlt : k < s.size
      · obtain ⟨f, rfl⟩ : ∃ g, f = g + 1 := ⟨f - 1, by omega⟩
        have hdc := drop_cons hlt
        cases hbl : blankC s[k]
        · obtain ⟨z1, z2, z3, z4⟩ := not_blank hbl
          obtain ⟨u, hu⟩ : ∃ u, s.extract k s.size = u := ⟨_, rfl⟩
          by_cases h35 : s[k].toNat = 35
          · have z5 : ((s[k].toNat : Int) == 35) = true := by simp [h35]
            have hst : R = scanF f ((s.data.toList.drop k).drop (runC comC (s.data.toList.drop k))) (k + runC comC (s.data.toList.drop k)) l := by
              rw [hU.out, hdc, scanF_com _ _ _ _ _ h35]
            have hle := runC_le comC (s.data.toList.drop k)
            rw [List.length_drop] at hle
            have hsl : s.data.toList.length = s.size := by simp
            have hpos : 0 < runC comC (s.data.toList.drop k) := by rw [hdc, runC, if_pos (by unfold comC; simp; omega)]; omega
            have hC := com_call s k hs hlt u hu
            rw [List.drop_drop] at hst
            generalize runC comC (s.data.toList.drop k) = n at *
            have Hst := Lib.hid hst
            have HC := Lib.hid hC
            have hkn : k + n ≤ s.size := by omega
            clear hst hC h35 hdc hbl
            go_wp2_with fail
            refine (HC.out _).mono ?_
            rintro e w' ⟨rfl, rfl⟩
            go_wp2_with fail
            refine ⟨⟨k + n, f, l, _, _, by omega, by go_num, rfl, by omega, Hst.out, hl, hown, hb⟩, by simp [intOf]; omega⟩
          · have z5 : ((s[k].toNat : Int) == 35) = false := by rw [beq_eq_false_iff_ne]; omega
            have hT := tk_call s k hs hlt u hu
            cases htk : tokAt (s.data.toList.drop k) with
            | err c =>
              have hst : R = ([], k, c) := by rw [hU.out]; rw [hdc] at htk ⊢; exact scanF_err _ _ _ _ _ hbl h35 _ htk
              have hc := tokAt_err htk
              rw [htk] at hT
              have HT := Lib.hid hT
              have Hst := Lib.hid hst
              have y1 : ((c : Int) == 0) = false := by rw [beq_eq_false_iff_ne]; omega
              have y2 : ((c : Int) != 0) = true := by rw [bne_iff_ne]; omega
              clear hT hst hc htk h35 hdc hbl
              go_wp2_with fail
              refine (HT.out _ (err_below HE.out hb)).mono ?_
              rintro e w1 ⟨hb1, rfl⟩
              have hb2 := hb.trans (hb1.mono hsz)
              have hs2 := hb2.size
              clear hb1
              go_wp2_with fail
              refine bodyPost_ret (v := .tuple #[.slice none 0 0, .int .i64 k, .int .i64 c]) (by simp [results, Tryd.results28, go_sem]) rfl ?_
              exact scanPost2_nil (hb2.alloc hs2 _) Hst.out rfl
            | ok t n =>
              obtain ⟨hn0, hn1⟩ := tokAt_size htk
              rw [List.length_drop] at hn1
              have hsl : s.data.toList.length = s.size := by simp
              have hkn : k + n ≤ s.size := by omega
              rw [htk] at hT
              obtain ⟨tk, ts, tn⟩ := t
              have HT := Lib.hid hT
              by_cases hfull : l.length = 4096
              · have hst : R = ([], k, 8) := by rw [hU.out]; rw [hdc] at htk ⊢; exact scanF_full _ _ _ _ _ hbl h35 _ _ htk hfull
                have Hst := Lib.hid hst
                have y1 : ((l.length : Int) == 4096) = true := by simp; omega
                clear hT hst htk h35 hdc hbl hfull
                go_wp2_with fail
                refine (HT.out _ (err_below HE.out hb)).mono ?_
                rintro e w1 ⟨hb1, rfl⟩
                have hb2 := hb.trans (hb1.mono hsz)
                have hs2 := hb2.size
                clear hb1
                go_wp2_with fail
                refine bodyPost_ret (v := .tuple #[.slice none 0 0, .int .i64 k, .int .i64 8]) (by simp [results, Tryd.results28, go_sem]) rfl ?_
                exact scanPost2_nil (hb2.alloc hs2 _) Hst.out rfl
              · have hst : R = scanF f ((s.data.toList.drop k).drop n) (k + n) (l ++ [⟨tk, ⟨ts.toArray⟩, tn, k⟩]) := by rw [hU.out]; rw [hdc] at htk ⊢; exact scanF_tok _ _ _ _ _ hbl h35 _ _ htk hfull
                rw [List.drop_drop] at hst
                have y1 : ((l.length : Int) == 4096) = false := by rw [beq_eq_false_iff_ne]; omega
                have hl2 : l.length < 4096 := by omega
                have hT2 : ∀ w, ErrV w → Calls Tryd.prog 56 #[.string u] w fun e w' => e = .returned (.tuple #[.agg #[.int .i64 tk, .string ⟨ts.toArray⟩, .int .i64 tn, .int .i64 0], .int .i64 (n : Nat), .int .i64 0]) ∧ Below w.heap.size w w' := fun w h => (hT w h).mono fun _ _ hp => ⟨hp.2, hp.1⟩
                clear HT
                have HT := Lib.hid hT2
                clear hT2
                generalize (⟨ts.toArray⟩ : ByteArray) = tu at *
                have Hst := Lib.hid hst
                have Hf := Lib.hid hf
                clear hT hst htk h35 hdc hbl hfull hn1 hsl hf
                go_wp2_with fail
                refine (HT.out _ (err_below HE.out hb)).mono ?_
                rintro e w1 ⟨rfl, hb1⟩
                have hb2 := hb.trans (hb1.mono hsz)
                have hs2 := hb2.size
                have haw : Away none wr (w1.alloc (.cells #[.int .i64 tk, .string tu, .int .i64 tn, .int .i64 (k : Int)] 50)) := away_weak (hb1.alloc hb1.size _)
                have hown2 : OwnsT (w1.alloc (.cells #[.int .i64 tk, .string tu, .int .i64 tn, .int .i64 (k : Int)] 50)) w.heap.size (.slice ad l.length cp) l := haw.owns hown (by cases (Value.slice ad l.length cp).ownBlock <;> simp)
                have hb3 : Below w.heap.size w (w1.alloc (.cells #[.int .i64 tk, .string tu, .int .i64 tn, .int .i64 (k : Int)] 50)) := hb2.alloc hs2 _
                have hsz2 : w.heap.size ≤ (w1.alloc (.cells #[.int .i64 tk, .string tu, .int .i64 tn, .int .i64 (k : Int)] 50)).heap.size := hb3.size
                clear hb1
                go_wp2_with (at_builtin; refine wpList_appT _ (w1.alloc (.cells #[.int .i64 tk, .string tu, .int .i64 tn, .int .i64 (k : Int)] 50)) rfl (.tmp 41) (.tmp 43) rfl w.heap.size (.slice ad l.length cp) l rfl hown2 ⟨tk, tu, tn, k⟩ 1 (by simp [go_sem]) rfl rfl rfl rfl (by omega) hsz2 ?_; intro l3 g3 cap3 w3 hl3 hown3 haw3 hb4 hat3 hlt3)
                refine ⟨⟨k + n, f, l3, _, _, by omega, by go_num, rfl, by have := Hf.out; omega, ?_, ?_, hown3, hb3.trans hb4⟩, by simp [intOf]; omega⟩
                · unfold Hid; rw [hl3.out]; exact Hst.out
                · rw [hl3.out]; simp; omega
        · have hst : R = scanF f (s.data.toList.drop (k + 1)) (k + 1) l := by rw [hU.out, hdc]; exact scanF_blank _ _ _ _ _ hbl
          have Hst := Lib.hid hst
          have hz := blank_cases hbl
          clear hst hdc hbl
          rcases hz with z1 | ⟨z1, z2⟩ | ⟨z1, z2, z3⟩ | ⟨z1, z2, z3, z4⟩
          all_goals
            go_wp2_with fail
            exact ⟨⟨k + 1, f, l, _, _, by omega, by go_num, rfl, by omega, Hst.out, hl, hown, hb⟩, by simp [intOf]; omega⟩
      · have hfin : Hid (R = (l, 0, 0)) := by unfold Hid; rw [hU.out, drop_all (by omega), scanF_nil]
        obtain ⟨ao, cap, hsl2, hrow, hlo, hnil⟩ := hown.toksAt
        have hcap := ownsT_cap hown
        obtain ⟨rfl, _, rfl⟩ : ad = ao ∧ True ∧ cp = cap := by simpa using hsl2
        go_wp2_with fail
        refine bodyPost_ret (v := .tuple #[.slice ad l.length cp, .int .i64 0, .int .i64 0]) (by simp [results, Tryd.results28, go_sem]) rfl ?_
        exact ⟨hb, ad, cp, l, 0, 0, hfin.out, rfl, hrow, hcap⟩
end Go.Proofs.YtninmolgkkhikaaDoor
