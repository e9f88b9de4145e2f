/- The walk of the law LexerPieces. -/
import Derived.Test.YtninmolgkkhikaaDoorLi
import Derived.Test.YtninmolgkkhikaaDoorLk
namespace Go.Proofs.YtninmolgkkhikaaDoor
open Go.RowKit Go.Proofs.EB
set_option maxHeartbeats 2000000
attribute [local go_sem] World.cell?_alloc_some
theorem W_LexerPieces (ao : Option Addr) (len cap : Nat) (zs : List Int) (w : World) (h : IntsAt w ao len cap zs) (hE : ErrV w) :
    Calls Tryd.prog 8 #[.slice ao len cap] w fun e w' => e = .returned (.bool true) ∧ Below w.heap.size w w' := by
  have HE := Lib.hid hE
  clear hE
  go_enter Tryd.func8, Tryd.ntmps8
  go_wp2_with fail
  refine (new_any _ _ _ _ _ h).mono ?_
  rintro e w1 ⟨g, rfl, hg, hT, hb1⟩
  have hB1 := hb1.size
  generalize hBd : w1.heap.size = B at *
  have hTk : Took w1 B g w1 := ⟨hT, away_refl _ _, by omega⟩
  have HTk := Lib.hid hTk
  have Hb1 := Lib.hid hb1
  have Hal : ∀ wr, Took w1 B g wr → Below w.heap.size w wr := fun wr hk => Hb1.out.trans (hk.2.1.below (by omega) (fun k hk => by simp at hk; omega))
  have HAl := Lib.hid Hal
  clear hT h hTk hBd hb1 Hal
  go_wp2_with fail
  refine (pieces_any B g 12 w1 (by decide) HTk.out.1 HTk.out.2.2).mono ?_
  rintro e w2 ⟨s, rfl, hss, hK2⟩
  have hss2 : s.size ≤ 1000000 := by omega
  have H2 := Lib.hid (HTk.out.trans hK2)
  clear hK2
  go_wp2_with fail
  refine (scans_any s _ hss2 (err_below HE.out (HAl.out _ H2.out))).mono ?_
  rintro e w3 ⟨rfl, hb3⟩
  have H3 := Lib.hid (H2.out.below hb3)
  clear hb3
  go_wp2_with fail
  refine (edit_any B g s _ hss2 H3.out.1 H3.out.2.2).mono ?_
  rintro e w4 ⟨s1, rfl, hs1, hK4⟩
  have H4 := Lib.hid (H3.out.trans hK4)
  clear hK4
  go_wp2_with fail
  refine (scans_any s1 _ (by omega) (err_below HE.out (HAl.out _ H4.out))).mono ?_
  rintro e w5 ⟨rfl, hb5⟩
  have H5 := Lib.hid (H4.out.below hb5)
  clear hb5
  go_wp2_with fail
  refine (edit_any B g s _ hss2 H5.out.1 H5.out.2.2).mono ?_
  rintro e w6 ⟨s2, rfl, hs2, hK6⟩
  have H6 := Lib.hid (H5.out.trans hK6)
  clear hK6
  go_wp2_with fail
  refine (edit_any B g s2 _ (by omega) H6.out.1 H6.out.2.2).mono ?_
  rintro e w7 ⟨s3, rfl, hs3, hK7⟩
  have H7 := Lib.hid (H6.out.trans hK7)
  clear hK7
  go_wp2_with fail
  refine (scans_any s3 _ (by omega) (err_below HE.out (HAl.out _ H7.out))).mono ?_
  rintro e w8 ⟨rfl, hb8⟩
  have H8 := Lib.hid (H7.out.below hb8)
  clear hb8
  go_wp2_with fail
  refine (lawake_any _ (err_below HE.out (HAl.out _ H8.out))).mono ?_
  rintro e w9 ⟨rfl, hb9⟩
  have H9 := Lib.hid (H8.out.below hb9)
  clear hb9
  go_wp2_with fail
  go_ret
  exact ⟨rfl, HAl.out _ H9.out⟩
end Go.Proofs.YtninmolgkkhikaaDoor
