/- The walk of the law BagNormalize. -/
import Derived.Test.YtdckpjkbchibjaaBs
namespace Go.Proofs.Ytdckpjkbchibjaa
open Go.RowKit Go.Proofs.EB
set_option maxHeartbeats 8000000
set_option maxRecDepth 100000
attribute [local go_sem] World.cell?_alloc_some
theorem W_BagNormalize (ao : Option Addr) (len cap : Nat) (zs : List Int) (bo : Option Addr) (cb : Nat) (l : List Be) (w : World) (h : IntsAt w ao len cap zs) (hl : BagS w w.heap.size ⟨bo, cb, l⟩) :
    Calls Try.prog 4 #[.slice ao len cap, .slice bo l.length cb] w fun e w' => e = .returned (.bool true) ∧ Below w.heap.size w w' := by
  have HL := Lib.hid hl
  clear hl
  go_enter Try.func4, Try.ntmps4
  go_wp2_with fail
  refine (new_any _ _ _ _ _ h).mono ?_
  rintro e w1 ⟨g, rfl, hg, hT, hb1⟩
  have hgB : g < w1.heap.size := by obtain ⟨_, _, _, _, _, _, _, hg, _⟩ := hT; exact hg
  have Hb1 := Lib.hid hb1
  obtain ⟨B, hBd, hK, hgB⟩ : ∃ B, B = w1.heap.size ∧ Took w1 B g w1 ∧ g < B := ⟨_, rfl, ⟨hT, away_refl _ _, Nat.le_refl _⟩, hgB⟩
  have HK := Lib.hid hK
  have HBd := Lib.hid hBd
  clear hK
  clear hT h hBd hb1
  go_wp2_with fail
  cases hs : smlB l
  · have Hs := Lib.hid hs
    clear hs
    refine (smallBag_any _ _ l _ (BagS.later HL.out Hb1.out)).mono ?_
    simp only [Hs.out]
    rintro e wq ⟨rfl, rfl⟩
    have HS0 : Hid (BagS w1 w1.heap.size ⟨none, 0, ([] : List Be)⟩) := BagS.nil
    have HA0 : Hid (Apart g ⟨none, 0, ([] : List Be)⟩) := ⟨.inl rfl, fun x hx => by simp at hx⟩
    go_wp2_with fail
    refine (entries_any B g 2 12 _ (by decide) (by decide) HK.out.1 HK.out.2.2).mono ?_
    rintro e w2 ⟨v, lo, rfl, hln, hown, hTk, hE⟩
    obtain ⟨ao2, cap2, rfl, _, _, _, _⟩ := own_slice hown
    have HS2 := Lib.hid (ents_bag (by decide) hown hE.out)
    have HA2 := Lib.hid (show Apart g ⟨ao2, cap2, lo⟩ from ⟨.inr fun b o e => by
      subst e
      obtain ⟨_, _, e', _, hf, _⟩ := OwnsR.rAt encBe_len hown
      simp only [Value.slice.injEq] at e'
      have := (hf b o e'.1.symm).1; have := HBd.out; omega, fun x hx => .inr fun b o e => by have := ((hE.out x hx).2.2.2.2 b o e).1; have := HBd.out; omega⟩)
    replace HK := Lib.hid (HK.out.trans hTk)
    have HS0 := Lib.hid (BagS.took HS0.out HA0.out hTk)
    clear hown hTk
    go_wp2_with fail
    refine (normalizes_any _ _ lo _ (by omega) HS2.out).mono ?_
    rintro e w3 ⟨rfl, hb3⟩
    replace HK := Lib.hid (HK.out.below hb3)
    have HS0 := Lib.hid (BagS.later HS0.out hb3)
    have HS3 := Lib.hid (BagS.later HS2.out hb3)
    clear hb3
    go_wp2_with fail
    refine (tspoilBag_any B g _ _ lo (by omega) _ HK.out.1 HK.out.2.2 HS3.out HA2.out).mono ?_
    rintro e w4 ⟨a4, c4, l4, rfl, hl4, hS4, hT4, hA4⟩
    replace HK := Lib.hid (HK.out.trans hT4)
    have HS0 := Lib.hid (BagS.took HS0.out HA0.out hT4)
    clear hT4
    go_wp2_with fail
    refine (normalizes_any _ _ l4 _ (by omega) hS4.out).mono ?_
    rintro e w5 ⟨rfl, hb5⟩
    replace HK := Lib.hid (HK.out.below hb5)
    have HS0 := Lib.hid (BagS.later HS0.out hb5)
    clear hb5
    go_wp2_with fail
    refine (normalizes_any _ _ ([] : List Be) _ (by simp) HS0.out).mono ?_
    rintro e w6 ⟨rfl, hb6⟩
    replace HK := Lib.hid (HK.out.below hb6)
    clear hb6
    go_wp2_with fail
    refine (bawake_any _).mono ?_
    rintro e w7 ⟨rfl, hb7⟩
    replace HK := Lib.hid (HK.out.below hb7)
    clear hb7
    go_wp2_with fail
    go_ret
    exact ⟨rfl, took_below Hb1.out hg HK.out⟩
  · have Hs := Lib.hid hs
    clear hs
    refine (smallBag_any _ _ l _ (BagS.later HL.out Hb1.out)).mono ?_
    simp only [Hs.out]
    rintro e wq ⟨rfl, rfl⟩
    have HS0 := Lib.hid (BagS.later HL.out Hb1.out)
    have HA0 := Lib.hid (old_apart HL.out hg)
    have hl40 := sml_len Hs.out
    go_wp2_with fail
    refine (entries_any B g 2 12 _ (by decide) (by decide) HK.out.1 HK.out.2.2).mono ?_
    rintro e w2 ⟨v, lo, rfl, hln, hown, hTk, hE⟩
    obtain ⟨ao2, cap2, rfl, _, _, _, _⟩ := own_slice hown
    have HS2 := Lib.hid (ents_bag (by decide) hown hE.out)
    have HA2 := Lib.hid (show Apart g ⟨ao2, cap2, lo⟩ from ⟨.inr fun b o e => by
      subst e
      obtain ⟨_, _, e', _, hf, _⟩ := OwnsR.rAt encBe_len hown
      simp only [Value.slice.injEq] at e'
      have := (hf b o e'.1.symm).1; have := HBd.out; omega, fun x hx => .inr fun b o e => by have := ((hE.out x hx).2.2.2.2 b o e).1; have := HBd.out; omega⟩)
    replace HK := Lib.hid (HK.out.trans hTk)
    have HS0 := Lib.hid (BagS.took HS0.out HA0.out hTk)
    clear hown hTk
    go_wp2_with fail
    refine (normalizes_any _ _ lo _ (by omega) HS2.out).mono ?_
    rintro e w3 ⟨rfl, hb3⟩
    replace HK := Lib.hid (HK.out.below hb3)
    have HS0 := Lib.hid (BagS.later HS0.out hb3)
    have HS3 := Lib.hid (BagS.later HS2.out hb3)
    clear hb3
    go_wp2_with fail
    refine (tspoilBag_any B g _ _ lo (by omega) _ HK.out.1 HK.out.2.2 HS3.out HA2.out).mono ?_
    rintro e w4 ⟨a4, c4, l4, rfl, hl4, hS4, hT4, hA4⟩
    replace HK := Lib.hid (HK.out.trans hT4)
    have HS0 := Lib.hid (BagS.took HS0.out HA0.out hT4)
    clear hT4
    go_wp2_with fail
    refine (normalizes_any _ _ l4 _ (by omega) hS4.out).mono ?_
    rintro e w5 ⟨rfl, hb5⟩
    replace HK := Lib.hid (HK.out.below hb5)
    have HS0 := Lib.hid (BagS.later HS0.out hb5)
    clear hb5
    go_wp2_with fail
    refine (normalizes_any _ _ l _ (by omega) HS0.out).mono ?_
    rintro e w6 ⟨rfl, hb6⟩
    replace HK := Lib.hid (HK.out.below hb6)
    clear hb6
    go_wp2_with fail
    refine (bawake_any _).mono ?_
    rintro e w7 ⟨rfl, hb7⟩
    replace HK := Lib.hid (HK.out.below hb7)
    clear hb7
    go_wp2_with fail
    go_ret
    exact ⟨rfl, took_below Hb1.out hg HK.out⟩
end Go.Proofs.Ytdckpjkbchibjaa
