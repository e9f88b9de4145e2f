/- The walk of the law ValueEncode. -/
import Derived.Test.YtkdjbgjcccnijaaDoorVp
namespace Go.Proofs.YtkdjbgjcccnijaaDoor
open Go.RowKit Go.Proofs.EB
set_option maxHeartbeats 1000000
attribute [local go_sem] World.cell?_alloc_some
theorem W_ValueEncode (ao : Option Addr) (ca : Nat) (a : List V) (w : World) (ha : a.length ≤ maxLen) (hra : RowAt w w.heap.size ao a) :
    Calls Tryd.prog 11 #[.slice ao a.length ca] w fun e w' => e = .returned (.bool true) ∧ Below w.heap.size w w' := by
  have hAw : ∀ w1, Below w.heap.size w w1 → Calls Tryd.prog 15 #[] w1 fun e w' => e = .returned (.bool true) ∧ Below w.heap.size w w' := fun w1 h1 => (awake_any w1).mono fun _ _ h => ⟨h.1, h1.trans (h.2.mono h1.size)⟩
  cases hl1 : longB a
  · have h40 : a.length ≤ 40 := by simp [longB] at hl1; omega
    have hlen := encRow_len a
    obtain ⟨u, hu⟩ : ∃ u : ByteArray, u = ⟨(encRow a).toArray⟩ := ⟨_, rfl⟩
    have hud : u.data.toList = encRow a := by rw [hu]
    have hus : u.size = (encRow a).length := by rw [hu]; simp [ByteArray.size]
    have hum : u.size ≤ 1000000 := by omega
    have hdec : decR u.size u.data.toList [] = if a.length ≤ 16 then some (a.map cleanV) else none := by
      rw [hud, decR_encRow a _ [] (by rw [hus]; exact encRow_big a) (by simp)]
      simp
    have Hu := Lib.hid hu
    have Hdec := Lib.hid hdec
    clear hud hus hlen hdec hu
    have hml : (a.map cleanV).length = a.length := by simp
    have Hml := Lib.hid hml
    clear hml
    go_enter Tryd.func11, Tryd.ntmps11
    go_wp2_with fail
    refine (long_any _ _ a _ ha hra).mono ?_
    simp only [hl1]
    rintro e w' ⟨rfl, rfl⟩
    clear hl1
    go_wp2_with fail
    refine (encodeRow_any _ _ a _ (by omega) hra).mono ?_
    rw [← Hu.out]
    rintro e w1 ⟨rfl, hb1⟩
    have hs1 := hb1.size
    go_wp2_with fail
    refine (rencodeRow_any _ _ a _ (by omega) ((hra.below hb1).mono hs1)).mono ?_
    rw [← Hu.out]
    rintro e w2 ⟨rfl, hb2⟩
    have hb12 := hb1.trans (hb2.mono hs1)
    have hs2 := hb12.size
    clear hb1 hb2 hs1
    go_wp2_with fail
    refine (DecodeRow_any u _ hum).mono ?_
    rintro e w3 ⟨hb3, hres⟩
    rw [Hdec.out] at hres
    have hb13 := hb12.trans (hb3.mono hs2)
    have hs3 := hb13.size
    by_cases h16 : a.length ≤ 16
    · rw [if_pos h16] at hres
      obtain ⟨xo, xc, rfl, hx16, hxv, hxr, _, _⟩ := hres
      have hra3 := (hra.below hb13).mono hs3
      have Hxv := Lib.hid hxv
      clear hb3 hb12 hxv
      go_wp2_with fail
      refine (cleanRow_any _ _ a _ (by omega) hra3).mono ?_
      rintro e w4 ⟨yo, yc, n, rfl, rfl, hyr, hb4⟩
      have hb14 := hb13.trans (hb4.mono hs3)
      have hs4 := hb4.size
      have hm : (a.map cleanV).length ≤ maxLen := by rw [Hml.out]; exact ha
      have hsame := same_any xo yo xc yc (a.map cleanV) (a.map cleanV) w4 true (by simp) hm hm ((hxr.below hb4).mono hs4) hyr
      rw [Hml.out] at hsame
      clear hm
      go_wp2_with fail
      refine (hsame.mono ?_)
      rintro e w5 ⟨rfl, hb5⟩
      go_wp2_with fail
      refine (hAw _ (hb14.trans (hb5.mono hb14.size))).mono ?_
      rintro e w6 ⟨rfl, hb6⟩
      go_wp2_with fail
      go_ret
      exact ⟨rfl, hb6⟩
    · rw [if_neg h16] at hres
      obtain rfl := hres
      clear hb3 hb12
      go_wp2_with fail
      refine (hAw _ hb13).mono ?_
      rintro e w6 ⟨rfl, hb6⟩
      go_wp2_with fail
      go_ret
      exact ⟨rfl, hb6⟩
  · go_enter Tryd.func11, Tryd.ntmps11
    go_wp2_with fail
    refine (long_any _ _ a _ ha hra).mono ?_
    simp only [hl1]
    rintro e w' ⟨rfl, rfl⟩
    go_wp2_with fail
    refine (hAw _ (Below.refl _ _)).mono ?_
    rintro e w1 ⟨rfl, hb1⟩
    go_wp2_with fail
    go_ret
    exact ⟨rfl, hb1⟩
end Go.Proofs.YtkdjbgjcccnijaaDoor
