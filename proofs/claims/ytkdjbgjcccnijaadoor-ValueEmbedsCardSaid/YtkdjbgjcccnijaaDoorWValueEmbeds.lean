/- The walk of the law ValueEmbeds. -/
import Derived.Test.YtkdjbgjcccnijaaDoorMb
namespace Go.Proofs.YtkdjbgjcccnijaaDoor
open Go.RowKit Go.Proofs.EB
open Go.Lib (compareBytes)
set_option maxHeartbeats 2000000
attribute [local go_sem] World.cell?_alloc_some

/-- What the law's last test asks of two rows, in the walk's own words. -/
def Ordered (x y : ByteArray) (c : Int) : Prop := (decide (c < 0) = Op.bytesLess x.toList y.toList) ∧ ((c == 0) = (x.toList == y.toList))
theorem ordered (a b : List V) : Ordered ⟨(encRow a).toArray⟩ ⟨(encRow b).toArray⟩ (cmpRows a b) := by
  have h := compareBytes_eq (encRow a) (encRow b)
  rw [cb_rows] at h
  unfold Ordered
  rw [ByteArray.toList_eq, ByteArray.toList_eq]
  simp only [List.toList_toArray]
  rw [h]
  by_cases he : encRow a = encRow b
  · rw [if_pos he, he]
    have hf : Op.bytesLess (encRow b) (encRow b) = false := by
      generalize encRow b = l
      induction l with
      | nil => rfl
      | cons x l ih =>
        have hx : ¬ x < x := fun e => by have : x.toNat < x.toNat := e; omega
        simp [Op.bytesLess, ih, hx]
    simp [hf]
  · rw [if_neg he]
    have hne : (encRow a == encRow b) = false := by simpa using he
    cases hb : Op.bytesLess (encRow a) (encRow b) <;> simp [hne]

theorem W_ValueEmbeds (ao : Option Addr) (len cap : Nat) (zs : List Int) (w : World) (h : IntsAt w ao len cap zs) :
    Calls Tryd.prog 13 #[.slice ao len cap] w fun e w' => e = .returned (.bool true) ∧ Below w.heap.size w w' := by
  go_enter Tryd.func13, Tryd.ntmps13
  go_wp2_with fail
  refine (new_any _ _ _ _ _ h).mono ?_
  rintro e w1 ⟨g, rfl, hg, hT, hb1⟩
  have hB1 := hb1.size
  generalize hBd : w1.heap.size = B at *
  have hgB : g < B := by obtain ⟨_, _, _, _, _, _, _, hg, _⟩ := hT; exact hg
  have hTk : Took w1 B g w1 := ⟨hT, away_refl _ _, by omega⟩
  have HTk := Lib.hid hTk
  have HBd := Lib.hid hBd
  clear hT h hTk hBd
  go_wp2_with fail
  go_loopw [4] (fun i wr => ∃ k : Nat, k ≤ 4 ∧ i = .int .i64 k ∧ Hid (Took w1 B g wr)) (fun i _ => 4 - (intOf i).toNat)
  case atStart => exact ⟨0, by omega, rfl, HTk⟩
  case round =>
    obtain ⟨k, hk, rfl, hTr⟩ := hrel
    clear HTk
    by_cases hlt : k < 4
    · go_wp2_with fail
      refine (trow_any B g 3 wr (by decide) hTr.out.1 hTr.out.2.2).mono ?_
      rintro e w2 ⟨xo, xc, x, rfl, hx, hxv, hxr, hxT, hxl, hxn⟩
      have HxT := Lib.hid hxT
      clear hxT
      go_wp2_with fail
      refine (trow_any B g 3 w2 (by decide) HxT.out.1 HxT.out.2.2).mono ?_
      rintro e w3 ⟨yo, yc, y, rfl, hy, hyv, hyr, hyT, hyl, hyn⟩
      have HyT := Lib.hid hyT
      clear hyT
      have hne : ∀ b o, xo = some ⟨b, o, none⟩ → some b ≠ some g := fun b o hb => by have := hxl b o hb; have := hTr.out.2.2; simp; omega
      have hx3 : RowAt w3 w3.heap.size xo x := (hxr.away HyT.out.2.1 (Nat.le_refl _) hne).mono HyT.out.2.1.size
      have Hne := Lib.hid hne
      have hney : ∀ b o, yo = some ⟨b, o, none⟩ → some b ≠ some g := fun b o hb => by have := hyl b o hb; have := HxT.out.2.2; simp; omega
      have Hny := Lib.hid hney
      have Hxn := Lib.hid hxn
      have hx4v := Lib.hid hxr.1
      clear hne hney hxn hyl hyn hxl hxr
      go_wp2_with fail
      refine (next_any B g 3 w3 (by decide) (by decide) HyT.out.1 HyT.out.2.2).mono ?_
      rintro e w4 ⟨r, rfl, hr0, hr1, hK⟩
      have HK := Lib.hid hK
      have hx4 : RowAt w4 w4.heap.size xo x := (hx3.away HK.out.2.1 (Nat.le_refl _) Hne.out).mono HK.out.2.1.size
      have hy4 : RowAt w4 w4.heap.size yo y := (hyr.away HK.out.2.1 (Nat.le_refl _) Hny.out).mono HK.out.2.1.size
      have h14 := hTr.out.trans (HxT.out.trans (HyT.out.trans HK.out))
      have H14 := Lib.hid h14
      have hB4 := h14.2.2
      have hs14 := h14.2.1.size
      clear hx3 hyr h14 hK HyT HxT HK Hny
      by_cases hrz : r = 0
      · subst hrz
        clear hr0 hr1
        have hown0 : OwnsV (w4.alloc (.cells #[] 27)) w4.heap.size (.slice (some ⟨w4.heap.size, 0, none⟩) 0 0) [] := World.ownsRow_made w4 #[] 0 (Nat.le_refl _) (by decide) rfl
        have hx5 : RowAt (w4.alloc (.cells #[] 27)) w4.heap.size xo x := hx4.below ((Below.refl _ _).alloc (Nat.le_refl _) _)
        have hT5 := Lib.hid (H14.out.below ((Below.refl w4.heap.size w4).alloc (Nat.le_refl _) (.cells #[] 27)))
        go_wp2_with (at_builtin; refine wpList_copyV (w4.alloc (.cells #[] 27)) rfl (.tmp 23) (.tmp 24) rfl w4.heap.size w4.heap.size 0 [] rfl hown0 w4.heap.size xo xc x rfl hx5 Hxn.out (by simp; omega) (by simp) ?_; intro l5 g5 cp5 w5 hl5 hown5 haw5 hb5 hlt5)
        have h45 : Below w4.heap.size w4 w5 := ((Below.refl _ _).alloc (Nat.le_refl _) _).trans hb5
        have H15 := Lib.hid (hT5.out.fresh haw5 (fun k hk => by simp at hk; omega))
        have hx5' : RowAt w5 w4.heap.size xo x := hx4.below h45
        have hs45 := h45.size
        have hg5 := (World.ownsRow.lt hown5 g5 rfl).1
        clear hx5 hT5 hown0 haw5 hb5 h45 hx4
        refine (tvalue_any B g w5 H15.out.1 H15.out.2.2).mono ?_
        rintro e w6 ⟨vk, vn, vs, rfl, hv, hok, hK6⟩
        have H16 := Lib.hid (H15.out.trans hK6)
        have hown6 : OwnsV w6 w4.heap.size (.slice (some ⟨g5, 0, none⟩) l5.length cp5) l5 := hK6.2.1.owns hown5 (.inr (by simp [Value.ownBlock]; omega))
        have hx6 : RowAt w6 w4.heap.size xo x := hx5'.away hK6.2.1 (by omega) Hne.out
        have hs56 := hK6.2.1.size
        have hll5 : l5.length ≤ 3 := by rw [hl5.out]; simpa using hx
        clear hK6 hown5 hx5' H15 Hne hv
        have Hok := Lib.hid hok
        clear hok
        go_wp2_with (at_builtin; refine wpList_appV _ w6 rfl (.tmp 25) (.tmp 28) rfl w4.heap.size (.slice (some ⟨g5, 0, none⟩) l5.length cp5) l5 rfl hown6 ⟨vk, vn, vs⟩ 1 rfl rfl rfl rfl rfl (by omega) (by omega) ?_; intro l7 g7 cp7 w7 hl7 hown7 haw7 hb7 hat7 hlt7)
        have H17 := Lib.hid (H16.out.fresh haw7 (fun k hk => by simp [Value.ownBlock] at hk; omega))
        have hx7 : RowAt w7 w4.heap.size xo x := hx6.below hb7
        have hs67 := hb7.size
        obtain ⟨yo7, yc7, hval7, hy7, _, _⟩ := hown7.rowAt (fun z hz => by
          rw [hl7.out, hl5.out] at hz
          simp only [List.nil_append, List.mem_append, List.mem_singleton] at hz
          rcases hz with hz | rfl
          · exact hx4v.out z hz
          · exact Hok.out)
        simp only [Value.slice.injEq] at hval7
        obtain ⟨rfl, _, rfl⟩ := hval7
        have hll7 : l7.length ≤ 4 := by rw [hl7.out]; simp; omega
        have HL7 := Lib.hid hll7
        have hx7' : RowAt w7 w7.heap.size xo x := hx7.mono (by omega)
        clear hown7 haw7 hb7 hat7 hlt7 hown6 hx6 H16 hx7
        refine (encodeRow_any _ _ x _ (by omega) hx7').mono ?_
        rintro e wa ⟨rfl, hba⟩
        go_wp2_with fail
        refine (encodeRow_any _ _ l7 _ (by omega) ((hy7.below hba).mono hba.size)).mono ?_
        rintro e wb ⟨rfl, hbb⟩
        have hab := hba.trans (hbb.mono hba.size)
        go_wp2_with fail
        refine (compareFunc_any _ _ _ _ x l7 _ (by unfold maxLen; omega) (Nat.le_trans (by omega) (by decide)) ((hx7'.below hab).mono hab.size) ((hy7.below hab).mono hab.size)).mono ?_
        have ho := ordered x l7
        generalize cmpRows x l7 = c at ho ⊢
        generalize (⟨(encRow x).toArray⟩ : ByteArray) = ex at ho ⊢
        generalize (⟨(encRow l7).toArray⟩ : ByteArray) = ey at ho ⊢
        obtain ⟨ho1, ho2⟩ := ho
        rintro e wc ⟨rfl, hbc⟩
        have hac := hab.trans (hbc.mono hab.size)
        have HB := Lib.hid hac
        clear hac hab hba hbb hbc
        have ho3 : (ex.toList == ey.toList) = (c == 0) := ho2.symm
        have ho4 : Op.bytesLess ex.toList ey.toList = decide (c < 0) := ho1.symm
        clear ho1 ho2
        by_cases hc1 : c < 0
        · have t1 : decide (c < 0) = true := by simpa using hc1
          have t2 : (c == 0) = false := by simp; omega
          rw [t1] at ho4
          rw [t2] at ho3
          clear hc1
          go_wp2_with fail
          go_roundw
          case rel => exact ⟨k + 1, by omega, by go_num, H17.out.below HB.out⟩
          case measure => simp [intOf]; omega
        · by_cases hc2 : c = 0
          · subst hc2
            have t1 : decide ((0 : Int) < 0) = false := by decide
            rw [t1] at ho4
            have t3 : (ex.toList == ey.toList) = true := ho3
            clear ho3 hc1
            go_wp2_with fail
            go_roundw
            case rel => exact ⟨k + 1, by omega, by go_num, H17.out.below HB.out⟩
            case measure => simp [intOf]; omega
          · have t1 : decide (c < 0) = false := by simpa using hc1
            have t2 : (c == 0) = false := by simpa using hc2
            rw [t1] at ho4
            rw [t2] at ho3
            clear hc1 hc2
            go_wp2_with fail
            go_roundw
            case rel => exact ⟨k + 1, by omega, by go_num, H17.out.below HB.out⟩
            case measure => simp [intOf]; omega
      · have e0 : (r == 0) = false := by simpa using hrz
        clear hr0 hr1 hrz
        go_wp2_with fail
        refine (encodeRow_any _ _ x _ (by omega) hx4).mono ?_
        rintro e wa ⟨rfl, hba⟩
        go_wp2_with fail
        refine (encodeRow_any _ _ y _ (by omega) ((hy4.below hba).mono hba.size)).mono ?_
        rintro e wb ⟨rfl, hbb⟩
        have hab := hba.trans (hbb.mono hba.size)
        go_wp2_with fail
        refine (compareFunc_any _ _ _ _ x y _ (by unfold maxLen; omega) (Nat.le_trans (by omega) (by decide)) ((hx4.below hab).mono hab.size) ((hy4.below hab).mono hab.size)).mono ?_
        have ho := ordered x y
        generalize cmpRows x y = c at ho ⊢
        generalize (⟨(encRow x).toArray⟩ : ByteArray) = ex at ho ⊢
        generalize (⟨(encRow y).toArray⟩ : ByteArray) = ey at ho ⊢
        obtain ⟨ho1, ho2⟩ := ho
        rintro e wc ⟨rfl, hbc⟩
        have hac := hab.trans (hbc.mono hab.size)
        have HB := Lib.hid hac
        clear hac hab hba hbb hbc
        have ho3 : (ex.toList == ey.toList) = (c == 0) := ho2.symm
        have ho4 : Op.bytesLess ex.toList ey.toList = decide (c < 0) := ho1.symm
        clear ho1 ho2
        by_cases hc1 : c < 0
        · have t1 : decide (c < 0) = true := by simpa using hc1
          have t2 : (c == 0) = false := by simp; omega
          rw [t1] at ho4
          rw [t2] at ho3
          clear hc1
          go_wp2_with fail
          go_roundw
          case rel => exact ⟨k + 1, by omega, by go_num, H14.out.below HB.out⟩
          case measure => simp [intOf]; omega
        · by_cases hc2 : c = 0
          · subst hc2
            have t1 : decide ((0 : Int) < 0) = false := by decide
            rw [t1] at ho4
            have t3 : (ex.toList == ey.toList) = true := ho3
            clear ho3 hc1
            go_wp2_with fail
            go_roundw
            case rel => exact ⟨k + 1, by omega, by go_num, H14.out.below HB.out⟩
            case measure => simp [intOf]; omega
          · have t1 : decide (c < 0) = false := by simpa using hc1
            have t2 : (c == 0) = false := by simpa using hc2
            rw [t1] at ho4
            rw [t2] at ho3
            clear hc1 hc2
            go_wp2_with fail
            go_roundw
            case rel => exact ⟨k + 1, by omega, by go_num, H14.out.below HB.out⟩
            case measure => simp [intOf]; omega
    · have h4 : 4 ≤ k := by omega
      go_wp2_with fail
      refine (awake_any _).mono ?_
      rintro e w2 ⟨rfl, hb2⟩
      go_wp2_with fail
      go_ret
      exact ⟨rfl, hb1.trans (Below.trans (hTr.out.2.1.below hb1.size (fun k hk => by simp at hk; omega)) (hb2.mono (Nat.le_trans hb1.size hTr.out.2.1.size)))⟩
end Go.Proofs.YtkdjbgjcccnijaaDoor
