/- The walk of the law ValueEdited. -/
import Derived.Test.YtninmolgkkhikaaDoorPf
import Derived.Test.YtninmolgkkhikaaDoorTc
namespace Go.Proofs.YtninmolgkkhikaaDoor
open Go.RowKit Go.Proofs.EB
set_option maxHeartbeats 2000000
attribute [local go_sem] World.cell?_alloc_some
theorem W_ValueEdited (ao : Option Addr) (len cap : Nat) (zs : List Int) (w : World) (h : IntsAt w ao len cap zs) (hE : ErrV w) :
    Calls Tryd.prog 4 #[.slice ao len cap] w fun e w' => e = .returned (.bool true) ∧ Below w.heap.size w w' := by
  have HE := Lib.hid hE
  clear hE
  go_enter Tryd.func4, Tryd.ntmps4
  go_wp2_with fail
  refine (new_any _ _ _ _ _ h).mono ?_
  rintro e w1 ⟨g, rfl, hg, hT, hb1⟩
  have hB1 := hb1.size
  generalize hBd : w1.heap.size = B at *
  have hgB : g < B := by obtain ⟨_, _, _, _, _, _, _, hg, _⟩ := hT; exact hg
  have hTk : Took w1 B g w1 := ⟨hT, away_refl _ _, by omega⟩
  have HTk := Lib.hid hTk
  have HBd := Lib.hid hBd
  have Hb1 := Lib.hid hb1
  have Hal : ∀ wr, Took w1 B g wr → Below w.heap.size w wr := fun wr hk => Hb1.out.trans (hk.2.1.below (by omega) (fun k hk => by simp at hk; omega))
  have HAl := Lib.hid Hal
  clear hT h hTk hBd hb1 Hal
  have hguard := guardV
  go_wp2_with fail
  go_loopw [4] (fun i wr => ∃ k : Nat, k ≤ 4 ∧ i = .int .i64 k ∧ Hid (Took w1 B g wr)) (fun i _ => 4 - (intOf i).toNat)
  case atStart => exact ⟨0, by omega, rfl, HTk.out⟩
  case round =>
    obtain ⟨k, hk, rfl, hTk⟩ := hrel
    by_cases hlt : k < 4
    · have hki : (k : Int) < 4 := by omega
      go_wp2_with fail
      refine (tvalue_any B g wr hTk.out.1 hTk.out.2.2).mono ?_
      rintro e w2 ⟨vk, vn, vs, rfl, hv, hok, hK2⟩
      have H2 := Lib.hid (hTk.out.trans hK2)
      have hF := fun w => rformat_any vk vn vs w hok.2.2
      have hfl := fmt_len ⟨vk, vn, vs⟩
      obtain ⟨f, hf⟩ : ∃ f : ByteArray, f = ⟨(fmtV (cleanV ⟨vk, vn, vs⟩)).toArray⟩ := ⟨_, rfl⟩
      have hfs : f.size ≤ 100 := by rw [hf]; simp only [ByteArray.size, List.size_toArray]; omega
      rw [← hf] at hF
      have HF := Lib.hid hF
      clear hv hok hK2 hF hfl hf
      go_wp2_with fail
      refine (HF.out _).mono ?_
      rintro e w3 ⟨rfl, hb3⟩
      have H3 := Lib.hid (H2.out.below hb3)
      clear hb3
      go_wp2_with fail
      refine (edit_any B g f _ (by omega) H3.out.1 H3.out.2.2).mono ?_
      rintro e w4 ⟨u, rfl, hu, hK4⟩
      have H4 := Lib.hid (H3.out.trans hK4)
      have hus : u.size ≤ 1000000 := by omega
      have hP := fun w h => parse_any u w hus h
      have hQ := fun w => rparse_any u w hus
      rcases hr : parseS u.data.toList with ⟨⟨pk, pn, pt⟩, r⟩
      rw [hr] at hP hQ
      have HP := Lib.hid hP
      have HQ := Lib.hid hQ
      have hneq := fun w => neqlV_same pk pn pt w
      have Hneq := Lib.hid hneq
      clear hK4 hP hQ hr hneq H3 H2 HF
      go_wp2_with fail
      refine (HP.out _ (err_below HE.out (HAl.out _ H4.out))).mono ?_
      rintro e w5 ⟨hb5, rfl⟩
      have H5 := Lib.hid (H4.out.below hb5)
      have hn5 : (w5.alloc (.cells #[.int .i64 pk, .int .i64 pn, .string pt] 24)).heap[w5.heap.size]? = some (.cells #[.int .i64 pk, .int .i64 pn, .string pt] 24) := heap_alloc_new _ _
      have Hn5 := Lib.hid hn5
      have H6 := Lib.hid (H5.out.below ((Below.refl _ _).alloc (Nat.le_refl _) (.cells #[.int .i64 pk, .int .i64 pn, .string pt] 24)))
      clear hb5 hn5 H5 H4
      go_wp2_with fail
      refine (HQ.out _).mono ?_
      rintro e w6 ⟨hb6, rfl⟩
      have H7 := Lib.hid (H6.out.below hb6)
      obtain ⟨c0, c1, c2, _, _, _⟩ := box3 ((hb6.block _ (by simp)).trans Hn5.out)
      have hlt6 : w5.heap.size < w6.heap.size := by have := hb6.size; simp at this; omega
      have hnn : (w6.alloc (.cells #[.int .i64 pk, .int .i64 pn, .string pt] 24)).heap[w6.heap.size]? = some (.cells #[.int .i64 pk, .int .i64 pn, .string pt] 24) := heap_alloc_new _ _
      obtain ⟨d0, d1, d2, _, _, _⟩ := box3 hnn
      have H8 := Lib.hid (H7.out.below ((Below.refl _ _).alloc (Nat.le_refl _) (.cells #[.int .i64 pk, .int .i64 pn, .string pt] 24)))
      have hneq := Hneq.out
      clear hnn hb6 H7 H6
      go_wp2_with fail
      go_roundw
      case rel => exact ⟨k + 1, by omega, by go_num, H8.out⟩
      case measure => simp [intOf]; omega
    · have hk4 : ¬ (k : Int) < 4 := by omega
      go_wp2_with fail
      refine (awake_any _).mono ?_
      rintro e w7 ⟨rfl, hb7⟩
      go_wp2_with fail
      go_ret
      exact ⟨rfl, HAl.out _ (hTk.out.below hb7)⟩
end Go.Proofs.YtninmolgkkhikaaDoor
