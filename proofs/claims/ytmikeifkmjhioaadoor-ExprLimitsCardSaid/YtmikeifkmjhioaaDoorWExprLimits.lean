/- The walk of the law ExprLimits. -/
import Derived.Test.YtmikeifkmjhioaaDoorYq
import Derived.OpenShut
namespace Go.Proofs.YtmikeifkmjhioaaDoor
open Go.RowKit Go.Proofs.EB
set_option maxHeartbeats 4000000
set_option maxRecDepth 100000
attribute [local go_sem] World.cell?_alloc_some

def deepX : Nat → Ex
  | 0 => .x0 (colTm 0)
  | k + 1 => .x1 (opTm 3) (deepX k)
theorem deepX_flat : ∀ k, (deepX k).flat = List.replicate k (opTm 3) ++ [colTm 0]
  | 0 => rfl
  | k + 1 => by simp [deepX, Ex.flat, deepX_flat k, List.replicate_succ]
theorem deepX_ok : ∀ k, (deepX k).ok
  | 0 => ⟨colTm_ok (by decide), rfl⟩
  | k + 1 => ⟨opTm_ok (by decide) (by decide), rfl, deepX_ok k⟩
theorem deepX_depth : ∀ k, (deepX k).depth = k + 1
  | 0 => rfl
  | k + 1 => by simp [deepX, Ex.depth, deepX_depth k]
theorem deep_valid (k : Nat) (hk : k ≤ 20) : validL (List.replicate k (opTm 3) ++ [colTm 0]) = decide (k ≤ 15) := by
  rw [Bool.eq_iff_iff, validL_iff, decide_eq_true_eq]
  constructor
  · rintro ⟨x, h1, h2, _⟩
    have h3 : Head (List.replicate k (opTm 3) ++ [colTm 0]) (deepX k) [] := ⟨by rw [deepX_flat]; simp, deepX_ok k⟩
    obtain ⟨rfl, _⟩ := h1.uniq h3
    rw [deepX_depth] at h2; omega
  · intro h
    exact ⟨deepX k, ⟨by rw [deepX_flat]; simp, deepX_ok k⟩, by rw [deepX_depth]; omega, by simp; omega⟩
theorem long_valid {l : List Tm} {x : Ex} (h : l = x.flat ∧ x.ok) (hd : x.depth ≤ 10) : validL l = decide (l.length ≤ 64) := by
  rw [Bool.eq_iff_iff, validL_iff, decide_eq_true_eq]
  constructor
  · rintro ⟨_, _, _, h⟩; exact h
  · intro h2; exact ⟨x, ⟨by rw [h.1]; simp, h.2⟩, by omega, h2⟩
theorem opTm_okT {o : Int} (h : 0 ≤ o) (h2 : o ≤ 18) : (opTm o).okT := ⟨⟨by show _ ≤ o; omega, by show o ≤ _; omega⟩, nil_ok, ⟨by show (_ : Int) ≤ 0; decide, by show (0 : Int) ≤ _; decide⟩⟩
theorem colTm_okT {c : Int} (h : i64B c) : (colTm c).okT := ⟨⟨by show (_ : Int) ≤ 2; decide, by show (2 : Int) ≤ _; decide⟩, nil_ok, h⟩
theorem limits_k (K : Nat) (hK : 14 ≤ K) (hK2 : K ≤ 16) (n : Int) (hn : 0 ≤ n ∧ n < 256) (hnk : n % 3 = (K : Int) - 14) (w : World) (hO : Ops w) (ht : Tab w) :
    Calls Tryd.prog 4 #[.int .u8 n] w fun e w' => e = .returned (.bool true) ∧ Below w.heap.size w w' := by
  obtain ⟨hn0, hn1⟩ := hn
  have Hnk := Lib.hid hnk
  have HO := Lib.hid hO
  have HTb := Lib.hid ht
  have hm : n.tmod 3 = (K : Int) - 14 := by rw [Int.tmod_eq_emod_of_nonneg hn0]; exact hnk
  clear hO ht hnk
  go_enter Tryd.func4, Tryd.ntmps4
  go_wp2_with fail
  obtain ⟨D, hD⟩ : ∃ D, D = (K : Int) - 14 - 1 := ⟨_, rfl⟩
  rw [← hD]
  have HD := Lib.hid hD
  have hD1 : -1 ≤ D := by omega
  have hD2 : D ≤ 1 := by omega
  clear hD hm
  go_loopw [4, 6] (fun v i wr => ∃ (k : Nat) (l : List Tm) (ad : Option Addr) (cp : Nat), i = .int .i64 k ∧ v = .slice ad l.length cp ∧ k ≤ K ∧ l.length ≤ 20 ∧ Hid (l = List.replicate k (opTm 3)) ∧ OwnsTm wr w.heap.size (.slice ad l.length cp) l ∧ Hid (Below w.heap.size w wr) ∧ w.heap.size ≤ wr.heap.size) (fun _ i _ => K - (intOf i).toNat)
  case atStart => exact ⟨0, [], none, 0, rfl, rfl, by omega, by simp, rfl, OwnsR.nil, Below.refl _ _, Nat.le_refl _⟩
  case round =>
    obtain ⟨k, l, ad, cp, rfl, rfl, hk, hl, hL, hown, hB, hsz⟩ := hrel
    by_cases hlt : k < K
    · have z : decide ((k : Int) < 15 + D) = true := by have := HD.out; simp; omega
      go_wp2_with (at_builtin; refine wpList_appR (enc := encTm) (m := 5) Tryd.underlying23 infoTm rfl (by decide) encTm_len encTm_one _ wr rfl (.tmp 17) (.tmp 19) rfl w.heap.size _ l rfl hown [opTm 3] 1 1 #[.int .i64 3, .int .i64 0, .int .i64 0, .string ⟨#[]⟩, .int .i64 0] rfl rfl rfl rfl rfl rfl rfl (by decide) (by omega) (by unfold maxLen; omega) hsz ?_; intro l3 g3 cap3 w3 hl3 hown3 haw3 hb3 hat3 hlt3)
      refine ⟨⟨k + 1, l3, _, _, by go_num, rfl, by omega, ?_, ?_, hown3, hB.out.trans hb3, by have := hb3.size; omega⟩, by simp [intOf]; omega⟩
      · rw [hl3.out, hL.out]; simp; omega
      · unfold Hid; rw [hl3.out, hL.out, List.replicate_succ']
    · have hkK : k = K := by omega
      subst hkK
      have z : decide ((k : Int) < 15 + D) = false := by have := HD.out; simp; omega
      clear hlt
      go_wp2_with (at_builtin; refine wpList_appR (enc := encTm) (m := 5) Tryd.underlying23 infoTm rfl (by decide) encTm_len encTm_one _ wr rfl (.tmp 21) (.tmp 23) rfl w.heap.size _ l rfl hown [colTm 0] 1 1 #[.int .i64 2, .int .i64 0, .int .i64 0, .string ⟨#[]⟩, .int .i64 0] rfl rfl rfl rfl rfl rfl rfl (by decide) (by omega) (by unfold maxLen; omega) hsz ?_; intro l3 g3 cap3 w3 hl3 hown3 haw3 hb3 hat3 hlt3)
      have HB := Lib.hid (hB.out.trans hb3)
      obtain ⟨aoD, capD, hDeq, hTD, _, _, _, _⟩ := OwnsR.rAt encTm_len hown3
      simp only [Value.slice.injEq, true_and] at hDeq
      obtain ⟨rfl, rfl⟩ := hDeq
      have hv := deep_valid k (by omega)
      refine (bushy_any 7 (by decide) (49 + k) _ ?hz (by omega) (by show 49 + k < 128; omega) _).mono ?_
      case hz => have := HD.out; unfold Hid; omega
      rintro e w4 ⟨aoL, capL, lL, xL, hx, rfl, hTL, _, hb4⟩
      obtain ⟨b, hb⟩ : ∃ b, b = decide (k ≤ 15) := ⟨_, rfl⟩
      have hvD : validL l3 = b := by rw [hl3.out, hL.out, hv, hb]
      have hvL : validL lL = b := by rw [long_valid ⟨hx.out.1, hx.out.2.1⟩ (by have := hx.out.2.2.1.2; omega), hx.out.1, hx.out.2.2.1.1, hb]; congr 1; simp; omega
      have hDb : decide (D ≤ 0) = b := by rw [hb]; have := HD.out; congr 1; simp; omega
      have hlD : l3.length ≤ maxLen := by rw [hl3.out]; unfold maxLen; simp; omega
      have hlL : lL.length ≤ maxLen := by rw [hx.out.1]; have := hx.out.2.2.1.1; unfold maxLen; omega
      have hokD : ∀ t ∈ l3, t.okT := by
        intro t ht
        rw [hl3.out, hL.out] at ht
        rcases List.mem_append.1 ht with ht | ht
        · rw [(List.mem_replicate.1 ht).2]; exact opTm_okT (by decide) (by decide)
        · rw [List.mem_singleton.1 ht]; exact colTm_okT ⟨by decide, by decide⟩
      have hVD := fun w hO hT => exValid_any (some ⟨g3, 0, none⟩) cap3 l3 hlD hokD w hO hT
      have hVL := fun w hO hT => exValid_any aoL capL lL hlL hx.out.2.2.2 w hO hT
      have hRL := fun w hT => rexValid_any aoL capL lL hlL hx.out.2.2.2 w hT
      rw [hvD] at hVD
      rw [hvL] at hVL hRL
      have HVD := Lib.hid hVD
      have HVL := Lib.hid hVL
      have HRL := Lib.hid hRL
      have HTD := Lib.hid (hTD.later hb4)
      have HTL := Lib.hid hTL
      replace HB := Lib.hid (bt HB.out hb4)
      clear hVD hVL hRL hTD hTL hb4 hv hvD hvL hlD hlL hokD hb hx hown hown3 haw3 hb3 hat3 hlt3 hl3 hL hB z HD hD1 hD2 Hnk
      cases b
      all_goals
        go_wp2_with fail
        refine (HVD.out _ (HO.out.below HB.out) HTD.out).mono ?_
        rintro e w5 ⟨rfl, hb⟩
        replace HB := Lib.hid (bt HB.out hb)
        replace HTL := Lib.hid (HTL.out.later hb)
        clear hb
        go_wp2_with fail
        refine (HVL.out _ (HO.out.below HB.out) HTL.out).mono ?_
        rintro e w6 ⟨rfl, hb⟩
        replace HB := Lib.hid (bt HB.out hb)
        replace HTL := Lib.hid (HTL.out.later hb)
        clear hb
        go_wp2_with fail
        refine (HRL.out _ HTL.out).mono ?_
        rintro e w7 ⟨rfl, hb⟩
        replace HB := Lib.hid (bt HB.out hb)
        replace HTL := Lib.hid (HTL.out.later hb)
        clear hb
        go_wp2_with fail
        refine (HVL.out _ (HO.out.below HB.out) HTL.out).mono ?_
        rintro e w8 ⟨rfl, hb⟩
        replace HB := Lib.hid (bt HB.out hb)
        clear hb HTL HTD
        go_wp2_with fail
        refine (awake_any _ (HO.out.below HB.out) (tab_below HTb.out HB.out)).mono ?_
        rintro e w9 ⟨rfl, hb⟩
        replace HB := Lib.hid (bt HB.out hb)
        clear hb
        go_wp2_with fail
        go_ret
        exact ⟨rfl, HB.out⟩
theorem W_ExprLimits (n : Int) (w : World) (hwf : (Lit.int .u8 n).wf = true) (hO : Ops w) (ht : Tab w) :
    Calls Tryd.prog 4 #[.int .u8 n] w fun e w' => e = .returned (.bool true) ∧ Below w.heap.size w w' := by
  have hn' := bounds_u8 hwf
  have hn : 0 ≤ n ∧ n < 256 := by omega
  have h3 : n % 3 = 0 ∨ n % 3 = 1 ∨ n % 3 = 2 := by omega
  rcases h3 with h | h | h
  · exact limits_k 14 (by decide) (by decide) n hn (by omega) w hO ht
  · exact limits_k 15 (by decide) (by decide) n hn (by omega) w hO ht
  · exact limits_k 16 (by decide) (by decide) n hn (by omega) w hO ht
end Go.Proofs.YtmikeifkmjhioaaDoor
