/- The walk of the law BagLimits. -/
import Derived.Test.YtdckpjkbchibjaaBs
import Derived.OpenShut
namespace Go.Proofs.Ytdckpjkbchibjaa
open Go.RowKit Go.Proofs.EB
set_option maxHeartbeats 8000000
set_option maxRecDepth 100000
attribute [local go_sem] World.cell?_alloc_some

def vN (i : Nat) : V := ⟨1, i, ⟨#[]⟩⟩
def genE (k : Nat) : List En := (List.range k).map fun i => ([vN i], 1)
theorem vN_valid {i : Nat} (h : i ≤ 100000) : vB (vN i) = true := by
  have h1 : (-4294967296 : Int) ≤ (i : Int) := by omega
  have h2 : (i : Int) ≤ 4294967296 := by omega
  simp [vN, vB, validB, ByteArray.toList_eq, h1, h2]
theorem vN_lt {i j : Nat} (hi : i ≤ 100000) (hj : j ≤ 100000) (h : i < j) : cmpRows [vN i] [vN j] < 0 := by
  have hc : cmpV (vN i) (vN j) = -1 := by
    unfold cmpV
    rw [cleanV_idem (vN_valid hi), cleanV_idem (vN_valid hj)]
    unfold cmpC vN Lib.compareInt
    simp
    omega
  simp only [cmpRows, hc]
  decide
theorem genE_len (k : Nat) : (genE k).length = k := by simp [genE]
theorem genE_mem {k : Nat} {e : En} (h : e ∈ genE k) : ∃ i, i < k ∧ e = ([vN i], 1) := by
  unfold genE at h
  obtain ⟨i, hi, rfl⟩ := List.mem_map.1 h
  exact ⟨i, List.mem_range.1 hi, rfl⟩
theorem genE_snoc (k : Nat) : genE (k + 1) = genE k ++ [([vN k], 1)] := by simp [genE, List.range_succ]
theorem genE_all {k : Nat} (hk : k ≤ 100000) : (genE k).all enB = true := by
  rw [List.all_eq_true]
  intro e he
  obtain ⟨i, hi, rfl⟩ := genE_mem he
  unfold enB rowB
  simp [vN_valid (show i ≤ 100000 by omega), mulB]
theorem genE_asc {k : Nat} (hk : k ≤ 100000) : AscE (genE k) := by
  unfold AscE genE
  rw [List.pairwise_map]
  exact List.Pairwise.imp_of_mem (fun {a b} ha hb h => vN_lt (by have := List.mem_range.1 ha; omega) (by have := List.mem_range.1 hb; omega) h) List.pairwise_lt_range
theorem genE_bag {k : Nat} (hk : k ≤ 100000) : bagB (genE k) = decide (k ≤ 4096) := by
  by_cases h : k ≤ 4096
  · rw [decide_eq_true h]
    exact is_bagB ⟨genE_asc hk, fun e he => by obtain ⟨i, _, rfl⟩ := genE_mem he; dsimp only; omega, enB_vr (genE_all hk)⟩ (genE_all hk) (by rw [genE_len]; exact h)
  · rw [decide_eq_false h, Bool.eq_false_iff]
    intro hb
    have := (bagB_is hb).2.2
    rw [genE_len] at this
    exact h this
theorem over_a : addR [([vA], 262144)] [([vA], 1)] = ([], 9) := by
  have h1 : bagB [([vA], (262144 : Int))] = true := by kernel_rfl
  have h2 : bagB [([vA], (1 : Int))] = true := by kernel_rfl
  unfold addR
  rw [if_pos ⟨h1, h2⟩, merge_ne (x := ([vA], 262144)) (y := ([vA], 1)) [] [] (cmp_refl _) (by decide), merge_nil']
  unfold fitsR
  rw [if_neg (by simp), if_neg (by simp [mulB])]
theorem blimits_k (K : Nat) (D : Int) (hK : 4095 ≤ K) (hK2 : K ≤ 4097) (hD : D = (K : Int) - 4096) (n : Int) (hn : 0 ≤ n ∧ n < 256) (hnk : n % 3 = D + 1) (w : World) :
    Calls Try.prog 5 #[.int .u8 n] w fun e w' => e = .returned (.bool true) ∧ Below w.heap.size w w' := by
  have hn0 := hn.1
  have hm : n.tmod 3 = D + 1 := by rw [Int.tmod_eq_emod_of_nonneg hn0]; exact hnk
  have hn1 := hn.2
  have hd0 : -1 ≤ D := by omega
  have hd1 : D ≤ 1 := by omega
  have hw1 : IntKind.u8.wrap (D + 1) = D + 1 := by
    have h3 : D = -1 ∨ D = 0 ∨ D = 1 := by omega
    rcases h3 with rfl | rfl | rfl <;> rfl
  have HD := Lib.hid hD
  clear hn hnk hD
  go_enter Try.func5, Try.ntmps5
  go_wp2_with fail
  go_loopw [4, 5] (fun v i wr => ∃ (k : Nat) (lo : List Be) (vr : Value), k ≤ K ∧ i = .int .i64 k ∧ vr = v ∧ lo.length = k ∧ OwnsR encBe 2 wr w.heap.size 34 vr lo ∧ Hid (Below w.heap.size w wr) ∧ w.heap.size ≤ wr.heap.size ∧ Hid (ens lo = genE k ∧ ∀ x ∈ lo, EntOk wr w.heap.size 1 1 vr x)) (fun _ i _ => K - (intOf i).toNat)
  case atStart => exact ⟨0, [], _, Nat.zero_le _, rfl, rfl, rfl, OwnsR.nil, Below.refl _ _, Nat.le_refl _, rfl, fun x hx => by simp at hx⟩
  case round =>
    obtain ⟨k, lo, vr, hk, rfl, rfl, hlo, hown, hbl, hsz, hP⟩ := hrel
    have hlo2 : lo.length ≤ 4097 := by omega
    have Hlo := Lib.hid hlo
    clear hlo
    by_cases hlt : k < K
    · have q0 : (k : Int) < 4096 + D := by have := HD.out; omega
      have q1 : (0 : Int) ≤ (k : Int) := by omega
      have q2 : (k : Int) ≤ 4097 := by omega
      go_wp2_with fail
      refine (rint_lit (k : Int) ⟨by omega, by omega⟩ _).mono ?_
      rintro e w2 ⟨rfl, hb2⟩
      have hr := Lib.hid (row_one w2 1 (k : Int) ⟨#[]⟩ ⟨by simp, by dsimp only; omega, by simp [maxLen, ByteArray.size]⟩)
      have hb3 := belowT hb2 (below1 w2 (.cells #[.int .i64 1, .int .i64 (k : Int), .string ⟨#[]⟩] 42))
      obtain ⟨G, hG⟩ : ∃ G, G = w2.heap.size := ⟨_, rfl⟩
      have hGw : wr.heap.size ≤ G := by rw [hG]; exact hb2.size
      have hGs : G < (w2.alloc (.cells #[.int .i64 1, .int .i64 (k : Int), .string ⟨#[]⟩] 42)).heap.size := by simp; omega
      have hownb : OwnsR encBe 2 (w2.alloc (.cells #[.int .i64 1, .int .i64 (k : Int), .string ⟨#[]⟩] 42)) w.heap.size 34 vr lo := OwnsR.below hown hb3
      have hszb : w.heap.size ≤ (w2.alloc (.cells #[.int .i64 1, .int .i64 (k : Int), .string ⟨#[]⟩] 42)).heap.size := by have := hb3.size; omega
      have Hb3 := Lib.hid hb3
      have HGw := Lib.hid hGw
      have HGs := Lib.hid hGs
      have Hown0 := Lib.hid (fun b hb => (hown.lt b hb).2)
      clear hb2 hb3 hGw hGs
      go_wp2_with (at_builtin; go_loud (refine wpList_appR (enc := encBe) (m := 2) Try.underlying23 infoE rfl (by decide) encBe_len encBe_one _ (w2.alloc (.cells #[.int .i64 1, .int .i64 (k : Int), .string ⟨#[]⟩] 42)) rfl (.tmp 23) (.tmp 28) rfl w.heap.size _ lo rfl hownb [⟨⟨some ⟨w2.heap.size, 0, none⟩, 1, [vN k]⟩, 1⟩] 1 1 #[.slice (some ⟨w2.heap.size, 0, none⟩) 1 1, .int .i64 1] (by simp [go_sem]) rfl rfl rfl rfl rfl rfl (by decide) (by omega) (by unfold maxLen; omega) hszb ?_; intro l3 g3 cap3 w3 hl3 hown3 haw3 hb4 hat3 hlt3))
      go_roundw
      case rel =>
        have hB4 : Below w.heap.size w w3 := (belowT hbl.out Hb3.out).trans hb4
        refine ⟨k + 1, l3, _, by omega, by go_num, rfl, by rw [hl3.out]; simp; exact Hlo.out, hown3, hB4, hB4.size, by rw [hl3.out, ens_app, hP.out.1, genE_snoc]; rfl, fun y hy => ?_⟩
        rw [hl3.out] at hy
        rcases List.mem_append.1 hy with hy | hy
        · obtain ⟨k1, k2, k3, k4, k5⟩ := (hP.out.2 y hy)
          have k1b := k1.later Hb3.out
          refine ⟨k1b.away haw3 (fun b o e => fun hb => (k5 b o e).2.2 hb.symm), k2, k3, k4, fun b o e => ⟨(k5 b o e).1, ?_, ?_⟩⟩
          · have := (k5 b o e).2.1; have := Hb3.out.size; have := haw3.size; omega
          · show some g3 ≠ some b
            intro hg
            have h9 := k5 b o e
            rcases hat3 with h8 | h8
            · exact h9.2.2 (h8.trans hg)
            · simp only [Option.some.injEq] at hg; have := Hb3.out.size; omega
        · rw [List.mem_singleton] at hy
          subst hy
          refine ⟨hr.out.away haw3 (fun b o e => fun hb => ?_), fun v hv => ?_, rfl, ⟨by dsimp only; omega, by dsimp only; omega⟩, fun b o e => ?_⟩
          · simp only [Option.some.injEq, Addr.mk.injEq] at e
            have := Hown0.out b hb.symm; have := HGw.out; omega
          · dsimp only at hv
            rw [List.mem_singleton] at hv
            subst hv
            exact vN_valid (by omega)
          · simp only [Option.some.injEq, Addr.mk.injEq] at e
            refine ⟨by have := HGw.out; omega, by have := HGs.out; have := haw3.size; omega, ?_⟩
            show some g3 ≠ some b
            intro hg
            simp only [Option.some.injEq] at hg
            rcases hat3 with h8 | h8
            · have := Hown0.out g3 h8; have := HGw.out; omega
            · have := HGs.out; omega
      case measure => simp [intOf]; omega
    · have hkK : k = K := by omega
      subst hkK
      have hlk := Hlo.out
      subst hlk
      obtain ⟨ax, cx, rfl, hao, hnil, hcap, _⟩ := own_slice hown
      obtain ⟨g0, rfl⟩ := hao (by omega)
      have S0 := Lib.hid (ents_bag (by decide) hown hP.out.2)
      have HE := Lib.hid hP.out.1
      have q0 : ¬ (lo.length : Int) < 4096 + D := by have := HD.out; omega
      have z1 : decide ((lo.length : Int) < 4096 + D) = false := by simpa using q0
      have hbl0 := Lib.hid hbl.out
      obtain ⟨vb, hvb⟩ : ∃ vb, decide (D ≤ 0) = vb := ⟨_, rfl⟩
      have HV := Lib.hid (show bagB (ens lo) = vb by
        rw [HE.out, genE_bag (by omega), ← hvb]
        have := HD.out
        by_cases h : lo.length ≤ 4096
        · rw [decide_eq_true h, decide_eq_true (by omega)]
        · rw [decide_eq_false h, decide_eq_false (by omega)])
      clear hown hbl hP hao hnil Hlo hk hlt hm
      go_wp2_with fail
      refine (one_any _ (by decide) _).mono ?_
      rintro e w6 ⟨b6, rfl, r6, hb6⟩
      go_wp2_with fail
      refine (one_any _ (by decide) _).mono ?_
      rintro e w7 ⟨b7, rfl, r7, hb7⟩
      have Sm := Lib.hid (new_bag (w := w7) (C := #[.slice (some ⟨b6, 0, none⟩) 1 1, .int .i64 262144, .slice (some ⟨b7, 0, none⟩) 1 1, .int .i64 D]) [⟨⟨some ⟨b6, 0, none⟩, 1, [vA]⟩, 262144⟩, ⟨⟨some ⟨b7, 0, none⟩, 1, [vA]⟩, D⟩] rfl (by simp [maxLen]) (by
        intro x hx
        simp only [List.mem_cons, List.not_mem_nil, or_false] at hx
        rcases hx with rfl | rfl
        · exact ⟨r6.out.later hb7, by unfold n64; dsimp only; omega⟩
        · exact ⟨r7.out, by unfold n64; dsimp only; omega⟩))
      have S0 := Lib.hid (BagS.later (BagS.later (BagS.later S0.out hb6) hb7) (below1 w7 (.cells #[.slice (some ⟨b6, 0, none⟩) 1 1, .int .i64 262144, .slice (some ⟨b7, 0, none⟩) 1 1, .int .i64 D] 34)))
      have HB := Lib.hid (belowT (belowT (belowT hbl0.out hb6) hb7) (below1 w7 (.cells #[.slice (some ⟨b6, 0, none⟩) 1 1, .int .i64 262144, .slice (some ⟨b7, 0, none⟩) 1 1, .int .i64 D] 34)))
      clear r6 r7 hb6 hb7 hbl0
      go_wp2_with fail
      generalize (w7.alloc (.cells #[.slice (some ⟨b6, 0, none⟩) 1 1, .int .i64 262144, .slice (some ⟨b7, 0, none⟩) 1 1, .int .i64 D] 34)) = w8 at *
      generalize w7.heap.size = G at *
      refine (normalizes_any _ _ lo _ (by omega) S0.out).mono ?_
      rintro e w9 ⟨rfl, hb9⟩
      have S0 := Lib.hid (BagS.later S0.out hb9)
      have Sm := Lib.hid (BagS.later Sm.out hb9)
      have HB := Lib.hid (belowT HB.out hb9)
      clear hb9
      go_wp2_with fail
      refine (normalizes_any _ _ [⟨⟨some ⟨b6, 0, none⟩, 1, [vA]⟩, 262144⟩, ⟨⟨some ⟨b7, 0, none⟩, 1, [vA]⟩, D⟩] _ (by simp) Sm.out).mono ?_
      rintro e wa ⟨rfl, hb9⟩
      have S0 := Lib.hid (BagS.later S0.out hb9)
      have Sm := Lib.hid (BagS.later Sm.out hb9)
      have HB := Lib.hid (belowT HB.out hb9)
      clear hb9
      go_wp2_with fail
      refine (pbValid_any _ _ lo _ S0.out).mono ?_
      rw [HV.out]
      rintro e wb ⟨rfl, hb9⟩
      have S0 := Lib.hid (BagS.later S0.out hb9)
      have Sm := Lib.hid (BagS.later Sm.out hb9)
      have HB := Lib.hid (belowT HB.out hb9)
      clear hb9
      go_wp2_with fail
      refine wp_region_held_drew (S := (fun w1 => Below wb.heap.size wb w1)) (by kernel_rfl) ?_ (fun hHeld => ?_)
      · exact (Below.refl _ _).drew
      refine wpAnyH_take (i := 0) (oi := ⟨some 52, _, _, _, _, _⟩) (v := ?_) rfl (by kernel_rfl) (by kernel_rfl) (by kernel_rfl) (fun _ _ _ h => h) (Or.inl ⟨rfl, ?_⟩) hHeld ?_
      rotate_left 1
      · (intro w hSw; (try dsimp only at hSw); go_simp <;> with_reducible rfl)
      try simp only [Act.put, List.setIfInBounds_toArray, List.set_cons_zero, List.set_cons_succ]
      refine wpAnyH_take (i := 1) (oi := ⟨some 53, _, _, _, _, _⟩) (v := ?_) rfl (by kernel_rfl) (by kernel_rfl) (by kernel_rfl) (fun _ _ _ h => h) (Or.inl ⟨rfl, ?_⟩) hHeld ?_
      rotate_left 1
      · (intro w hSw; (try dsimp only at hSw); go_simp <;> with_reducible rfl)
      try simp only [Act.put, List.setIfInBounds_toArray, List.set_cons_zero, List.set_cons_succ]
      refine wpAnyH_ready (rs := [2]) (by kernel_rfl) (by simp) ?_
      refine AllReadyH.cons (o := ⟨some 54, _, _, _, _, _⟩) rfl (fun K hK => ?_) AllReadyH.nil
      go_simp
      (go_at_call 31; refine (one_any _ (by decide) _).mono ?_; rintro e w1 ⟨ba, rfl, ra, hb1⟩; have Sn := Lib.hid (new_bag (w := w1) (C := #[.slice (some ⟨ba, 0, none⟩) 1 1, .int .i64 1]) [⟨⟨some ⟨ba, 0, none⟩, 1, [vA]⟩, 1⟩] rfl (by simp [maxLen]) (by intro x hx; rw [List.mem_singleton] at hx; subst hx; exact ⟨ra.out, n64_small _ (by dsimp only; omega)⟩)))
      refine hK.out _ _ ?_ (fun hHeld => ?_)
      · exact belowT (by assumption) (by assumption)
      clear hK K
      try simp only [Act.put, List.setIfInBounds_toArray, List.set_cons_zero, List.set_cons_succ]
      refine wpAnyH_take (i := 3) (oi := ⟨some 55, _, _, _, _, _⟩) (v := ?_) rfl (by kernel_rfl) (by kernel_rfl) (by kernel_rfl) (fun _ _ _ h => h) (Or.inl ⟨rfl, ?_⟩) hHeld ?_
      rotate_left 1
      · (intro w hSw; (try dsimp only at hSw); go_simp <;> with_reducible rfl)
      try simp only [Act.put, List.setIfInBounds_toArray, List.set_cons_zero, List.set_cons_succ]
      refine wpAnyH_ready (rs := [4]) (by kernel_rfl) (by simp) ?_
      refine AllReadyH.cons (o := ⟨some 56, _, _, _, _, _⟩) rfl (fun K hK => ?_) AllReadyH.nil
      go_simp
      refine hK.out _ _ ?_ (fun hHeld => ?_)
      · exact belowT (by assumption) (below1 _ _)
      clear hK K
      try simp only [Act.put, List.setIfInBounds_toArray, List.set_cons_zero, List.set_cons_succ]
      refine wpAnyH_ready (rs := [5]) (by kernel_rfl) (by simp) ?_
      refine AllReadyH.cons (o := ⟨some 57, _, _, _, _, _⟩) rfl (fun K hK => ?_) AllReadyH.nil
      go_simp
      (go_at_call 32; refine (pbAdd_any _ _ 2 1 [⟨⟨some ⟨b6, 0, none⟩, 1, [vA]⟩, 262144⟩] [⟨⟨some ⟨ba, 0, none⟩, 1, [vA]⟩, 1⟩] _ (BagS.later (RdS.take Sm.out 1) (by assumption)) (by exact Sn.out)).mono ?_; rw [show addR (ens [⟨⟨some ⟨b6, 0, none⟩, 1, [vA]⟩, 262144⟩]) (ens [⟨⟨some ⟨ba, 0, none⟩, 1, [vA]⟩, 1⟩]) = ([], 9) from over_a]; rintro e w2 ⟨aa, ca, la, na, rfl, Ea, rfl, Sa, hb1, _⟩)
      refine hK.out _ _ ?_ (fun hHeld => ?_)
      · exact belowT (by assumption) (by assumption)
      clear hK K
      try simp only
      refine wpAnyH_take (i := 6) (oi := ⟨some 51, _, _, _, _, _⟩) (v := ?_) rfl (by kernel_rfl) (by kernel_rfl) (by kernel_rfl) (fun _ _ _ h => h) (Or.inl ⟨rfl, ?_⟩) hHeld ?_
      rotate_left 1
      · (intro w hSw; (try dsimp only at hSw); go_simp <;> with_reducible rfl)
      try simp only [Act.put, List.setIfInBounds_toArray, List.set_cons_zero, List.set_cons_succ]
      refine wpAnyH_take (i := 7) (oi := ⟨some 58, _, _, _, _, _⟩) (v := ?_) rfl (by kernel_rfl) (by kernel_rfl) (by kernel_rfl) (fun _ _ _ h => h) (Or.inl ⟨rfl, ?_⟩) hHeld ?_
      rotate_left 1
      · (intro w hSw; (try dsimp only at hSw); go_simp <;> with_reducible rfl)
      try simp only [Act.put, List.setIfInBounds_toArray, List.set_cons_zero, List.set_cons_succ]
      refine wpAnyH_take (i := 8) (oi := ⟨some 59, _, _, _, _, _⟩) (v := ?_) rfl (by kernel_rfl) (by kernel_rfl) (by kernel_rfl) (fun _ _ _ h => h) (Or.inl ⟨rfl, ?_⟩) hHeld ?_
      rotate_left 1
      · (intro w hSw; (try dsimp only at hSw); go_simp <;> with_reducible rfl)
      try simp only [Act.put, List.setIfInBounds_toArray, List.set_cons_zero, List.set_cons_succ]
      refine wpAnyH_take (i := 9) (oi := ⟨some 7, _, _, _, _, _⟩) (v := ?_) rfl (by kernel_rfl) (by kernel_rfl) (by kernel_rfl) (fun _ _ _ h => h) (Or.inl ⟨rfl, ?_⟩) hHeld ?_
      rotate_left 1
      · (intro w hSw; (try dsimp only at hSw); go_simp <;> with_reducible rfl)
      try simp only [Act.put, List.setIfInBounds_toArray, List.set_cons_zero, List.set_cons_succ]
      refine wpAnyH_take (i := 10) (oi := ⟨some 8, _, _, _, _, _⟩) (v := ?_) rfl (by kernel_rfl) (by kernel_rfl) (by kernel_rfl) (fun _ _ _ h => h) (Or.inl ⟨rfl, ?_⟩) hHeld ?_
      rotate_left 1
      · (intro w hSw; (try dsimp only at hSw); go_simp <;> with_reducible rfl)
      try simp only [Act.put, List.setIfInBounds_toArray, List.set_cons_zero, List.set_cons_succ]
      refine wpAnyH_done (by kernel_rfl) ?_ _
      have S0 := Lib.hid (BagS.later S0.out hHeld)
      have HB := Lib.hid (belowT HB.out hHeld)
      have hla : la.length = 0 := by have := congrArg List.length Ea.out; rwa [ens_len] at this
      have zla : ((la.length : Int) == 0) = true := by rw [hla]; rfl
      clear Sm Sa hHeld hla Ea
      generalize w2 = wd at *
      have h95 : (lo.take 4095).length = 4095 := by rw [List.length_take]; omega
      have h94 : (lo.drop 4094).length = lo.length - 4094 := List.length_drop
      have s95 := fun (W : World) (hb : Below wd.heap.size wd W) => RdS.take (BagS.later S0.out hb) 4095
      have s94 : ∀ (W : World) (_ : Below wd.heap.size wd W), BagS W W.heap.size ⟨some ⟨g0, 8188, none⟩, cx - 4094, lo.drop 4094⟩ := fun W hb => BagS.drop (BagS.later S0.out hb) 4094 (by omega)
      have hPA := fun (W : World) (hb : Below wd.heap.size wd W) => pbAdd_any _ _ cx (cx - 4094) (lo.take 4095) (lo.drop 4094) W (s95 W hb) (s94 W hb)
      have hRA := fun (W : World) (hb : Below wd.heap.size wd W) => rbAdd_any _ _ cx (cx - 4094) (lo.take 4095) (lo.drop 4094) W (s95 W hb) (s94 W hb)
      obtain ⟨pr, hpr⟩ : ∃ pr, addR (ens (lo.take 4095)) (ens (lo.drop 4094)) = pr := ⟨_, rfl⟩
      rw [h95, h94, hpr] at hPA hRA
      have HPA := Lib.hid hPA
      have HRA := Lib.hid hRA
      have y1 : (4095 : Int) ≤ (cx : Int) := by omega
      have y2 : (4094 : Int) ≤ (lo.length : Int) := by omega
      have y3 : ¬ cx = 4094 := by omega
      have y4 : 4094 ≤ lo.length := by omega
      have y5 : 4095 ≤ cx := by omega
      clear h95 h94 s95 s94 hPA hRA hpr HV hvb z1 HE hcap
      go_wp2_with fail
      refine wp_region_held_drew (S := (fun w1 => Below wd.heap.size wd w1)) (by kernel_rfl) ?_ (fun hHeld => ?_)
      · exact (Below.refl _ _).drew
      refine wpAnyH_take (i := 0) (oi := ⟨some 61, _, _, _, _, _⟩) (v := ?_) rfl (by kernel_rfl) (by kernel_rfl) (by kernel_rfl) (fun _ _ _ h => h) (Or.inl ⟨rfl, ?_⟩) hHeld ?_
      rotate_left 1
      · (intro w hSw; (try dsimp only at hSw); go_simp <;> with_reducible rfl)
      try simp only [Act.put, List.setIfInBounds_toArray, List.set_cons_zero, List.set_cons_succ]
      refine wpAnyH_take (i := 1) (oi := ⟨some 62, _, _, _, _, _⟩) (v := ?_) rfl (by kernel_rfl) (by kernel_rfl) (by kernel_rfl) (fun _ _ _ h => h) (Or.inl ⟨rfl, ?_⟩) hHeld ?_
      rotate_left 1
      · (intro w hSw; (try dsimp only at hSw); go_simp <;> with_reducible rfl)
      try simp only [Act.put, List.setIfInBounds_toArray, List.set_cons_zero, List.set_cons_succ]
      refine wpAnyH_take (i := 2) (oi := ⟨some 63, _, _, _, _, _⟩) (v := ?_) rfl (by kernel_rfl) (by kernel_rfl) (by kernel_rfl) (fun _ _ _ h => h) (Or.inl ⟨rfl, ?_⟩) hHeld ?_
      rotate_left 1
      · (intro w hSw; (try dsimp only at hSw); go_simp <;> with_reducible rfl)
      try simp only [Act.put, List.setIfInBounds_toArray, List.set_cons_zero, List.set_cons_succ]
      refine wpAnyH_take (i := 3) (oi := ⟨some 64, _, _, _, _, _⟩) (v := ?_) rfl (by kernel_rfl) (by kernel_rfl) (by kernel_rfl) (fun _ _ _ h => h) (Or.inl ⟨rfl, ?_⟩) hHeld ?_
      rotate_left 1
      · (intro w hSw; (try dsimp only at hSw); go_simp <;> with_reducible rfl)
      try simp only [Act.put, List.setIfInBounds_toArray, List.set_cons_zero, List.set_cons_succ]
      refine wpAnyH_ready (rs := [4]) (by kernel_rfl) (by simp) ?_
      refine AllReadyH.cons (o := ⟨some 65, _, _, _, _, _⟩) rfl (fun K hK => ?_) AllReadyH.nil
      go_simp
      (go_at_call 32; refine (HPA.out _ (by assumption)).mono ?_; rintro e w1 ⟨aj, cj, lj, nj, rfl, Ej, hnj, Sj, hb1, _⟩; have Hnj := Lib.hid hnj; clear hnj)
      refine hK.out _ _ ?_ (fun hHeld => ?_)
      · exact belowT (by assumption) (by assumption)
      clear hK K
      try simp only [Act.put, List.setIfInBounds_toArray, List.set_cons_zero, List.set_cons_succ]
      refine wpAnyH_take (i := 5) (oi := ⟨some 60, _, _, _, _, _⟩) (v := ?_) rfl (by kernel_rfl) (by kernel_rfl) (by kernel_rfl) (fun _ _ _ h => h) (Or.inl ⟨rfl, ?_⟩) hHeld ?_
      rotate_left 1
      · (intro w hSw; (try dsimp only at hSw); go_simp <;> with_reducible rfl)
      try simp only [Act.put, List.setIfInBounds_toArray, List.set_cons_zero, List.set_cons_succ]
      refine wpAnyH_take (i := 6) (oi := ⟨some 66, _, _, _, _, _⟩) (v := ?_) rfl (by kernel_rfl) (by kernel_rfl) (by kernel_rfl) (fun _ _ _ h => h) (Or.inl ⟨rfl, ?_⟩) hHeld ?_
      rotate_left 1
      · (intro w hSw; (try dsimp only at hSw); go_simp <;> with_reducible rfl)
      try simp only [Act.put, List.setIfInBounds_toArray, List.set_cons_zero, List.set_cons_succ]
      refine wpAnyH_take (i := 7) (oi := ⟨some 67, _, _, _, _, _⟩) (v := ?_) rfl (by kernel_rfl) (by kernel_rfl) (by kernel_rfl) (fun _ _ _ h => h) (Or.inl ⟨rfl, ?_⟩) hHeld ?_
      rotate_left 1
      · (intro w hSw; (try dsimp only at hSw); go_simp <;> with_reducible rfl)
      try simp only [Act.put, List.setIfInBounds_toArray, List.set_cons_zero, List.set_cons_succ]
      refine wpAnyH_take (i := 8) (oi := ⟨some 9, _, _, _, _, _⟩) (v := ?_) rfl (by kernel_rfl) (by kernel_rfl) (by kernel_rfl) (fun _ _ _ h => h) (Or.inl ⟨rfl, ?_⟩) hHeld ?_
      rotate_left 1
      · (intro w hSw; (try dsimp only at hSw); go_simp <;> with_reducible rfl)
      try simp only [Act.put, List.setIfInBounds_toArray, List.set_cons_zero, List.set_cons_succ]
      refine wpAnyH_take (i := 9) (oi := ⟨some 10, _, _, _, _, _⟩) (v := ?_) rfl (by kernel_rfl) (by kernel_rfl) (by kernel_rfl) (fun _ _ _ h => h) (Or.inl ⟨rfl, ?_⟩) hHeld ?_
      rotate_left 1
      · (intro w hSw; (try dsimp only at hSw); go_simp <;> with_reducible rfl)
      try simp only [Act.put, List.setIfInBounds_toArray, List.set_cons_zero, List.set_cons_succ]
      refine wpAnyH_done (by kernel_rfl) ?_ _
      have HB := Lib.hid (belowT HB.out hHeld)
      have HDW := Lib.hid hHeld
      clear hHeld
      generalize w1 = we at *
      go_wp2_with fail
      refine wp_region_held_drew (S := (fun w1 => Below we.heap.size we w1)) (by kernel_rfl) ?_ (fun hHeld => ?_)
      · exact (Below.refl _ _).drew
      refine wpAnyH_take (i := 0) (oi := ⟨some 69, _, _, _, _, _⟩) (v := ?_) rfl (by kernel_rfl) (by kernel_rfl) (by kernel_rfl) (fun _ _ _ h => h) (Or.inl ⟨rfl, ?_⟩) hHeld ?_
      rotate_left 1
      · (intro w hSw; (try dsimp only at hSw); go_simp <;> with_reducible rfl)
      try simp only [Act.put, List.setIfInBounds_toArray, List.set_cons_zero, List.set_cons_succ]
      refine wpAnyH_take (i := 1) (oi := ⟨some 70, _, _, _, _, _⟩) (v := ?_) rfl (by kernel_rfl) (by kernel_rfl) (by kernel_rfl) (fun _ _ _ h => h) (Or.inl ⟨rfl, ?_⟩) hHeld ?_
      rotate_left 1
      · (intro w hSw; (try dsimp only at hSw); go_simp <;> with_reducible rfl)
      try simp only [Act.put, List.setIfInBounds_toArray, List.set_cons_zero, List.set_cons_succ]
      refine wpAnyH_take (i := 2) (oi := ⟨some 71, _, _, _, _, _⟩) (v := ?_) rfl (by kernel_rfl) (by kernel_rfl) (by kernel_rfl) (fun _ _ _ h => h) (Or.inl ⟨rfl, ?_⟩) hHeld ?_
      rotate_left 1
      · (intro w hSw; (try dsimp only at hSw); go_simp <;> with_reducible rfl)
      try simp only [Act.put, List.setIfInBounds_toArray, List.set_cons_zero, List.set_cons_succ]
      refine wpAnyH_take (i := 3) (oi := ⟨some 72, _, _, _, _, _⟩) (v := ?_) rfl (by kernel_rfl) (by kernel_rfl) (by kernel_rfl) (fun _ _ _ h => h) (Or.inl ⟨rfl, ?_⟩) hHeld ?_
      rotate_left 1
      · (intro w hSw; (try dsimp only at hSw); go_simp <;> with_reducible rfl)
      try simp only [Act.put, List.setIfInBounds_toArray, List.set_cons_zero, List.set_cons_succ]
      refine wpAnyH_ready (rs := [4]) (by kernel_rfl) (by simp) ?_
      refine AllReadyH.cons (o := ⟨some 73, _, _, _, _, _⟩) rfl (fun K hK => ?_) AllReadyH.nil
      go_simp
      (go_at_call 33; refine (HRA.out _ (belowT HDW.out (by assumption))).mono ?_; rintro e w2 ⟨aq, cq, lq, nq, rfl, hlq, hSq, hb1, _⟩)
      refine hK.out _ _ ?_ (fun hHeld => ?_)
      · exact belowT (by assumption) (by assumption)
      clear hK K
      try simp only [Act.put, List.setIfInBounds_toArray, List.set_cons_zero, List.set_cons_succ]
      refine wpAnyH_take (i := 5) (oi := ⟨some 68, _, _, _, _, _⟩) (v := ?_) rfl (by kernel_rfl) (by kernel_rfl) (by kernel_rfl) (fun _ _ _ h => h) (Or.inl ⟨rfl, ?_⟩) hHeld ?_
      rotate_left 1
      · (intro w hSw; (try dsimp only at hSw); go_simp <;> with_reducible rfl)
      try simp only [Act.put, List.setIfInBounds_toArray, List.set_cons_zero, List.set_cons_succ]
      refine wpAnyH_take (i := 6) (oi := ⟨some 74, _, _, _, _, _⟩) (v := ?_) rfl (by kernel_rfl) (by kernel_rfl) (by kernel_rfl) (fun _ _ _ h => h) (Or.inl ⟨rfl, ?_⟩) hHeld ?_
      rotate_left 1
      · (intro w hSw; (try dsimp only at hSw); go_simp <;> with_reducible rfl)
      try simp only [Act.put, List.setIfInBounds_toArray, List.set_cons_zero, List.set_cons_succ]
      refine wpAnyH_take (i := 7) (oi := ⟨some 75, _, _, _, _, _⟩) (v := ?_) rfl (by kernel_rfl) (by kernel_rfl) (by kernel_rfl) (fun _ _ _ h => h) (Or.inl ⟨rfl, ?_⟩) hHeld ?_
      rotate_left 1
      · (intro w hSw; (try dsimp only at hSw); go_simp <;> with_reducible rfl)
      try simp only [Act.put, List.setIfInBounds_toArray, List.set_cons_zero, List.set_cons_succ]
      refine wpAnyH_take (i := 8) (oi := ⟨some 11, _, _, _, _, _⟩) (v := ?_) rfl (by kernel_rfl) (by kernel_rfl) (by kernel_rfl) (fun _ _ _ h => h) (Or.inl ⟨rfl, ?_⟩) hHeld ?_
      rotate_left 1
      · (intro w hSw; (try dsimp only at hSw); go_simp <;> with_reducible rfl)
      try simp only [Act.put, List.setIfInBounds_toArray, List.set_cons_zero, List.set_cons_succ]
      refine wpAnyH_take (i := 9) (oi := ⟨some 12, _, _, _, _, _⟩) (v := ?_) rfl (by kernel_rfl) (by kernel_rfl) (by kernel_rfl) (fun _ _ _ h => h) (Or.inl ⟨rfl, ?_⟩) hHeld ?_
      rotate_left 1
      · (intro w hSw; (try dsimp only at hSw); go_simp <;> with_reducible rfl)
      try simp only [Act.put, List.setIfInBounds_toArray, List.set_cons_zero, List.set_cons_succ]
      refine wpAnyH_done (by kernel_rfl) ?_ _
      have HB := Lib.hid (belowT HB.out hHeld)
      have Sj := Lib.hid (BagS.later Sj.out hHeld)
      have Sq := Lib.hid hSq
      obtain rfl : nj = nq := by rw [Hnj.out, hlq.out.2]
      have znn : (nj == nj) = true := by simp
      clear hHeld hSq
      generalize w2 = wf at *
      go_wp2_with fail
      refine (rbSame_any _ _ _ _ lj lq _ true ⟨fun _ => by rw [Ej.out, hlq.out.1], fun _ => rfl⟩ Sj.out Sq.out).mono ?_
      rintro e wg ⟨rfl, hb9⟩
      go_wp2_with fail
      refine (bawake_any _).mono ?_
      rintro e wh ⟨rfl, hb10⟩
      go_wp2_with fail
      go_ret
      exact ⟨rfl, belowT (belowT HB.out hb9) hb10⟩
theorem W_BagLimits (n : Int) (w : World) (hwf : (Lit.int .u8 n).wf = true) :
    Calls Try.prog 5 #[.int .u8 n] w fun e w' => e = .returned (.bool true) ∧ Below w.heap.size w w' := by
  have hn' := bounds_u8 hwf
  have hn : 0 ≤ n ∧ n < 256 := by omega
  have h3 : n % 3 = 0 ∨ n % 3 = 1 ∨ n % 3 = 2 := by omega
  rcases h3 with h | h | h
  · exact blimits_k 4095 (-1) (by decide) (by decide) (by decide) n hn (by omega) w
  · exact blimits_k 4096 0 (by decide) (by decide) (by decide) n hn (by omega) w
  · exact blimits_k 4097 1 (by decide) (by decide) (by decide) n hn (by omega) w
end Go.Proofs.Ytdckpjkbchibjaa
