/- typed, typeOf and Type of the reference. -/
import Derived.Test.YtmikeifkmjhioaaDoorZn
import Derived.Test.YtmikeifkmjhioaaDoorZh
namespace Go.Proofs.YtmikeifkmjhioaaDoor
open Go.RowKit Go.Proofs.EB
set_option maxHeartbeats 8000000
set_option maxRecDepth 100000
attribute [local go_sem] World.cell?_alloc_some
theorem rtyped1 (op a : Int) (b off cap : Nat) (w : World) (ho : op = 3 ∨ op = 9 ∨ op = 13 ∨ op = 16) (ha : a = 1 ∨ a = 2) (c0 : w.cell? ⟨b, off, none⟩ = some (.int .i64 a)) :
    Calls Tryd.prog 74 #[.int .i64 op, .slice (some ⟨b, off, none⟩) 1 cap] w (Gives (.int .i64 (typI op [a])) w) := by
  have hbl : b < w.heap.size := World.block_lt_of_cell? w _ c0
  rcases ho with rfl | rfl | rfl | rfl <;> rcases ha with rfl | rfl
  all_goals
    go_enter Tryd.func74, Tryd.ntmps74
    go_wp2_with fail
    go_ret
    exact ⟨rfl, Below.refl _ _⟩
theorem rtyped2a (op a a' : Int) (b off cap : Nat) (w : World) (ho : op = 4 ∨ op = 5 ∨ op = 6 ∨ op = 7 ∨ op = 8 ∨ op = 10 ∨ op = 14 ∨ op = 15) (ha : a = 1 ∨ a = 2) (ha' : a' = 1 ∨ a' = 2) (c0 : w.cell? ⟨b, off, none⟩ = some (.int .i64 a)) (c1 : w.cell? ⟨b, off + 1, none⟩ = some (.int .i64 a')) :
    Calls Tryd.prog 74 #[.int .i64 op, .slice (some ⟨b, off, none⟩) 2 cap] w (Gives (.int .i64 (typI op [a, a'])) w) := by
  have hbl : b < w.heap.size := World.block_lt_of_cell? w _ c0
  rcases ho with rfl | rfl | rfl | rfl | rfl | rfl | rfl | rfl <;> rcases ha with rfl | rfl <;> rcases ha' with rfl | rfl
  all_goals
    go_enter Tryd.func74, Tryd.ntmps74
    go_wp2_with fail
    go_ret
    exact ⟨rfl, Below.refl _ _⟩
theorem rtyped2b (op a a' : Int) (b off cap : Nat) (w : World) (ho : op = 11 ∨ op = 12 ∨ op = 17) (ha : a = 1 ∨ a = 2) (ha' : a' = 1 ∨ a' = 2) (c0 : w.cell? ⟨b, off, none⟩ = some (.int .i64 a)) (c1 : w.cell? ⟨b, off + 1, none⟩ = some (.int .i64 a')) :
    Calls Tryd.prog 74 #[.int .i64 op, .slice (some ⟨b, off, none⟩) 2 cap] w (Gives (.int .i64 (typI op [a, a'])) w) := by
  have hbl : b < w.heap.size := World.block_lt_of_cell? w _ c0
  rcases ho with rfl | rfl | rfl <;> rcases ha with rfl | rfl <;> rcases ha' with rfl | rfl
  all_goals
    go_enter Tryd.func74, Tryd.ntmps74
    go_wp2_with fail
    go_quiet (fail)
    go_wp2_with fail
    go_ret
    exact ⟨rfl, ⟨rfl, rfl, rfl, Nat.le_refl _, fun _ _ => rfl⟩⟩
theorem rtyped3 (a a' a2 : Int) (b off cap : Nat) (w : World) (ha : a = 1 ∨ a = 2) (ha' : a' = 1 ∨ a' = 2) (ha2 : a2 = 1 ∨ a2 = 2) (c0 : w.cell? ⟨b, off, none⟩ = some (.int .i64 a)) (c1 : w.cell? ⟨b, off + 1, none⟩ = some (.int .i64 a')) (c2 : w.cell? ⟨b, off + 2, none⟩ = some (.int .i64 a2)) :
    Calls Tryd.prog 74 #[.int .i64 18, .slice (some ⟨b, off, none⟩) 3 cap] w (Gives (.int .i64 (typI 18 [a, a', a2])) w) := by
  have hbl : b < w.heap.size := World.block_lt_of_cell? w _ c0
  rcases ha with rfl | rfl <;> rcases ha' with rfl | rfl <;> rcases ha2 with rfl | rfl
  all_goals
    go_enter Tryd.func74, Tryd.ntmps74
    go_wp2_with fail
    go_quiet (fail)
    go_wp2_with fail
    go_ret
    exact ⟨rfl, ⟨rfl, rfl, rfl, Nat.le_refl _, fun _ _ => rfl⟩⟩
theorem RAt.int {w : World} {B b off : Nat} {l : List Int} (h : RAt encInt 1 w B (some ⟨b, off, none⟩) l) {i : Nat} (hi : i < l.length) : w.cell? ⟨b, off + i, none⟩ = some (.int .i64 l[i]) := by
  have := RAt.cell h hi (j := 0) (u := .int .i64 l[i]) rfl
  simpa using this
theorem rtyped_any (op : Int) (ao : Option Addr) (cap : Nat) (ts : List Int) (hl : arityI op = ts.length) (h0 : 0 < ts.length) (hv : ∀ k ∈ ts, k = 1 ∨ k = 2) (w : World) (hR : RAt encInt 1 w w.heap.size ao ts) :
    Calls Tryd.prog 74 #[.int .i64 op, .slice ao ts.length cap] w (Gives (.int .i64 (typI op ts)) w) := by
  obtain ⟨b, off, rfl, _⟩ := hR.form h0
  have h3 := arity_cases op
  rcases ts with _ | ⟨u, _ | ⟨v, _ | ⟨x, _ | ⟨y, l⟩⟩⟩⟩
  · simp at h0
  · have c0 := RAt.int hR (i := 0) (by simp)
    simp only [Nat.add_zero, List.getElem_cons_zero] at c0
    exact rtyped1 op u b off cap w (arity_1 (by simpa using hl)) (hv u (by simp)) c0
  · have c0 := RAt.int hR (i := 0) (by simp)
    have c1 := RAt.int hR (i := 1) (by simp)
    simp only [Nat.add_zero, List.getElem_cons_zero, List.getElem_cons_succ] at c0 c1
    have ho := arity_2 (op := op) (by simpa using hl)
    by_cases hb : op = 11 ∨ op = 12 ∨ op = 17
    · exact rtyped2b op u v b off cap w hb (hv u (by simp)) (hv v (by simp)) c0 c1
    · exact rtyped2a op u v b off cap w (by omega) (hv u (by simp)) (hv v (by simp)) c0 c1
  · have c0 := RAt.int hR (i := 0) (by simp)
    have c1 := RAt.int hR (i := 1) (by simp)
    have c2 := RAt.int hR (i := 2) (by simp)
    simp only [Nat.add_zero, List.getElem_cons_zero, List.getElem_cons_succ] at c0 c1 c2
    obtain rfl := arity_3 (op := op) (by simpa using hl)
    exact rtyped3 u v x b off cap w (hv u (by simp)) (hv v (by simp)) (hv x (by simp)) c0 c1 c2
  · simp only [List.length_cons] at hl; omega
theorem tyOp_err {op : Int} {l1 l2 : List (Int × Int)} {p : Int × Int} (h1 : ∀ q ∈ l1, q.2 = 0) (hp : p.2 ≠ 0) : tyOp op (l1 ++ p :: l2) = (0, p.2) := by
  unfold tyOp
  have : (l1 ++ p :: l2).find? (fun p => p.2 != 0) = some p := by
    rw [List.find?_append, List.find?_eq_none.2 (by intro q hq; simp [h1 q hq])]
    simp [hp]
  rw [this]
theorem tyOp_ok {op : Int} {l : List (Int × Int)} (h1 : ∀ q ∈ l, q.2 = 0) : tyOp op l = if typI op (l.map (·.1)) = 0 then (0, 5) else (typI op (l.map (·.1)), 0) := by
  unfold tyOp
  rw [List.find?_eq_none.2 (by intro q hq; simp [h1 q hq])]
theorem rtypeOf_any (to_ : Option Addr) (tcap : Nat) (types : List Int) (hTy : ∀ k ∈ types, k = 1 ∨ k = 2) (htl : types.length ≤ maxLen) : ∀ x : Ex, x.ok → x.depth ≤ 16 → ∀ (ao : Option Addr) (cap : Nat) (l : List Tm), Hid (l = x.flat) → l.length ≤ 64 → l.length ≤ cap → (∀ t ∈ l, t.okT) → ∀ w : World, TmsAt w w.heap.size ao l → RAt encInt 1 w w.heap.size to_ types →
    Calls Tryd.prog 49 #[.slice ao l.length cap, .slice to_ types.length tcap] w (TyRes (x.fold (tyT types)) w) := by
  intro x
  induction x using Ex.ind with
  | h x ih =>
    intro hxo hxd ao cap l hl h64 hcap hok w hT hR
    have hpos : 0 < l.length := by rw [hl.out]; exact x.flat_pos
    obtain ⟨b, off, rfl, _⟩ := hT.form hpos
    obtain ⟨c0, c1, c2, c3, c4⟩ := RAt.tm hT hpos
    have h0 : l[0] = x.head := by
      have h1 : l = x.head :: flats x.args := hl.out.trans (Ex.flat_eq x)
      subst h1; rfl
    rw [h0] at c0 c1 c2 c3 c4
    simp only [Nat.zero_mul, Nat.add_zero] at c0 c1 c2 c3 c4
    obtain ⟨hx1, hx2, hx3⟩ := (Ex.ok_iff x).1 hxo
    have hfe := Ex.fold_eq (tyT types) x
    have hbl : b < w.heap.size := World.block_lt_of_cell? w _ c0
    unfold maxLen at htl
    by_cases h1 : x.head.op = 1
    · have he : Hid (x.fold (tyT types) = (x.head.v.k, 0)) := by unfold Hid; rw [hfe]; simp [tyT, h1]
      rw [h1] at c0
      generalize x.head.v.k = k at *
      clear hT hR hok hl ih hfe hx1 hx2 hx3 hxo hxd h0 h1 c2 c3 c4 hTy
      go_enter Tryd.func49, Tryd.ntmps49
      go_wp2_with fail
      go_ret2
      exact ⟨_, _, he.out, rfl, Below.refl _ _⟩
    · have y1 : (x.head.op == 1) = false := by simpa using h1
      by_cases h2 : x.head.op = 2
      · have he : Hid (x.fold (tyT types) = match types[x.head.c.toNat]? with | some k => (k, 0) | none => (0, 3)) := by unfold Hid; rw [hfe]; simp [tyT, h2]; first | done | rfl
        have htc : 0 ≤ x.head.c := by
          unfold termB fieldsB at hx1
          rw [if_neg h1, if_pos h2] at hx1
          simp at hx1; exact hx1.2.2
        rw [h2] at c0
        obtain ⟨m, hm⟩ : ∃ m : Nat, x.head.c = m := ⟨x.head.c.toNat, by omega⟩
        rw [hm] at c4 he
        rw [Int.toNat_natCast] at he
        by_cases hlt : m < types.length
        · obtain ⟨b2, off2, rfl, _⟩ := hR.form (by omega)
          have d0 := RAt.int hR hlt
          have hbl2 : b2 < w.heap.size := World.block_lt_of_cell? w _ d0
          rw [List.getElem?_eq_getElem hlt] at he
          generalize types[m] = k at *
          clear hT hR hok hl ih hfe hx1 hx2 hx3 hxo hxd h0 h1 h2 c1 c2 c3 y1 htc hm hTy
          go_enter Tryd.func49, Tryd.ntmps49
          go_wp2_with fail
          go_ret2
          exact ⟨_, _, he.out, rfl, Below.refl _ _⟩
        · rw [List.getElem?_eq_none (by omega)] at he
          clear hT hR hok hl ih hfe hx1 hx2 hx3 hxo hxd h0 h1 h2 c1 c2 c3 y1 htc hm hTy
          go_enter Tryd.func49, Tryd.ntmps49
          go_wp2_with fail
          go_ret2
          exact ⟨_, _, he.out, rfl, Below.refl _ _⟩
      · have y2 : (x.head.op == 2) = false := by simpa using h2
        have he : Hid (x.fold (tyT types) = tyOp x.head.op (x.args.map (Ex.fold (tyT types)))) := by unfold Hid; rw [hfe]; simp [tyT, h1, h2]
        have hO := fun w hT => roperands_any (some ⟨b, off, none⟩) cap l x ⟨⟨by rw [List.append_nil]; exact hl.out, hxo⟩, by omega⟩ h64 hcap hok w hT
        have hap : 0 < x.args.length := by
          rcases Nat.eq_zero_or_pos x.args.length with h | h
          · rcases arity0 (op := x.head.op) (by rw [hx2, h]; rfl) with h' | h' <;> omega
          · exact h
        have hap3 := x.args_le
        have IH := Lib.hid ih
        have HO := Lib.hid hO
        have HT := Lib.hid hT
        have HR := Lib.hid hR
        have Hx2 := Lib.hid hx2
        have HTy := Lib.hid hTy
        have Hsub := Lib.hid (show ∀ a ∈ x.args, a.ok ∧ a.depth ≤ 16 ∧ a.flat.length ≤ 64 ∧ ∀ t ∈ a.flat, t.okT by
          intro a ha
          have h3 := le_depths ha
          rw [Ex.depth_eq] at hxd
          have h4 : ∀ t ∈ a.flat, t ∈ l := by
            intro t ht
            rw [hl.out, Ex.flat_eq]
            refine List.mem_cons_of_mem _ ?_
            exact flats_mem ha ht
          have h5 : a.flat.length ≤ l.length := by
            rw [hl.out, Ex.flat_eq x]
            have := flats_mem_len ha
            simp only [List.length_cons]; omega
          exact ⟨hx3 a ha, by omega, by omega, fun t ht => hok t (h4 t ht)⟩)
        generalize x.head.op = op at *
        clear hT hR hok hl ih hO hfe hx1 hx2 hx3 hxo hxd h0 h1 h2 c1 c2 c3 c4 hTy
        go_enter Tryd.func49, Tryd.ntmps49
        go_wp2_with fail
        refine (HO.out _ HT.out).mono ?_
        rintro e w1 ⟨io, icap, its, rfl, hits, hI, hb1⟩
        have hil : its.length = x.args.length := by have := congrArg List.length hits.out.1; simpa using this
        have HI := Lib.hid hI
        have HB := Lib.hid hb1
        have hil1 : its.length ≤ 3 := by omega
        have hil0 : 0 < its.length := by omega
        have Hil := Lib.hid hil
        clear hb1 hI hil
        go_wp2_with fail
        go_loopw [6, 8] (fun v i wr => ∃ (k : Nat) (ts : List Int) (ad : Option Addr) (cp : Nat), i = .int .i64 k ∧ v = .slice ad ts.length cp ∧ k ≤ its.length ∧ ts.length ≤ 3 ∧ Hid (ts = (x.args.take k).map (fun a => (a.fold (tyT types)).1) ∧ ∀ a ∈ x.args.take k, (a.fold (tyT types)).2 = 0) ∧ Hid (OwnsR encInt 1 wr w1.heap.size 3 (.slice ad ts.length cp) ts) ∧ Hid (Below w1.heap.size w1 wr)) (fun _ i _ => its.length - (intOf i).toNat)
        case atStart => exact ⟨0, [], none, 0, rfl, rfl, by omega, by simp, by simp [Hid], OwnsR.nil, Below.refl _ _⟩
        case round =>
          obtain ⟨k, ts, ad, cp, rfl, rfl, hk, hvl, hV, hown, hB⟩ := hrel
          have hsz := hB.out.size
          by_cases hlt : k < its.length
          · obtain ⟨bi, oi, rfl, _⟩ := HI.out.row.form hil0
            have d0 := (HI.out.later hB.out).at hlt
            have hka : k < x.args.length := by have := Hil.out; omega
            have hs1 : its[k].l = (x.args[k]).flat := by
              have h1 := congrArg (fun z => z[k]?) hits.out.1
              simpa [List.getElem?_map, List.getElem?_eq_getElem hlt, List.getElem?_eq_getElem hka] using h1
            have hmem := List.getElem_mem hka
            obtain ⟨g1, g2, g3, g4⟩ := Hsub.out _ hmem
            have hE := IH.out x.args[k] hmem g1 g2 its[k].ao its[k].cap its[k].l hs1 (by rw [hs1]; exact g3) (hits.out.2 _ (List.getElem_mem hlt)) (by rw [hs1]; exact g4) wr ((HI.out.each _ (List.getElem_mem hlt)).later hB.out) (HR.out.later (bt HB.out hB.out))
            have htk : x.args.take (k + 1) = x.args.take k ++ [x.args[k]] := by rw [List.take_succ_eq_append_getElem hka]
            have hspl : x.args = x.args.take k ++ x.args[k] :: x.args.drop (k + 1) := by rw [List.getElem_cons_drop hka, List.take_append_drop]
            have Hspl := Lib.hid (congrArg (List.map (Ex.fold (tyT types))) hspl)
            have Htk := Lib.hid htk
            have HE := Lib.hid hE
            have hbl' : bi < wr.heap.size := World.block_lt_of_cell? wr _ d0
            have hlt2 : k + 1 ≤ its.length := hlt
            clear hE htk hs1 hmem g1 g2 g3 g4 hspl
            generalize its[k] = s at *
            generalize x.args[k] = xk at *
            go_wp2_with fail
            refine HE.out.mono ?_
            rintro e w9 ⟨vk, vm, hv, rfl, hb⟩
            have hown9 := OwnsR.below hown.out hb
            have HB9 := Lib.hid (bt hB.out hb)
            have hsz9 : w1.heap.size ≤ w9.heap.size := HB9.out.size
            clear hb hown
            by_cases hm0 : vm = 0
            · have ym : (vm != 0) = false := by simpa using hm0
              have Hm0 := Lib.hid hm0
              clear hm0
              go_wp2_with (at_builtin; refine wpList_appR (enc := encInt) (m := 1) Tryd.underlying22 infoInt rfl (by decide) encInt_len encInt_one _ w9 rfl (.tmp 59) (.tmp 61) rfl w1.heap.size _ ts rfl hown9 [vk] 1 1 #[.int .i64 vk] rfl rfl rfl rfl rfl rfl rfl (by decide) (by omega) (by unfold maxLen; omega) hsz9 ?_; intro v3 g3 cap3 w10 hv3 hown10 haw10 hb10 hat10 hlt10)
              refine ⟨⟨k + 1, v3, _, _, by go_num, rfl, hlt2, ?_, ?_, hown10, HB9.out.trans hb10⟩, by simp [intOf]; omega⟩
              · rw [hv3.out]
                have h1 := congrArg List.length hV.out.1
                simp at h1 ⊢
                omega
              · refine ⟨?_, ?_⟩
                · rw [hv3.out, Htk.out, List.map_append, ← hV.out.1, List.map_singleton, hv.out]
                · intro a ha
                  rw [Htk.out] at ha
                  rcases List.mem_append.1 ha with ha | ha
                  · exact hV.out.2 a ha
                  · rw [List.mem_singleton.1 ha, hv.out]; exact Hm0.out
            · have ym : (vm != 0) = true := by simpa using hm0
              have hres : Hid (x.fold (tyT types) = (0, vm)) := by
                unfold Hid
                rw [he.out, Hspl.out, List.map_append, List.map_cons, tyOp_err (by
                  intro q hq
                  obtain ⟨a, ha, rfl⟩ := List.mem_map.1 hq
                  exact hV.out.2 a ha) (by rw [hv.out]; exact hm0), hv.out]
              clear hm0
              go_wp2_with fail
              go_ret2
              exact ⟨_, _, hres.out, rfl, bt HB.out HB9.out⟩
          · have hke : k = its.length := by omega
            subst hke
            obtain ⟨aoV, capV, heq, hrV, _, _, _, _⟩ := OwnsR.rAt encInt_len hown.out
            simp only [Value.slice.injEq, true_and] at heq
            obtain ⟨rfl, rfl⟩ := heq
            have htake : x.args.take its.length = x.args := List.take_of_length_le (by have := Hil.out; omega)
            have hts : ts = (x.args.map (Ex.fold (tyT types))).map (·.1) := by rw [hV.out.1, htake, List.map_map]; rfl
            have hz : ∀ q ∈ x.args.map (Ex.fold (tyT types)), q.2 = 0 := by
              intro q hq
              obtain ⟨a, ha, rfl⟩ := List.mem_map.1 hq
              exact hV.out.2 a (by rw [htake]; exact ha)
            have htl2 : ts.length = x.args.length := by rw [hts]; simp
            have hgood : ∀ k ∈ ts, k = 1 ∨ k = 2 := by
              intro k hk
              rw [hts] at hk
              obtain ⟨q, hq, rfl⟩ := List.mem_map.1 hk
              have h2 := hz q hq
              obtain ⟨a, ha, rfl⟩ := List.mem_map.1 hq
              rcases foldT_good types HTy.out a (Hsub.out a ha).1 with h3 | h3
              · exact h3.2
              · exact absurd h2 h3.2
            have hres : x.fold (tyT types) = if typI op ts = 0 then (0, 5) else (typI op ts, 0) := by rw [he.out, tyOp_ok hz, ← hts]
            have hA := rtyped_any op ad cp ts (by rw [Hx2.out, htl2]) (by omega) hgood wr hrV
            have c0' : wr.cell? ⟨b, off, none⟩ = some (.int .i64 op) := ((bt HB.out hB.out).cell (p := ⟨b, off, none⟩) hbl).trans c0
            have HB2 := Lib.hid (bt HB.out hB.out)
            have hbw : b < wr.heap.size := World.block_lt_of_cell? wr _ c0'
            generalize typI op ts = ty at *
            have Hres := Lib.hid hres
            have HA := Lib.hid hA
            clear hA hts hz htl2 hgood hrV hown hlt c0 hV hres htake
            go_wp2_with fail
            refine HA.out.mono ?_
            rintro e w12 ⟨rfl, hb⟩
            have HB3 := Lib.hid (bt HB2.out hb)
            clear hb
            by_cases hty : ty = 0
            · have yt : (ty == 0) = true := by simpa using hty
              have hr2 := Hres.out
              rw [if_pos hty] at hr2
              have Hr2 := Lib.hid hr2
              clear hty hr2
              go_wp2_with fail
              go_ret2
              exact ⟨_, _, Hr2.out, rfl, HB3.out⟩
            · have yt : (ty == 0) = false := by simpa using hty
              have hr2 := Hres.out
              rw [if_neg hty] at hr2
              have Hr2 := Lib.hid hr2
              clear hty hr2
              go_wp2_with fail
              go_ret2
              exact ⟨_, _, Hr2.out, rfl, HB3.out⟩
theorem rexType_any (ao to_ : Option Addr) (cap tcap : Nat) (l : List Tm) (types : List Int) (hl : l.length ≤ maxLen) (hcap : l.length ≤ cap) (hok : ∀ t ∈ l, t.okT) (htl : types.length ≤ maxLen) (w : World) (hT : TmsAt w w.heap.size ao l) (hR : RAt encInt 1 w w.heap.size to_ types) :
    Calls Tryd.prog 24 #[.slice ao l.length cap, .slice to_ types.length tcap] w (TyRes (tyL types l) w) := by
  have hV := rexValid_any ao cap l hl hok w hT
  cases hvl : validL l
  · have hres : Hid (tyL types l = (0, 1)) := by unfold Hid tyL; rw [if_pos (.inl hvl)]
    rw [hvl] at hV
    have HV := Lib.hid hV
    clear hV hvl hok hT hR
    go_enter Tryd.func24, Tryd.ntmps24
    go_wp2_with fail
    refine HV.out.mono ?_
    rintro e w1 ⟨rfl, hb⟩
    have HB := Lib.hid hb
    clear hb
    go_wp2_with fail
    go_ret2
    exact ⟨_, _, hres.out, rfl, HB.out⟩
  · obtain ⟨x, hx, hH, hd, h64⟩ := validL_get hvl
    have hres := Lib.hid (show tyL types l = if types.any noTy = true then (0, 1) else x.fold (tyT types) by unfold tyL; rw [hvl, hx]; simp)
    have hE := fun hTy w hT hR => rtypeOf_any to_ tcap types hTy htl x hH.2 hd ao cap l (by have := hH.1; rwa [List.append_nil] at this) h64 hcap hok w hT hR
    rw [hvl] at hV
    have HV := Lib.hid hV
    have HE := Lib.hid hE
    have HT := Lib.hid hT
    have HR := Lib.hid hR
    unfold maxLen at htl
    clear hV hE hT hR hvl hok hx hH hd h64
    go_enter Tryd.func24, Tryd.ntmps24
    go_wp2_with fail
    refine HV.out.mono ?_
    rintro e w1 ⟨rfl, hb⟩
    have HB := Lib.hid hb
    clear hb
    go_wp2_with fail
    go_loopw [6] (fun i wr => ∃ k : Nat, k ≤ types.length ∧ i = .int .i64 k ∧ Hid (Below w.heap.size w wr ∧ ∀ j (h : j < types.length), j < k → noTy types[j] = false)) (fun i _ => types.length - (intOf i).toNat)
    case atStart => exact ⟨0, by omega, rfl, HB.out, fun j _ h => absurd h (by omega)⟩
    case round =>
      obtain ⟨k, hk, rfl, hX⟩ := hrel
      by_cases hlt : k < types.length
      · obtain ⟨b, off, rfl, _⟩ := HR.out.form (by omega)
        have c0 := RAt.int (HR.out.later hX.out.1) hlt
        have Hmem := Lib.hid (List.getElem_mem hlt)
        have Hj := Lib.hid (show ∀ j (h : j < types.length), j = k → noTy types[j] = noTy types[k] from fun j h e => by subst e; rfl)
        have hlt2 : k + 1 ≤ types.length := hlt
        generalize types[k] = s at *
        have hway : ((s != 1) = false ∧ noTy s = false) ∨ ((s != 1) = true ∧ (s != 2) = false ∧ noTy s = false) ∨ ((s != 1) = true ∧ (s != 2) = true ∧ noTy s = true) := by
          unfold noTy
          cases (s != 1) <;> cases (s != 2) <;> simp
        have Hw := Lib.hid hway
        clear hway
        rcases Hw.out with ⟨y1, hn⟩ | ⟨y1, y2, hn⟩ | ⟨y1, y2, hn⟩
        · have Hn := Lib.hid hn
          clear hn Hw
          go_wp2_with fail
          refine ⟨⟨k + 1, hlt2, by go_num, hX.out.1, fun j hj hjk => ?_⟩, by simp [intOf]; omega⟩
          by_cases hje : j < k
          · exact hX.out.2 j hj hje
          · exact (Hj.out j hj (by omega)).trans Hn.out
        · have Hn := Lib.hid hn
          clear hn Hw
          go_wp2_with fail
          refine ⟨⟨k + 1, hlt2, by go_num, hX.out.1, fun j hj hjk => ?_⟩, by simp [intOf]; omega⟩
          by_cases hje : j < k
          · exact hX.out.2 j hj hje
          · exact (Hj.out j hj (by omega)).trans Hn.out
        · have hany : types.any noTy = true := List.any_eq_true.2 ⟨s, Hmem.out, hn⟩
          have hr2 := hres.out
          rw [if_pos hany] at hr2
          have Hr2 := Lib.hid hr2
          clear hn Hw hany hr2
          go_wp2_with fail
          go_ret2
          exact ⟨_, _, Hr2.out, rfl, hX.out.1⟩
      · have hke : k = types.length := by omega
        have hany : types.any noTy = false := by
          rw [List.any_eq_false]
          intro s hs
          obtain ⟨j, hj, rfl⟩ := List.mem_iff_getElem.1 hs
          rw [hX.out.2 j hj (by omega)]; simp
        have hr2 := hres.out
        rw [if_neg (by rw [hany]; simp)] at hr2
        have Hr2 := Lib.hid hr2
        have Hg := Lib.hid (noTy_good hany)
        clear hany hr2 hke
        go_wp2_with fail
        refine (HE.out Hg.out _ (HT.out.later hX.out.1) (HR.out.later hX.out.1)).mono ?_
        rintro e w2 ⟨k1, m1, hv, rfl, hb⟩
        have HB2 := Lib.hid (bt hX.out.1 hb)
        clear hb
        go_wp2_with fail
        go_ret2
        exact ⟨_, _, Hr2.out.trans hv.out, rfl, HB2.out⟩
end Go.Proofs.YtmikeifkmjhioaaDoor
