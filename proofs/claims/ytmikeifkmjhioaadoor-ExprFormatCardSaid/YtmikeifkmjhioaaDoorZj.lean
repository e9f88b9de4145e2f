/- word, format and Format of the reference. -/
import Derived.Test.YtmikeifkmjhioaaDoorZh
namespace Go.Proofs.YtmikeifkmjhioaaDoor
open Go.RowKit Go.Proofs.EB
set_option maxHeartbeats 4000000
set_option maxRecDepth 100000
attribute [local go_sem] World.cell?_alloc_some
theorem rword_any (op : Int) (h0 : 3 ≤ op) (h1 : op ≤ 18) (w : World) :
    Calls Tryd.prog 92 #[.int .i64 op] w (GivesS (opName op) w) := by
  have hop : op = 3 ∨ op = 4 ∨ op = 5 ∨ op = 6 ∨ op = 7 ∨ op = 8 ∨ op = 9 ∨ op = 10 ∨ op = 11 ∨ op = 12 ∨ op = 13 ∨ op = 14 ∨ op = 15 ∨ op = 16 ∨ op = 17 ∨ op = 18 := by omega
  clear h0 h1
  rcases hop with rfl | rfl | rfl | rfl | rfl | rfl | rfl | rfl | rfl | rfl | rfl | rfl | rfl | rfl | rfl | rfl
  all_goals
    go_enter Tryd.func92, Tryd.ntmps92
    go_wp2_with fail
    go_ret
    exact ⟨_, by unfold Hid; rfl, rfl, al1 _ _⟩
theorem join_snoc (l : List (List UInt8)) (x sep : List UInt8) (h : l ≠ []) : Lib.join (l ++ [x]) sep = Lib.join l sep ++ sep ++ x := by
  cases l with
  | nil => exact absurd rfl h
  | cons a l =>
    have h1 := Lib.joinTail_take_succ sep (l ++ [x]) l.length x (by simp)
    rw [List.cons_append, Lib.join_cons, Lib.join_cons]
    rw [List.take_of_length_le (by simp), List.take_left' rfl] at h1
    rw [h1]; simp
theorem str_app (a b : ByteArray) : (a ++ b).data.toList = a.data.toList ++ b.data.toList := by simp
theorem rfmt_any (ro : Option Addr) (rcap : Nat) (names : List ByteArray) (hnm : ∀ s ∈ names, s.size ≤ 1000) (hnl : names.length ≤ maxLen) : ∀ x : Ex, x.ok → x.depth ≤ 16 → ∀ (ao : Option Addr) (cap : Nat) (l : List Tm), Hid (l = x.flat) → l.length ≤ 64 → l.length ≤ cap → (∀ t ∈ l, t.okT) → ∀ w : World, TmsAt w w.heap.size ao l → RAt encStr 1 w w.heap.size ro names →
    Calls Tryd.prog 68 #[.slice ao l.length cap, .slice ro names.length rcap] w (GivesS (x.fold (fmtT names)) w) := by
  intro x
  induction x using Ex.ind with
  | h x ih =>
    intro hxo hxd ao cap l hl h64 hcap hok w hT hR
    have hpos : 0 < l.length := by rw [hl.out]; exact x.flat_pos
    obtain ⟨b, off, rfl, _⟩ := hT.form hpos
    obtain ⟨c0, c1, c2, c3, c4⟩ := RAt.tm hT hpos
    have h0 : l[0] = x.head := by
      have h1 : l = x.head :: flats x.args := hl.out.trans (Ex.flat_eq x)
      subst h1; rfl
    have hts : x.head.v.s.size ≤ maxLen := by rw [← h0]; exact (hok _ (List.getElem_mem hpos)).2.1.2.2
    rw [h0] at c0 c1 c2 c3 c4
    simp only [Nat.zero_mul, Nat.add_zero] at c0 c1 c2 c3 c4
    obtain ⟨hx1, hx2, hx3⟩ := (Ex.ok_iff x).1 hxo
    have hfe := Ex.fold_eq (fmtT names) x
    have hbl : b < w.heap.size := World.block_lt_of_cell? w _ c0
    unfold maxLen at hnl
    by_cases h1 : x.head.op = 1
    · have hvv : vB x.head.v = true := by
        unfold termB fieldsB at hx1
        rw [if_pos h1] at hx1
        simp only [Bool.and_eq_true] at hx1
        exact hx1.2.1.1
      have he : Hid (x.fold (fmtT names) = fmtV (cleanV x.head.v)) := by unfold Hid; rw [hfe, cleanV_idem hvv]; simp [fmtT, h1]
      rw [h1] at c0
      have hF := fun w => rformat_any x.head.v.k x.head.v.n x.head.v.s w hts
      have hee : (⟨x.head.v.k, x.head.v.n, x.head.v.s⟩ : V) = x.head.v := rfl
      rw [hee] at hF
      generalize fmtV (cleanV x.head.v) = r at *
      generalize x.head.v.k = k at *
      generalize x.head.v.n = n at *
      generalize x.head.v.s = s at *
      have HF := Lib.hid hF
      clear hT hR hok hl ih hfe hx1 hx2 hx3 hxo hxd h0 h1 c4 hF hts hvv hee hnm
      go_enter Tryd.func68, Tryd.ntmps68
      go_wp2_with fail
      refine (HF.out _).mono ?_
      rintro e w1 ⟨rfl, hb⟩
      have HB := Lib.hid hb
      clear hb
      go_wp2_with fail
      go_ret
      exact ⟨_, by unfold Hid; rw [he.out], rfl, HB.out⟩
    · have y1 : (x.head.op == 1) = false := by simpa using h1
      by_cases h2 : x.head.op = 2
      · have he : Hid (x.fold (fmtT names) = colName names x.head.c) := by unfold Hid; rw [hfe]; simp [fmtT, h2]
        have htc : 0 ≤ x.head.c := by
          unfold termB fieldsB at hx1
          rw [if_neg h1, if_pos h2] at hx1
          simp at hx1; exact hx1.2.2
        rw [h2] at c0
        obtain ⟨m, hm⟩ : ∃ m : Nat, x.head.c = m := ⟨x.head.c.toNat, by omega⟩
        rw [hm] at c4 he
        by_cases hlt : m < names.length
        · obtain ⟨b2, off2, rfl, _⟩ := hR.form (by omega)
          have d0 := RAt.cell hR hlt (j := 0) (u := .string names[m]) rfl
          simp only [Nat.mul_one, Nat.add_zero] at d0
          have hbl2 : b2 < w.heap.size := World.block_lt_of_cell? w _ d0
          have e2 : colName names m = names[m].data.toList := by unfold colName; simp [List.getElem?_eq_getElem hlt]
          rw [e2] at he
          have z : decide (m < names.length) = true := by simpa using hlt
          generalize names[m] = xs at *
          clear hT hR hok hl ih hfe hx1 hx2 hx3 hxo hxd h0 h1 h2 c1 c2 c3 y1 htc hm e2 hts hnm
          go_enter Tryd.func68, Tryd.ntmps68
          go_wp2_with fail
          go_ret
          exact ⟨xs, he.out.symm, rfl, Below.refl _ _⟩
        · have e2 : colName names m = [63] := by unfold colName; simp [List.getElem?_eq_none (show names.length ≤ m by omega)]
          rw [e2] at he
          have z : decide (m < names.length) = false := by simpa using hlt
          clear hT hR hok hl ih hfe hx1 hx2 hx3 hxo hxd h0 h1 h2 c1 c2 c3 y1 htc hm e2 hts hnm
          go_enter Tryd.func68, Tryd.ntmps68
          go_wp2_with fail
          go_ret
          exact ⟨_, by rw [he.out]; rfl, rfl, Below.refl _ _⟩
      · have y2 : (x.head.op == 2) = false := by simpa using h2
        have he : Hid (x.fold (fmtT names) = opName x.head.op ++ [40] ++ Lib.join (x.args.map (Ex.fold (fmtT names))) [44, 32] ++ [41]) := by unfold Hid; rw [hfe]; simp [fmtT, h1, h2]
        have hO := fun w hT => roperands_any (some ⟨b, off, none⟩) cap l x ⟨⟨by rw [List.append_nil]; exact hl.out, hxo⟩, by omega⟩ h64 hcap hok w hT
        have hin := arity_in (op := x.head.op) (by rw [hx2]; omega)
        have hin3 : 3 ≤ x.head.op := by omega
        have hW := fun w => rword_any x.head.op hin3 hin.2 w
        have hap3 := x.args_le
        have IH := Lib.hid ih
        have HO := Lib.hid hO
        have HW := Lib.hid hW
        have HT := Lib.hid hT
        have HR := Lib.hid hR
        have Hnm := Lib.hid hnm
        have hwl := opName_len x.head.op
        have Hsub := Lib.hid (show ∀ a ∈ x.args, a.ok ∧ a.depth ≤ 16 ∧ a.flat.length ≤ 64 ∧ ∀ t ∈ a.flat, t.okT by
          intro a ha
          have h3 := le_depths ha
          rw [Ex.depth_eq] at hxd
          have h4 : ∀ t ∈ a.flat, t ∈ l := by
            intro t ht
            rw [hl.out, Ex.flat_eq]
            refine List.mem_cons_of_mem _ ?_
            exact flats_mem ha ht
          have h5 : a.flat.length ≤ l.length := by
            rw [hl.out, Ex.flat_eq x]
            have := flats_mem_len ha
            simp only [List.length_cons]; omega
          exact ⟨hx3 a ha, by omega, by omega, fun t ht => hok t (h4 t ht)⟩)
        generalize x.head.op = op at *
        generalize hnmN : opName op = nm at *
        clear hT hR hok hl ih hO hfe hx1 hx2 hx3 hxo hxd h0 h1 h2 c1 c2 c3 c4 hW hts hnm hnmN hin hin3
        go_enter Tryd.func68, Tryd.ntmps68
        go_wp2_with fail
        refine (HW.out _).mono ?_
        rintro e w0 ⟨ws, hws, rfl, hb0⟩
        have HB0 := Lib.hid hb0
        have hwsl : ws.size ≤ 9 := by have := congrArg List.length hws.out; simp at this; omega
        clear hb0
        go_wp2_with fail
        refine (HO.out _ (HT.out.later HB0.out)).mono ?_
        rintro e w1 ⟨io, icap, its, rfl, hits, hI, hb1⟩
        have hil : its.length = x.args.length := by have := congrArg List.length hits.out.1; simpa using this
        have HI := Lib.hid hI
        have HB := Lib.hid (bt HB0.out hb1)
        have hil1 : its.length ≤ 3 := by omega
        have Hil := Lib.hid hil
        clear hb1 hI hil
        go_wp2_with fail
        go_loopw [5, 7] (fun v i wr => ∃ (k : Nat) (sb : ByteArray), i = .int .i64 k ∧ v = .string sb ∧ k ≤ its.length ∧ sb.size ≤ 10 + k * 80000 ∧ Hid (sb.data.toList = nm ++ [40] ++ Lib.join ((x.args.take k).map (Ex.fold (fmtT names))) [44, 32]) ∧ Hid (Below w1.heap.size w1 wr)) (fun _ i _ => its.length - (intOf i).toNat)
        case atStart =>
          refine ⟨0, _, rfl, rfl, by omega, ?_, ?_, Below.refl _ _⟩
          · rw [ByteArray.size_append]; show _ + 1 ≤ _; omega
          · unfold Hid; rw [str_app, hws.out]; simp [Lib.join_nil]
        case round =>
          obtain ⟨k, sb, rfl, rfl, hk, hsb, hV, hB⟩ := hrel
          have hsz := hB.out.size
          by_cases hlt : k < its.length
          · have hil0 : 0 < its.length := by omega
            obtain ⟨bi, oi, rfl, _⟩ := HI.out.row.form hil0
            have d0 := (HI.out.later hB.out).at hlt
            have hka : k < x.args.length := by have := Hil.out; omega
            have hs1 : its[k].l = (x.args[k]).flat := by
              have h1 := congrArg (fun z => z[k]?) hits.out.1
              simpa [List.getElem?_map, List.getElem?_eq_getElem hlt, List.getElem?_eq_getElem hka] using h1
            have hmem := List.getElem_mem hka
            obtain ⟨g1, g2, g3, g4⟩ := Hsub.out _ hmem
            have hE := IH.out x.args[k] hmem g1 g2 its[k].ao its[k].cap its[k].l hs1 (by rw [hs1]; exact g3) (hits.out.2 _ (List.getElem_mem hlt)) (by rw [hs1]; exact g4) wr ((HI.out.each _ (List.getElem_mem hlt)).later hB.out) (HR.out.later (bt HB.out hB.out))
            have htk : x.args.take (k + 1) = x.args.take k ++ [x.args[k]] := by rw [List.take_succ_eq_append_getElem hka]
            have hfl := fmtX_len names Hnm.out x.args[k] g1
            have Htk := Lib.hid htk
            have HE := Lib.hid hE
            have hbl' : bi < wr.heap.size := World.block_lt_of_cell? wr _ d0
            have hfl' : (x.args[k].fold (fmtT names)).length ≤ 76800 := by omega
            clear hE htk hs1 hmem g1 g2 g3 g4 hfl
            generalize its[k] = s at *
            generalize x.args[k] = xk at *
            by_cases hk0 : k = 0
            · have z1 : decide ((0 : Int) < (k : Int)) = false := by simp; omega
              have z2 : decide (0 < k) = false := by simp; omega
              clear hk0
              go_wp2_with fail
              refine HE.out.mono ?_
              rintro e w9 ⟨ss, hv, rfl, hb⟩
              have hssl : ss.size ≤ 76800 := by have := congrArg List.length hv.out; simp at this; omega
              have HB9 := Lib.hid (bt hB.out hb)
              clear hb
              go_wp2_with fail
              refine ⟨⟨k + 1, _, by go_num, rfl, by omega, by simp; omega, ?_, HB9.out⟩, by simp [intOf]; omega⟩
              have hk0 : k = 0 := by simpa using z2
              unfold Hid
              rw [str_app, hV.out, hv.out, Htk.out, List.map_append, List.map_singleton]
              subst hk0
              simp [Lib.join_nil, Lib.join_one]
            · have z1 : decide ((0 : Int) < (k : Int)) = true := by simp; omega
              have z2 : decide (0 < k) = true := by simp; omega
              clear hk0
              go_wp2_with fail
              refine HE.out.mono ?_
              rintro e w9 ⟨ss, hv, rfl, hb⟩
              have hssl : ss.size ≤ 76800 := by have := congrArg List.length hv.out; simp at this; omega
              have HB9 := Lib.hid (bt hB.out hb)
              clear hb
              go_wp2_with fail
              refine ⟨⟨k + 1, _, by go_num, rfl, by omega, by rw [ByteArray.size_append, ByteArray.size_append]; show _ + 2 + _ ≤ _; omega, ?_, HB9.out⟩, by simp [intOf]; omega⟩
              have hk0 : 0 < k := by simpa using z2
              unfold Hid
              rw [str_app, str_app, hV.out, hv.out, Htk.out, List.map_append, List.map_singleton, join_snoc _ _ _ (by
                intro h
                have h1 := congrArg List.length h
                simp only [List.length_map, List.length_take, List.length_nil] at h1
                omega)]
              simp
          · have hke : k = its.length := by omega
            subst hke
            go_wp2_with fail
            go_ret
            refine ⟨_, ?_, rfl, bt HB.out hB.out⟩
            unfold Hid
            rw [str_app, hV.out, he.out, List.take_of_length_le (by have := Hil.out; omega)]
/-- Format of the reference. -/
theorem rexFormat_any (ao ro : Option Addr) (cap rcap : Nat) (l : List Tm) (nms : List ByteArray) (hl : l.length ≤ maxLen) (hcap : l.length ≤ cap) (hok : ∀ t ∈ l, t.okT) (hrl : nms.length ≤ maxLen) (hrs : ∀ s ∈ nms, s.size ≤ 1000) (w : World) (hT : TmsAt w w.heap.size ao l) (hR : RAt encStr 1 w w.heap.size ro nms) :
    Calls Tryd.prog 38 #[.slice ao l.length cap, .slice ro nms.length rcap] w (GivesS (formatL nms l) w) := by
  have hV := rexValid_any ao cap l hl hok w hT
  cases hvl : validL l
  · have hres : Hid (formatL nms l = []) := by unfold Hid formatL; rw [treeL_none hvl]
    rw [hvl] at hV
    have HV := Lib.hid hV
    clear hV hvl hok hT hR hrs
    go_enter Tryd.func38, Tryd.ntmps38
    go_wp2_with fail
    refine HV.out.mono ?_
    rintro e w1 ⟨rfl, hb⟩
    have HB := Lib.hid hb
    clear hb
    go_wp2_with fail
    go_ret
    exact ⟨⟨#[]⟩, hres.out.symm, rfl, HB.out⟩
  · obtain ⟨x, hx, hH, hd, h64⟩ := validL_get hvl
    have hres : Hid (formatL nms l = x.fold (fmtT nms)) := by unfold Hid formatL; rw [hx]
    have hE := fun w hT hR => rfmt_any ro rcap nms hrs hrl x hH.2 hd ao cap l (by have := hH.1; rwa [List.append_nil] at this) h64 hcap hok w hT hR
    rw [hvl] at hV
    have HV := Lib.hid hV
    have HE := Lib.hid hE
    have HT := Lib.hid hT
    have HR := Lib.hid hR
    clear hV hE hT hR hvl hok hx hH hd h64 hrs
    go_enter Tryd.func38, Tryd.ntmps38
    go_wp2_with fail
    refine HV.out.mono ?_
    rintro e w1 ⟨rfl, hb⟩
    have HB := Lib.hid hb
    clear hb
    go_wp2_with fail
    refine (HE.out _ (HT.out.later HB.out) (HR.out.later HB.out)).mono ?_
    rintro e w2 ⟨s, hv, rfl, hb⟩
    replace HB := Lib.hid (bt HB.out hb)
    clear hb
    go_wp2_with fail
    go_ret
    exact ⟨s, hv.out.trans hres.out.symm, rfl, HB.out⟩
end Go.Proofs.YtmikeifkmjhioaaDoor
