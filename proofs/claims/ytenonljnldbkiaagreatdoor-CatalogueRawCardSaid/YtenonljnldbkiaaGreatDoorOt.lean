/- The table of operators, out of a row's condition. -/
import Derived.Test.YtenonljnldbkiaaGreatDoorMA
import Derived.Test.YtenonljnldbkiaaGreatDoorTt
import Derived.OpenShut
import Derived.Lib.SmallJoins
namespace Go.Proofs.YtenonljnldbkiaaGreatDoor
open Go.RowKit Go.Proofs.EB
/-- One operator as data. -/
def opDat {H : Type} (p : List UInt8 × List Int × Int) : DataW H := .agg [.lit (.string p.1), if p.2.1 = [] then .nil else .slice (p.2.1.map fun n => .lit (.int .i64 n)) [], .lit (.int .i64 p.2.2)]
theorem opData : (Rows.laid_erasure_expr_operators : DataW Unit) = .agg (opTab.map opDat) := rfl
set_option maxRecDepth 100000 in
theorem one_op {W : World} {fuel : Nat} {cs : List Value} {p : List MemPlace} {nm : List UInt8} {asx : List Int} {k : Int} (h : DataW.trod (fun _ => ()) Tryz.prog W 0 (fun _ => true) false fuel 231 cs = some (opDat (nm, asx, k), p)) :
    ∃ ao cap, cs = [.string ⟨nm.toArray⟩, .slice ao asx.length cap, .int .i64 k] ∧ (asx = [] ∨ ∃ b off, ao = some ⟨b, off, none⟩ ∧ ∀ j (h : j < asx.length), W.cell? ⟨b, off + j, none⟩ = some (.int .i64 asx[j])) := by
  obtain ⟨xs, n, _, hx, hl, hxs, hf⟩ := DataW.trod_struct Tryz.underlying231 h
  have h0 := hf 0 _ rfl
  have h1 := hf 1 _ rfl
  have h2 := hf 2 _ rfl
  have hC : Tryz.prog.cellsOf 231 = 3 := by kernel_rfl
  rw [hC] at hl
  have c9 : Tryz.prog.cellsOf 9 = 1 := by kernel_rfl
  have c22 : Tryz.prog.cellsOf 36 = 1 := by kernel_rfl
  have c3 : Tryz.prog.cellsOf 3 = 1 := by kernel_rfl
  match xs, hxs with
  | [y0, y1, y2], _ =>
    simp only [Prod.mk.injEq] at hx
    obtain ⟨hx, _⟩ := hx
    simp only [opDat, List.map_cons, List.map_nil, DataW.agg.injEq, List.cons.injEq, and_true] at hx
    obtain ⟨d0, d1, d2⟩ := hx
    match cs, hl with
    | [v0, v1, v2], _ =>
      have k0 : DataW.trod (fun _ => ()) Tryz.prog W 0 (fun _ => true) false n 9 (([v0, v1, v2].drop 0).take (Tryz.prog.cellsOf 9)) = some y0 := h0
      have k1 : DataW.trod (fun _ => ()) Tryz.prog W 0 (fun _ => true) false n 36 (([v0, v1, v2].drop 1).take (Tryz.prog.cellsOf 36)) = some y1 := h1
      have k2 : DataW.trod (fun _ => ()) Tryz.prog W 0 (fun _ => true) false n 3 (([v0, v1, v2].drop 2).take (Tryz.prog.cellsOf 3)) = some y2 := h2
      rw [c9] at k0
      rw [c22] at k1
      rw [c3] at k2
      have q0 : DataW.trod (fun _ => ()) Tryz.prog W 0 (fun _ => true) false n 9 [v0] = some y0 := k0
      have q1 : DataW.trod (fun _ => ()) Tryz.prog W 0 (fun _ => true) false n 36 [v1] = some y1 := k1
      have q2 : DataW.trod (fun _ => ()) Tryz.prog W 0 (fun _ => true) false n 3 [v2] = some y2 := k2
      clear h0 h1 h2 k0 k1 k2
      obtain ⟨s, e0, g0, _⟩ := DataW.trod_string Tryz.underlying9 q0
      obtain ⟨m, e2, g2, _⟩ := DataW.trod_int Tryz.underlying3 q2
      rw [g0] at d0
      rw [g2] at d2
      simp only [DataW.lit.injEq, Lit.string.injEq, Lit.int.injEq, true_and] at d0 d2
      have es : s = ⟨nm.toArray⟩ := by apply ByteArray.ext; apply Array.toList_inj.1; exact d0.symm
      simp only [List.cons.injEq, and_true] at e0 e2
      rcases Go.ChangeShapes.open_ints Tryz.underlying36 Tryz.underlying3 c3 q1 with ⟨e1, g1⟩ | ⟨x, len, cap, zs, e1, _, hle, _, hz, g1, hcell, _⟩
      · rw [g1] at d1
        simp only [List.cons.injEq, and_true] at e1
        have ha : asx = [] := by
          by_cases ha : asx = []
          · exact ha
          · rw [if_neg ha] at d1; cases d1
        subst ha
        exact ⟨none, 0, by rw [e0, e1, e2, es, d2]; rfl, .inl rfl⟩
      · rw [g1] at d1
        simp only [List.cons.injEq, and_true] at e1
        by_cases ha : asx = []
        · rw [if_pos ha] at d1; cases d1
        · rw [if_neg ha] at d1
          simp only [DataW.slice.injEq] at d1
          have hlits : zs.take len = asx := by
            have := d1.1
            unfold Go.ChangeShapes.lits at this
            have h3 : ∀ a b : List Int, a.map (fun n => (DataW.lit (.int .i64 n) : DataW Unit)) = b.map (fun n => DataW.lit (.int .i64 n)) → a = b := by
              intro a
              induction a with
              | nil => intro b h; cases b with | nil => rfl | cons _ _ => simp at h
              | cons u a ih =>
                intro b h
                cases b with
                | nil => simp at h
                | cons v b =>
                  simp only [List.map_cons, List.cons.injEq, DataW.lit.injEq, Lit.int.injEq, true_and] at h
                  rw [h.1, ih b h.2]
            exact (h3 _ _ this).symm
          have hln : asx.length = len := by
            rw [← hlits, List.length_take]
            simp only [if_true] at hz
            omega
          refine ⟨some x, cap, by rw [e0, e1, e2, es, d2, hln], .inr ?_⟩
          have hpos : 0 < asx.length := List.length_pos_iff.2 ha
          have hzl : asx.length ≤ zs.length := by rw [← hlits, List.length_take]; omega
          obtain ⟨b, off, spot⟩ := x
          have hsp : spot = none := by
            have hc0 := hcell 0 (by omega)
            simpa [Addr.add] using World.cell?_spot hc0
          subst hsp
          refine ⟨b, off, rfl, fun j hj => ?_⟩
          have hc := hcell j (by omega)
          rw [Go.WideShapes.add_plain] at hc
          rw [hc]
          congr 2
          have h6 : (zs.take len)[j]? = some asx[j] := by rw [hlits]; exact List.getElem?_eq_getElem hj
          rw [List.getElem?_take, if_pos (by omega)] at h6
          rw [List.getD_eq_getElem?_getD, h6]; rfl
set_option maxRecDepth 100000 in
theorem ops_of_laid {n1 n2 n3 : String} {d1 d2 d3 : DataW Unit} {rest : List (String × DataW Unit)} {W : World} (h : laidMet Tryz.prog ((n1, d1) :: (n2, d2) :: (n3, d3) :: ("erasure/expr.operators", Rows.laid_erasure_expr_operators) :: rest) W) : Ops W := by
  obtain ⟨ps, hL, _⟩ := h
  obtain ⟨_, _, _, _, _, _, _, _, _, _, hL2, _⟩ := hL
  obtain ⟨_, _, _, _, _, _, _, _, _, _, hL3, _⟩ := hL2
  obtain ⟨_, _, _, _, _, _, _, _, _, _, hL4, _⟩ := hL3
  obtain ⟨g', t', cs, fuel, p, q, hg', ht', hvar, hd, _, _⟩ := hL4
  have hg : Tryz.prog.globalNamed "erasure/expr.operators" = some 0 := by kernel_rfl
  obtain rfl := Option.some.inj (hg.symm.trans hg')
  have hty : (Tryz.prog.globals[0]?).map (·.type) = some 232 := by kernel_rfl
  obtain rfl := Option.some.inj (hty.symm.trans ht')
  rw [opData] at hd
  obtain ⟨xs, m, _, hx, hl, hxs, hf⟩ := DataW.trod_array Tryz.underlying232 hd
  have hC : Tryz.prog.cellsOf 232 = 57 := by kernel_rfl
  have hC1 : Tryz.prog.cellsOf 231 = 3 := by kernel_rfl
  have hcell : ∀ j, W.cell? ⟨0, j, none⟩ = cs[j]? := by
    intro j
    unfold World.var? at hvar
    rw [hg] at hvar
    simp only [Option.bind_some] at hvar
    unfold World.cell?
    simp only
    cases hh : W.heap[0]? with
    | none => rw [hh] at hvar; simp at hvar
    | some o =>
      rw [hh] at hvar
      cases o with
      | cells c t fr => simp at hvar; subst hvar; simp
      | _ => simp at hvar
  intro i nm asx k hi
  have hi19 : i < 19 := by
    have := (List.getElem?_eq_some_iff.1 hi).1
    simpa [opTab] using this
  have hfi := hf i hi19
  rw [hC1] at hfi
  have hxi : ∃ y, xs[i]? = some y ∧ y.1 = opDat (nm, asx, k) := by
    have h1 : i < xs.length := by omega
    refine ⟨xs[i], List.getElem?_eq_getElem h1, ?_⟩
    have h2 : (opTab.map (opDat (H := Unit)))[i]? = (xs.map (·.1))[i]? := by
      simp only [Prod.mk.injEq, DataW.agg.injEq] at hx
      rw [hx.1]
    rw [List.getElem?_map, hi, List.getElem?_map, List.getElem?_eq_getElem h1] at h2
    simpa using h2.symm
  obtain ⟨y, hy, hy1⟩ := hxi
  rw [hy] at hfi
  obtain ⟨y1, y2⟩ := y
  simp only at hy1
  subst hy1
  obtain ⟨ao, cap, hcs, hz⟩ := one_op hfi
  have at_ : ∀ r v, ([.string ⟨nm.toArray⟩, .slice ao asx.length cap, .int .i64 k] : List Value)[r]? = some v → W.cell? ⟨0, i * 3 + r, none⟩ = some v := by
    intro r v hr
    rw [← hcs, List.getElem?_take] at hr
    split at hr
    · rw [List.getElem?_drop] at hr
      rw [hcell]
      simpa using hr
    · cases hr
  exact ⟨ao, cap, at_ 0 _ rfl, at_ 1 _ rfl, at_ 2 _ rfl, hz⟩
theorem ops_of_laid1 {rest : List (String × DataW Unit)} {W : World} (h : laidMet Tryz.prog (("erasure/expr.operators", Rows.laid_erasure_expr_operators) :: rest) W) : Ops W := by
  obtain ⟨ps, hL4, _⟩ := h
  obtain ⟨g', t', cs, fuel, p, q, hg', ht', hvar, hd, _, _⟩ := hL4
  have hg : Tryz.prog.globalNamed "erasure/expr.operators" = some 0 := by kernel_rfl
  obtain rfl := Option.some.inj (hg.symm.trans hg')
  have hty : (Tryz.prog.globals[0]?).map (·.type) = some 232 := by kernel_rfl
  obtain rfl := Option.some.inj (hty.symm.trans ht')
  rw [opData] at hd
  obtain ⟨xs, m, _, hx, hl, hxs, hf⟩ := DataW.trod_array Tryz.underlying232 hd
  have hC : Tryz.prog.cellsOf 232 = 57 := by kernel_rfl
  have hC1 : Tryz.prog.cellsOf 231 = 3 := by kernel_rfl
  have hcell : ∀ j, W.cell? ⟨0, j, none⟩ = cs[j]? := by
    intro j
    unfold World.var? at hvar
    rw [hg] at hvar
    simp only [Option.bind_some] at hvar
    unfold World.cell?
    simp only
    cases hh : W.heap[0]? with
    | none => rw [hh] at hvar; simp at hvar
    | some o =>
      rw [hh] at hvar
      cases o with
      | cells c t fr => simp at hvar; subst hvar; simp
      | _ => simp at hvar
  intro i nm asx k hi
  have hi19 : i < 19 := by
    have := (List.getElem?_eq_some_iff.1 hi).1
    simpa [opTab] using this
  have hfi := hf i hi19
  rw [hC1] at hfi
  have hxi : ∃ y, xs[i]? = some y ∧ y.1 = opDat (nm, asx, k) := by
    have h1 : i < xs.length := by omega
    refine ⟨xs[i], List.getElem?_eq_getElem h1, ?_⟩
    have h2 : (opTab.map (opDat (H := Unit)))[i]? = (xs.map (·.1))[i]? := by
      simp only [Prod.mk.injEq, DataW.agg.injEq] at hx
      rw [hx.1]
    rw [List.getElem?_map, hi, List.getElem?_map, List.getElem?_eq_getElem h1] at h2
    simpa using h2.symm
  obtain ⟨y, hy, hy1⟩ := hxi
  rw [hy] at hfi
  obtain ⟨y1, y2⟩ := y
  simp only at hy1
  subst hy1
  obtain ⟨ao, cap, hcs, hz⟩ := one_op hfi
  have at_ : ∀ r v, ([.string ⟨nm.toArray⟩, .slice ao asx.length cap, .int .i64 k] : List Value)[r]? = some v → W.cell? ⟨0, i * 3 + r, none⟩ = some v := by
    intro r v hr
    rw [← hcs, List.getElem?_take] at hr
    split at hr
    · rw [List.getElem?_drop] at hr
      rw [hcell]
      simpa using hr
    · cases hr
  exact ⟨ao, cap, at_ 0 _ rfl, at_ 1 _ rfl, at_ 2 _ rfl, hz⟩
end Go.Proofs.YtenonljnldbkiaaGreatDoor
