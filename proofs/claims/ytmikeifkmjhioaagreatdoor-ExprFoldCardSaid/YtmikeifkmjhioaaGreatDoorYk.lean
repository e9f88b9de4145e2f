/- reduce of package expr at the function of Eval; Eval and Holds. -/
import Derived.Test.YtmikeifkmjhioaaGreatDoorYj
namespace Go.Proofs.YtmikeifkmjhioaaGreatDoor
open Go.RowKit Go.Proofs.EB
set_option maxHeartbeats 4000000
set_option maxRecDepth 100000
attribute [local go_sem] World.cell?_alloc_some

/-- The blocks of reduce: the result and the operands. -/
structure Rd (w : World) (R T : TypeId) (D C : Array Value) (wx : World) : Prop where
  below : Below w.heap.size w wx
  res : wx.heap[w.heap.size]? = some (.cells D R (0, 0))
  ops : wx.heap[w.heap.size + 1]? = some (.cells C T (0, 0))
theorem Rd.start (w : World) (R T : TypeId) (D C : Array Value) : Rd w R T D C ((w.alloc (.cells D R)).alloc (.cells C T)) :=
  ⟨al2 _ _ _, by rw [Below.heap_alloc _ _ _ (by simp)]; exact heap_alloc_new _ _, by simpa using heap_alloc_new (w.alloc (.cells D R)) (.cells C T)⟩
theorem Rd.step {w : World} {R T : TypeId} {D C : Array Value} {wx wy : World} (H : Rd w R T D C wx) (hb : Below wx.heap.size wx wy) : Rd w R T D C wy := by
  have lt : ∀ {i o}, wx.heap[i]? = some o → i < wx.heap.size := fun h => (Array.getElem?_eq_some_iff.1 h).1
  exact ⟨bt H.below hb, (hb.block _ (lt H.res)).trans H.res, (hb.block _ (lt H.ops)).trans H.ops⟩
theorem Rd.draw {w : World} {R T : TypeId} {D C : Array Value} {wx : World} (H : Rd w R T D C wx) : Rd w R T D C wx.drew := ⟨H.below.drew, H.res, H.ops⟩
theorem Rd.set {w : World} {R T : TypeId} {D C : Array Value} {wx : World} (H : Rd w R T D C wx) (i : Nat) (v : Value) : Rd w R T D (C.setIfInBounds i v) (wx.setCell ⟨w.heap.size + 1, i, none⟩ v) :=
  ⟨H.below.setCell (by simp) _, (Below.heap_setCell _ _ _ _ (by simp)).trans H.res, heap_setCell_same wx _ _ _ _ _ H.ops⟩
theorem Rd.set3 {w : World} {R T : TypeId} {D C C' : Array Value} {wx : World} (H : Rd w R T D C wx) (i j k : Nat) (x y z : Value) (hC : ((C.setIfInBounds i x).setIfInBounds j y).setIfInBounds k z = C') : Rd w R T D C' (((wx.setCell ⟨w.heap.size + 1, i, none⟩ x).setCell ⟨w.heap.size + 1, j, none⟩ y).setCell ⟨w.heap.size + 1, k, none⟩ z) := by
  rw [← hC]; exact ((H.set i x).set j y).set k z
theorem Rd.fin {w : World} {R T : TypeId} {D C : Array Value} {wx : World} (H : Rd w R T D C wx) {x y z : Value} : Below w.heap.size w (((wx.setCell ⟨w.heap.size, 0, none⟩ x).setCell ⟨w.heap.size, 1, none⟩ y).setCell ⟨w.heap.size, 2, none⟩ z) := bl3 H.below (Nat.le_refl _)
/-- An array of three values, its marks too. -/
theorem box9f {w : World} {g : Nat} {T : TypeId} {a b c d e f x y z : Value} (h : w.heap[g]? = some (.cells #[a, b, c, d, e, f, x, y, z] T (0, 0))) :
    w.frozen? ⟨g, 0, none⟩ = false ∧ w.frozen? ⟨g, 1, none⟩ = false ∧ w.frozen? ⟨g, 2, none⟩ = false ∧ w.frozen? ⟨g, 3, none⟩ = false ∧ w.frozen? ⟨g, 4, none⟩ = false ∧ w.frozen? ⟨g, 5, none⟩ = false ∧ w.frozen? ⟨g, 6, none⟩ = false ∧ w.frozen? ⟨g, 7, none⟩ = false ∧ w.frozen? ⟨g, 8, none⟩ = false := by
  simp [World.frozen?, h]
/-- What reduce gives. -/
def RedV (l : List Tm) (v : V) (r : List Tm) (w : World) (e : Ending) (w' : World) : Prop := ∃ k n s q, Hid (v = ⟨k, n, s⟩) ∧ Hid (q ≤ l.length ∧ l.drop q = r) ∧ e = .returned (.tuple #[.agg #[.int .i64 k, .int .i64 n, .string s], .int .i64 (q : Nat)]) ∧ Below w.heap.size w w'
theorem drop_rest {l a r : List Tm} {p : Nat} (h : l.drop p = a ++ r) (hp : p ≤ l.length) : ∃ q, q ≤ l.length ∧ l.drop q = r := ⟨l.length - r.length, by omega, (drop_suffix h hp).1.symm⟩
theorem head_at {l : List Tm} {x : Ex} {r : List Tm} {pos : Nat} (h : Head (l.drop pos) x r) (_hp : pos ≤ l.length) : ∃ hlt : pos < l.length, l[pos] = x.head ∧ l.drop (pos + 1) = flats x.args ++ r := by
  have h1 := h.1
  rw [Ex.flat_eq, List.cons_append] at h1
  have hlt : pos < l.length := by
    rcases Nat.lt_or_ge pos l.length with h2 | h2
    · exact h2
    · rw [List.drop_eq_nil_of_le h2] at h1; cases h1
  rw [List.drop_eq_getElem_cons hlt] at h1
  obtain ⟨h3, h4⟩ := List.cons.inj h1
  exact ⟨hlt, h3, h4⟩
theorem foldV_valid (row : List V) (x : Ex) (h : x.ok) : vB (x.fold (evT cmpV row)) = true := by rw [← evalX_fold cmpV row x h]; exact evalX_valid cmpV row x h
theorem reduceV_0 (ao : Option Addr) (cap : Nat) (l : List Tm) (hl : l.length ≤ 64) (row : List V) (gr : Nat) (x : Ex) (hx : x.args = []) (hok : x.ok) (_hsz : ∀ t ∈ l, t.okT)
    (ih : ∀ a ∈ x.args, ∀ (pos : Nat) (r : List Tm), Hid (Head (l.drop pos) a r) → pos ≤ l.length → ∀ w : World, Ops w → TmsAt w w.heap.size ao l → RowIn w gr row → Calls Tryz.prog 30 #[.slice ao l.length cap, .int .i64 pos, .func (.func 31) #[] #[.pointer (some ⟨gr, 0, none⟩)]] w (RedV l (a.fold (evT cmpV row)) r w))
    (pos : Nat) (r : List Tm) (hH : Hid (Head (l.drop pos) x r)) (hp : pos ≤ l.length) (w : World) (hO : Ops w) (hT : TmsAt w w.heap.size ao l) (hR : RowIn w gr row) :
    Calls Tryz.prog 30 #[.slice ao l.length cap, .int .i64 pos, .func (.func 31) #[] #[.pointer (some ⟨gr, 0, none⟩)]] w (RedV l (x.fold (evT cmpV row)) r w) := by
  obtain ⟨hlt, hhd, hrest⟩ := head_at hH.out hp
  obtain ⟨htb, har, hoks⟩ := (Ex.ok_iff x).1 hok
  obtain ⟨b, off, rfl, _⟩ := hT.form (by omega)
  obtain ⟨c0, c1, c2, c3, c4⟩ := RAt.tm hT hlt
  rw [hhd] at c0 c1 c2 c3 c4
  have hfold := Ex.fold_eq (evT cmpV row) x
  rw [hx] at hfold har hrest
  have hbl : b < w.heap.size := World.block_lt_of_cell? w _ c0
  have hA := fun w hO => arity_any x.head.op w hO
  rw [har] at hA
  have HA := Lib.hid hA
  have hC := fun (v : List V) (ak an bk bn ck cn : Int) (as' bs cs : ByteArray) w hO hR (hl : v.length = 0) hv he => evalC_any x.head.op x.head.v.k x.head.v.n x.head.c x.head.v.s v ak an bk bn ck cn as' bs cs row gr w hO hR htb (by rw [har, hl]; rfl) hv he
  have hte : (⟨x.head.op, ⟨x.head.v.k, x.head.v.n, x.head.v.s⟩, x.head.c⟩ : Tm) = x.head := rfl
  rw [hte] at hC
  have Hfold := Lib.hid hfold
  have HC := Lib.hid hC
  have HO := Lib.hid hO
  have HT := Lib.hid hT
  have HR := Lib.hid hR
  have Hrest := Lib.hid hrest
  have hpl : (pos : Int) < (l.length : Int) := by omega
  clear hA hC hO hT hR hrest hfold hte har htb hoks hhd ih _hsz hH
  generalize x.head = t at *
  obtain ⟨o, ⟨tk, tn, ts⟩, tc⟩ := t
  simp only at *
  obtain ⟨hq2, _⟩ := bcell (al2 w (.cells #[.int .i64 0, .int .i64 0, .string ⟨#[]⟩] 31) (.cells #[.int .i64 0, .int .i64 0, .string ⟨#[]⟩, .int .i64 0, .int .i64 0, .string ⟨#[]⟩, .int .i64 0, .int .i64 0, .string ⟨#[]⟩] 55))
  go_enter Tryz.func30, Tryz.ntmps30
  go_wp2_with fail
  refine (HA.out _ (HO.out.below (al2 _ _ _))).mono ?_
  rintro e w' ⟨rfl, rfl⟩
  go_wp2_with fail
  have HD := Lib.hid (Rd.start w 31 55 #[.int .i64 0, .int .i64 0, .string ⟨#[]⟩] #[.int .i64 0, .int .i64 0, .string ⟨#[]⟩, .int .i64 0, .int .i64 0, .string ⟨#[]⟩, .int .i64 0, .int .i64 0, .string ⟨#[]⟩])
  generalize (w.alloc (.cells #[.int .i64 0, .int .i64 0, .string ⟨#[]⟩] 31)).alloc (.cells #[.int .i64 0, .int .i64 0, .string ⟨#[]⟩, .int .i64 0, .int .i64 0, .string ⟨#[]⟩, .int .i64 0, .int .i64 0, .string ⟨#[]⟩] 55) = w0 at *
  clear hq2
  refine wp_loop_rounds 1 ?_
  have hval : Hid (∀ v ∈ ([] : List V), vB v = true) := by intro v hv; simp at hv
  have hres : Hid (x.fold (evT cmpV row) = evT cmpV row ⟨o, ⟨tk, tn, ts⟩, tc⟩ []) := by
    unfold Hid
    rw [Hfold.out]
    simp only [List.map_nil]
  have hend : Hid (pos + 1 ≤ l.length ∧ l.drop (pos + 1) = r) := ⟨by omega, by rw [Hrest.out]; simp [flats]⟩
  rw [rounds_succ]
  obtain ⟨hq0, _⟩ := bcell HD.out.below
  obtain ⟨a0, a1, a2, a3, a4, a5, a6, a7, a8⟩ := box9 HD.out.ops
  obtain ⟨e0, e1, e2, f0, f1, f2⟩ := box3 HD.out.res
  go_wp2_with fail
  go_region_law (go_simp; go_at_call 31; first | (refine (HC.out [] 0 0 0 0 0 0 ⟨#[]⟩ ⟨#[]⟩ ⟨#[]⟩ _ (HO.out.below HD.out.below) (HR.out.below HD.out.below) rfl hval.out rfl).mono ?_; rintro e w5 ⟨k, n, s, hv, rfl, hb⟩; replace HD := Lib.hid (HD.out.step hb); clear hb e0 e1 e2 f0 f1 f2; obtain ⟨e0, e1, e2, f0, f1, f2⟩ := box3 HD.out.res) | (refine (HC.out [] 0 0 0 0 0 0 ⟨#[]⟩ ⟨#[]⟩ ⟨#[]⟩ _ (HO.out.below HD.out.draw.below) (HR.out.below HD.out.draw.below) rfl hval.out rfl).mono ?_; rintro e w5 ⟨k, n, s, hv, rfl, hb⟩; replace HD := Lib.hid (HD.out.draw.step hb); clear hb e0 e1 e2 f0 f1 f2; obtain ⟨e0, e1, e2, f0, f1, f2⟩ := box3 HD.out.res))
  all_goals
    go_wp2_with fail
    refine bodyPost_ret (by simp [results, Tryz.results30, go_sem, e0, e1, e2]; rfl) rfl ?_
    exact ⟨k, n, s, pos + 1, hres.out.trans hv.out, hend, by first | rfl | (congr 3; omega) | simp, HD.out.fin⟩
theorem reduceV_1 (ao : Option Addr) (cap : Nat) (l : List Tm) (hl : l.length ≤ 64) (row : List V) (gr : Nat) (x : Ex) (x1 : Ex) (hx : x.args = [x1]) (hok : x.ok) (_hsz : ∀ t ∈ l, t.okT)
    (ih : ∀ a ∈ x.args, ∀ (pos : Nat) (r : List Tm), Hid (Head (l.drop pos) a r) → pos ≤ l.length → ∀ w : World, Ops w → TmsAt w w.heap.size ao l → RowIn w gr row → Calls Tryz.prog 30 #[.slice ao l.length cap, .int .i64 pos, .func (.func 31) #[] #[.pointer (some ⟨gr, 0, none⟩)]] w (RedV l (a.fold (evT cmpV row)) r w))
    (pos : Nat) (r : List Tm) (hH : Hid (Head (l.drop pos) x r)) (hp : pos ≤ l.length) (w : World) (hO : Ops w) (hT : TmsAt w w.heap.size ao l) (hR : RowIn w gr row) :
    Calls Tryz.prog 30 #[.slice ao l.length cap, .int .i64 pos, .func (.func 31) #[] #[.pointer (some ⟨gr, 0, none⟩)]] w (RedV l (x.fold (evT cmpV row)) r w) := by
  obtain ⟨hlt, hhd, hrest⟩ := head_at hH.out hp
  obtain ⟨htb, har, hoks⟩ := (Ex.ok_iff x).1 hok
  obtain ⟨b, off, rfl, _⟩ := hT.form (by omega)
  obtain ⟨c0, c1, c2, c3, c4⟩ := RAt.tm hT hlt
  rw [hhd] at c0 c1 c2 c3 c4
  have hfold := Ex.fold_eq (evT cmpV row) x
  rw [hx] at hfold har hrest
  have hbl : b < w.heap.size := World.block_lt_of_cell? w _ c0
  have hA := fun w hO => arity_any x.head.op w hO
  rw [har] at hA
  have HA := Lib.hid hA
  have hC := fun (v : List V) (ak an bk bn ck cn : Int) (as' bs cs : ByteArray) w hO hR (hl : v.length = 1) hv he => evalC_any x.head.op x.head.v.k x.head.v.n x.head.c x.head.v.s v ak an bk bn ck cn as' bs cs row gr w hO hR htb (by rw [har, hl]; rfl) hv he
  have hte : (⟨x.head.op, ⟨x.head.v.k, x.head.v.n, x.head.v.s⟩, x.head.c⟩ : Tm) = x.head := rfl
  rw [hte] at hC
  have ih1 := ih x1 (by rw [hx]; simp)
  have Hok1 := Lib.hid (foldV_valid row x1 (hoks x1 (by rw [hx]; simp)))
  have IH1 := Lib.hid ih1
  clear ih1
  have Hfold := Lib.hid hfold
  have HC := Lib.hid hC
  have HO := Lib.hid hO
  have HT := Lib.hid hT
  have HR := Lib.hid hR
  have Hrest := Lib.hid hrest
  have hpl : (pos : Int) < (l.length : Int) := by omega
  clear hA hC hO hT hR hrest hfold hte har htb hoks hhd ih _hsz hH
  generalize x.head = t at *
  obtain ⟨o, ⟨tk, tn, ts⟩, tc⟩ := t
  simp only at *
  obtain ⟨hq2, _⟩ := bcell (al2 w (.cells #[.int .i64 0, .int .i64 0, .string ⟨#[]⟩] 31) (.cells #[.int .i64 0, .int .i64 0, .string ⟨#[]⟩, .int .i64 0, .int .i64 0, .string ⟨#[]⟩, .int .i64 0, .int .i64 0, .string ⟨#[]⟩] 55))
  go_enter Tryz.func30, Tryz.ntmps30
  go_wp2_with fail
  refine (HA.out _ (HO.out.below (al2 _ _ _))).mono ?_
  rintro e w' ⟨rfl, rfl⟩
  go_wp2_with fail
  have HD := Lib.hid (Rd.start w 31 55 #[.int .i64 0, .int .i64 0, .string ⟨#[]⟩] #[.int .i64 0, .int .i64 0, .string ⟨#[]⟩, .int .i64 0, .int .i64 0, .string ⟨#[]⟩, .int .i64 0, .int .i64 0, .string ⟨#[]⟩])
  generalize (w.alloc (.cells #[.int .i64 0, .int .i64 0, .string ⟨#[]⟩] 31)).alloc (.cells #[.int .i64 0, .int .i64 0, .string ⟨#[]⟩, .int .i64 0, .int .i64 0, .string ⟨#[]⟩, .int .i64 0, .int .i64 0, .string ⟨#[]⟩] 55) = w0 at *
  clear hq2
  refine wp_loop_rounds 2 ?_
  have hH1 : Hid (Head (l.drop (pos + 1)) x1 (flats [] ++ r)) := by
    refine ⟨?_, by have h := (Ex.ok_iff x).1 hok; exact h.2.2 x1 (by rw [hx]; simp)⟩
    rw [Hrest.out]; simp [flats]
  rw [rounds_succ]
  go_wp2_with fail
  refine (IH1.out (pos + 1) _ hH1 (by omega) _ (HO.out.below HD.out.below) (HT.out.later HD.out.below) (HR.out.below HD.out.below)).mono ?_
  rintro e w1 ⟨k1, n1, s1, q1, hv1, hq1, rfl, hb⟩
  replace HD := Lib.hid (HD.out.step hb)
  obtain ⟨a0, a1, a2, a3, a4, a5, a6, a7, a8⟩ := box9 HD.out.ops
  obtain ⟨f0, f1, f2, f3, f4, f5, f6, f7, f8⟩ := box9f HD.out.ops
  clear hb
  go_wp2_with fail
  clear a0 a1 a2 a3 a4 a5 a6 a7 a8 f0 f1 f2 f3 f4 f5 f6 f7 f8
  replace HD := Lib.hid (HD.out.set3 (C' := #[.int .i64 k1, .int .i64 n1, .string s1, .int .i64 0, .int .i64 0, .string ⟨#[]⟩, .int .i64 0, .int .i64 0, .string ⟨#[]⟩]) 0 1 2 (.int .i64 k1) (.int .i64 n1) (.string s1) rfl)
  generalize (((w1.setCell ⟨w.heap.size + 1, 0, none⟩ (.int .i64 k1)).setCell ⟨w.heap.size + 1, 1, none⟩ (.int .i64 n1)).setCell ⟨w.heap.size + 1, 2, none⟩ (.string s1)) = w1' at *
  have hval : Hid (∀ v ∈ ([⟨k1, n1, s1⟩] : List V), vB v = true) := by intro v hv; simp only [List.mem_cons, List.not_mem_nil, or_false] at hv; subst hv; rw [← hv1.out]; exact Hok1.out
  have hres : Hid (x.fold (evT cmpV row) = evT cmpV row ⟨o, ⟨tk, tn, ts⟩, tc⟩ [⟨k1, n1, s1⟩]) := by
    unfold Hid
    rw [Hfold.out]
    simp only [List.map_cons, List.map_nil, hv1.out]
  have hend : Hid (q1 ≤ l.length ∧ l.drop (q1) = r) := ⟨hq1.out.1, by rw [hq1.out.2]; simp [flats]⟩
  rw [rounds_succ]
  obtain ⟨hq0, _⟩ := bcell HD.out.below
  obtain ⟨a0, a1, a2, a3, a4, a5, a6, a7, a8⟩ := box9 HD.out.ops
  obtain ⟨e0, e1, e2, f0, f1, f2⟩ := box3 HD.out.res
  go_wp2_with fail
  go_region_law (go_simp; go_at_call 31; first | (refine (HC.out [⟨k1, n1, s1⟩] k1 n1 0 0 0 0 s1 ⟨#[]⟩ ⟨#[]⟩ _ (HO.out.below HD.out.below) (HR.out.below HD.out.below) rfl hval.out rfl).mono ?_; rintro e w5 ⟨k, n, s, hv, rfl, hb⟩; replace HD := Lib.hid (HD.out.step hb); clear hb e0 e1 e2 f0 f1 f2; obtain ⟨e0, e1, e2, f0, f1, f2⟩ := box3 HD.out.res) | (refine (HC.out [⟨k1, n1, s1⟩] k1 n1 0 0 0 0 s1 ⟨#[]⟩ ⟨#[]⟩ _ (HO.out.below HD.out.draw.below) (HR.out.below HD.out.draw.below) rfl hval.out rfl).mono ?_; rintro e w5 ⟨k, n, s, hv, rfl, hb⟩; replace HD := Lib.hid (HD.out.draw.step hb); clear hb e0 e1 e2 f0 f1 f2; obtain ⟨e0, e1, e2, f0, f1, f2⟩ := box3 HD.out.res))
  all_goals
    go_wp2_with fail
    refine bodyPost_ret (by simp [results, Tryz.results30, go_sem, e0, e1, e2]; rfl) rfl ?_
    exact ⟨k, n, s, q1, hres.out.trans hv.out, hend, by first | rfl | (congr 3; omega) | simp, HD.out.fin⟩
theorem reduceV_2 (ao : Option Addr) (cap : Nat) (l : List Tm) (hl : l.length ≤ 64) (row : List V) (gr : Nat) (x : Ex) (x1 : Ex) (x2 : Ex) (hx : x.args = [x1, x2]) (hok : x.ok) (_hsz : ∀ t ∈ l, t.okT)
    (ih : ∀ a ∈ x.args, ∀ (pos : Nat) (r : List Tm), Hid (Head (l.drop pos) a r) → pos ≤ l.length → ∀ w : World, Ops w → TmsAt w w.heap.size ao l → RowIn w gr row → Calls Tryz.prog 30 #[.slice ao l.length cap, .int .i64 pos, .func (.func 31) #[] #[.pointer (some ⟨gr, 0, none⟩)]] w (RedV l (a.fold (evT cmpV row)) r w))
    (pos : Nat) (r : List Tm) (hH : Hid (Head (l.drop pos) x r)) (hp : pos ≤ l.length) (w : World) (hO : Ops w) (hT : TmsAt w w.heap.size ao l) (hR : RowIn w gr row) :
    Calls Tryz.prog 30 #[.slice ao l.length cap, .int .i64 pos, .func (.func 31) #[] #[.pointer (some ⟨gr, 0, none⟩)]] w (RedV l (x.fold (evT cmpV row)) r w) := by
  obtain ⟨hlt, hhd, hrest⟩ := head_at hH.out hp
  obtain ⟨htb, har, hoks⟩ := (Ex.ok_iff x).1 hok
  obtain ⟨b, off, rfl, _⟩ := hT.form (by omega)
  obtain ⟨c0, c1, c2, c3, c4⟩ := RAt.tm hT hlt
  rw [hhd] at c0 c1 c2 c3 c4
  have hfold := Ex.fold_eq (evT cmpV row) x
  rw [hx] at hfold har hrest
  have hbl : b < w.heap.size := World.block_lt_of_cell? w _ c0
  have hA := fun w hO => arity_any x.head.op w hO
  rw [har] at hA
  have HA := Lib.hid hA
  have hC := fun (v : List V) (ak an bk bn ck cn : Int) (as' bs cs : ByteArray) w hO hR (hl : v.length = 2) hv he => evalC_any x.head.op x.head.v.k x.head.v.n x.head.c x.head.v.s v ak an bk bn ck cn as' bs cs row gr w hO hR htb (by rw [har, hl]; rfl) hv he
  have hte : (⟨x.head.op, ⟨x.head.v.k, x.head.v.n, x.head.v.s⟩, x.head.c⟩ : Tm) = x.head := rfl
  rw [hte] at hC
  have ih1 := ih x1 (by rw [hx]; simp)
  have Hok1 := Lib.hid (foldV_valid row x1 (hoks x1 (by rw [hx]; simp)))
  have IH1 := Lib.hid ih1
  clear ih1
  have ih2 := ih x2 (by rw [hx]; simp)
  have Hok2 := Lib.hid (foldV_valid row x2 (hoks x2 (by rw [hx]; simp)))
  have IH2 := Lib.hid ih2
  clear ih2
  have Hfold := Lib.hid hfold
  have HC := Lib.hid hC
  have HO := Lib.hid hO
  have HT := Lib.hid hT
  have HR := Lib.hid hR
  have Hrest := Lib.hid hrest
  have hpl : (pos : Int) < (l.length : Int) := by omega
  clear hA hC hO hT hR hrest hfold hte har htb hoks hhd ih _hsz hH
  generalize x.head = t at *
  obtain ⟨o, ⟨tk, tn, ts⟩, tc⟩ := t
  simp only at *
  obtain ⟨hq2, _⟩ := bcell (al2 w (.cells #[.int .i64 0, .int .i64 0, .string ⟨#[]⟩] 31) (.cells #[.int .i64 0, .int .i64 0, .string ⟨#[]⟩, .int .i64 0, .int .i64 0, .string ⟨#[]⟩, .int .i64 0, .int .i64 0, .string ⟨#[]⟩] 55))
  go_enter Tryz.func30, Tryz.ntmps30
  go_wp2_with fail
  refine (HA.out _ (HO.out.below (al2 _ _ _))).mono ?_
  rintro e w' ⟨rfl, rfl⟩
  go_wp2_with fail
  have HD := Lib.hid (Rd.start w 31 55 #[.int .i64 0, .int .i64 0, .string ⟨#[]⟩] #[.int .i64 0, .int .i64 0, .string ⟨#[]⟩, .int .i64 0, .int .i64 0, .string ⟨#[]⟩, .int .i64 0, .int .i64 0, .string ⟨#[]⟩])
  generalize (w.alloc (.cells #[.int .i64 0, .int .i64 0, .string ⟨#[]⟩] 31)).alloc (.cells #[.int .i64 0, .int .i64 0, .string ⟨#[]⟩, .int .i64 0, .int .i64 0, .string ⟨#[]⟩, .int .i64 0, .int .i64 0, .string ⟨#[]⟩] 55) = w0 at *
  clear hq2
  refine wp_loop_rounds 3 ?_
  have hH1 : Hid (Head (l.drop (pos + 1)) x1 (flats [x2] ++ r)) := by
    refine ⟨?_, by have h := (Ex.ok_iff x).1 hok; exact h.2.2 x1 (by rw [hx]; simp)⟩
    rw [Hrest.out]; simp [flats]
  rw [rounds_succ]
  go_wp2_with fail
  refine (IH1.out (pos + 1) _ hH1 (by omega) _ (HO.out.below HD.out.below) (HT.out.later HD.out.below) (HR.out.below HD.out.below)).mono ?_
  rintro e w1 ⟨k1, n1, s1, q1, hv1, hq1, rfl, hb⟩
  replace HD := Lib.hid (HD.out.step hb)
  obtain ⟨a0, a1, a2, a3, a4, a5, a6, a7, a8⟩ := box9 HD.out.ops
  obtain ⟨f0, f1, f2, f3, f4, f5, f6, f7, f8⟩ := box9f HD.out.ops
  clear hb
  go_wp2_with fail
  clear a0 a1 a2 a3 a4 a5 a6 a7 a8 f0 f1 f2 f3 f4 f5 f6 f7 f8
  replace HD := Lib.hid (HD.out.set3 (C' := #[.int .i64 k1, .int .i64 n1, .string s1, .int .i64 0, .int .i64 0, .string ⟨#[]⟩, .int .i64 0, .int .i64 0, .string ⟨#[]⟩]) 0 1 2 (.int .i64 k1) (.int .i64 n1) (.string s1) rfl)
  generalize (((w1.setCell ⟨w.heap.size + 1, 0, none⟩ (.int .i64 k1)).setCell ⟨w.heap.size + 1, 1, none⟩ (.int .i64 n1)).setCell ⟨w.heap.size + 1, 2, none⟩ (.string s1)) = w1' at *
  have hH2 : Hid (Head (l.drop (q1)) x2 (flats [] ++ r)) := by
    refine ⟨?_, by have h := (Ex.ok_iff x).1 hok; exact h.2.2 x2 (by rw [hx]; simp)⟩
    rw [hq1.out.2]; simp [flats]
  rw [rounds_succ]
  go_wp2_with fail
  refine (IH2.out (q1) _ hH2 hq1.out.1 _ (HO.out.below HD.out.below) (HT.out.later HD.out.below) (HR.out.below HD.out.below)).mono ?_
  rintro e w2 ⟨k2, n2, s2, q2, hv2, hq2, rfl, hb⟩
  replace HD := Lib.hid (HD.out.step hb)
  obtain ⟨a0, a1, a2, a3, a4, a5, a6, a7, a8⟩ := box9 HD.out.ops
  obtain ⟨f0, f1, f2, f3, f4, f5, f6, f7, f8⟩ := box9f HD.out.ops
  clear hb
  go_wp2_with fail
  clear a0 a1 a2 a3 a4 a5 a6 a7 a8 f0 f1 f2 f3 f4 f5 f6 f7 f8
  replace HD := Lib.hid (HD.out.set3 (C' := #[.int .i64 k1, .int .i64 n1, .string s1, .int .i64 k2, .int .i64 n2, .string s2, .int .i64 0, .int .i64 0, .string ⟨#[]⟩]) 3 4 5 (.int .i64 k2) (.int .i64 n2) (.string s2) rfl)
  generalize (((w2.setCell ⟨w.heap.size + 1, 3, none⟩ (.int .i64 k2)).setCell ⟨w.heap.size + 1, 4, none⟩ (.int .i64 n2)).setCell ⟨w.heap.size + 1, 5, none⟩ (.string s2)) = w2' at *
  have hval : Hid (∀ v ∈ ([⟨k1, n1, s1⟩, ⟨k2, n2, s2⟩] : List V), vB v = true) := by
    intro v hv
    simp only [List.mem_cons, List.not_mem_nil, or_false] at hv
    rcases hv with rfl | rfl
    · rw [← hv1.out]; exact Hok1.out
    · rw [← hv2.out]; exact Hok2.out
  have hres : Hid (x.fold (evT cmpV row) = evT cmpV row ⟨o, ⟨tk, tn, ts⟩, tc⟩ [⟨k1, n1, s1⟩, ⟨k2, n2, s2⟩]) := by
    unfold Hid
    rw [Hfold.out]
    simp only [List.map_cons, List.map_nil, hv1.out, hv2.out]
  have hend : Hid (q2 ≤ l.length ∧ l.drop (q2) = r) := ⟨hq2.out.1, by rw [hq2.out.2]; simp [flats]⟩
  rw [rounds_succ]
  obtain ⟨hq0, _⟩ := bcell HD.out.below
  obtain ⟨a0, a1, a2, a3, a4, a5, a6, a7, a8⟩ := box9 HD.out.ops
  obtain ⟨e0, e1, e2, f0, f1, f2⟩ := box3 HD.out.res
  go_wp2_with fail
  go_region_law (go_simp; go_at_call 31; first | (refine (HC.out [⟨k1, n1, s1⟩, ⟨k2, n2, s2⟩] k1 n1 k2 n2 0 0 s1 s2 ⟨#[]⟩ _ (HO.out.below HD.out.below) (HR.out.below HD.out.below) rfl hval.out rfl).mono ?_; rintro e w5 ⟨k, n, s, hv, rfl, hb⟩; replace HD := Lib.hid (HD.out.step hb); clear hb e0 e1 e2 f0 f1 f2; obtain ⟨e0, e1, e2, f0, f1, f2⟩ := box3 HD.out.res) | (refine (HC.out [⟨k1, n1, s1⟩, ⟨k2, n2, s2⟩] k1 n1 k2 n2 0 0 s1 s2 ⟨#[]⟩ _ (HO.out.below HD.out.draw.below) (HR.out.below HD.out.draw.below) rfl hval.out rfl).mono ?_; rintro e w5 ⟨k, n, s, hv, rfl, hb⟩; replace HD := Lib.hid (HD.out.draw.step hb); clear hb e0 e1 e2 f0 f1 f2; obtain ⟨e0, e1, e2, f0, f1, f2⟩ := box3 HD.out.res))
  all_goals
    go_wp2_with fail
    refine bodyPost_ret (by simp [results, Tryz.results30, go_sem, e0, e1, e2]; rfl) rfl ?_
    exact ⟨k, n, s, q2, hres.out.trans hv.out, hend, by first | rfl | (congr 3; omega) | simp, HD.out.fin⟩
theorem reduceV_3 (ao : Option Addr) (cap : Nat) (l : List Tm) (hl : l.length ≤ 64) (row : List V) (gr : Nat) (x : Ex) (x1 : Ex) (x2 : Ex) (x3 : Ex) (hx : x.args = [x1, x2, x3]) (hok : x.ok) (_hsz : ∀ t ∈ l, t.okT)
    (ih : ∀ a ∈ x.args, ∀ (pos : Nat) (r : List Tm), Hid (Head (l.drop pos) a r) → pos ≤ l.length → ∀ w : World, Ops w → TmsAt w w.heap.size ao l → RowIn w gr row → Calls Tryz.prog 30 #[.slice ao l.length cap, .int .i64 pos, .func (.func 31) #[] #[.pointer (some ⟨gr, 0, none⟩)]] w (RedV l (a.fold (evT cmpV row)) r w))
    (pos : Nat) (r : List Tm) (hH : Hid (Head (l.drop pos) x r)) (hp : pos ≤ l.length) (w : World) (hO : Ops w) (hT : TmsAt w w.heap.size ao l) (hR : RowIn w gr row) :
    Calls Tryz.prog 30 #[.slice ao l.length cap, .int .i64 pos, .func (.func 31) #[] #[.pointer (some ⟨gr, 0, none⟩)]] w (RedV l (x.fold (evT cmpV row)) r w) := by
  obtain ⟨hlt, hhd, hrest⟩ := head_at hH.out hp
  obtain ⟨htb, har, hoks⟩ := (Ex.ok_iff x).1 hok
  obtain ⟨b, off, rfl, _⟩ := hT.form (by omega)
  obtain ⟨c0, c1, c2, c3, c4⟩ := RAt.tm hT hlt
  rw [hhd] at c0 c1 c2 c3 c4
  have hfold := Ex.fold_eq (evT cmpV row) x
  rw [hx] at hfold har hrest
  have hbl : b < w.heap.size := World.block_lt_of_cell? w _ c0
  have hA := fun w hO => arity_any x.head.op w hO
  rw [har] at hA
  have HA := Lib.hid hA
  have hC := fun (v : List V) (ak an bk bn ck cn : Int) (as' bs cs : ByteArray) w hO hR (hl : v.length = 3) hv he => evalC_any x.head.op x.head.v.k x.head.v.n x.head.c x.head.v.s v ak an bk bn ck cn as' bs cs row gr w hO hR htb (by rw [har, hl]; rfl) hv he
  have hte : (⟨x.head.op, ⟨x.head.v.k, x.head.v.n, x.head.v.s⟩, x.head.c⟩ : Tm) = x.head := rfl
  rw [hte] at hC
  have ih1 := ih x1 (by rw [hx]; simp)
  have Hok1 := Lib.hid (foldV_valid row x1 (hoks x1 (by rw [hx]; simp)))
  have IH1 := Lib.hid ih1
  clear ih1
  have ih2 := ih x2 (by rw [hx]; simp)
  have Hok2 := Lib.hid (foldV_valid row x2 (hoks x2 (by rw [hx]; simp)))
  have IH2 := Lib.hid ih2
  clear ih2
  have ih3 := ih x3 (by rw [hx]; simp)
  have Hok3 := Lib.hid (foldV_valid row x3 (hoks x3 (by rw [hx]; simp)))
  have IH3 := Lib.hid ih3
  clear ih3
  have Hfold := Lib.hid hfold
  have HC := Lib.hid hC
  have HO := Lib.hid hO
  have HT := Lib.hid hT
  have HR := Lib.hid hR
  have Hrest := Lib.hid hrest
  have hpl : (pos : Int) < (l.length : Int) := by omega
  clear hA hC hO hT hR hrest hfold hte har htb hoks hhd ih _hsz hH
  generalize x.head = t at *
  obtain ⟨o, ⟨tk, tn, ts⟩, tc⟩ := t
  simp only at *
  obtain ⟨hq2, _⟩ := bcell (al2 w (.cells #[.int .i64 0, .int .i64 0, .string ⟨#[]⟩] 31) (.cells #[.int .i64 0, .int .i64 0, .string ⟨#[]⟩, .int .i64 0, .int .i64 0, .string ⟨#[]⟩, .int .i64 0, .int .i64 0, .string ⟨#[]⟩] 55))
  go_enter Tryz.func30, Tryz.ntmps30
  go_wp2_with fail
  refine (HA.out _ (HO.out.below (al2 _ _ _))).mono ?_
  rintro e w' ⟨rfl, rfl⟩
  go_wp2_with fail
  have HD := Lib.hid (Rd.start w 31 55 #[.int .i64 0, .int .i64 0, .string ⟨#[]⟩] #[.int .i64 0, .int .i64 0, .string ⟨#[]⟩, .int .i64 0, .int .i64 0, .string ⟨#[]⟩, .int .i64 0, .int .i64 0, .string ⟨#[]⟩])
  generalize (w.alloc (.cells #[.int .i64 0, .int .i64 0, .string ⟨#[]⟩] 31)).alloc (.cells #[.int .i64 0, .int .i64 0, .string ⟨#[]⟩, .int .i64 0, .int .i64 0, .string ⟨#[]⟩, .int .i64 0, .int .i64 0, .string ⟨#[]⟩] 55) = w0 at *
  clear hq2
  refine wp_loop_rounds 4 ?_
  have hH1 : Hid (Head (l.drop (pos + 1)) x1 (flats [x2, x3] ++ r)) := by
    refine ⟨?_, by have h := (Ex.ok_iff x).1 hok; exact h.2.2 x1 (by rw [hx]; simp)⟩
    rw [Hrest.out]; simp [flats]
  rw [rounds_succ]
  go_wp2_with fail
  refine (IH1.out (pos + 1) _ hH1 (by omega) _ (HO.out.below HD.out.below) (HT.out.later HD.out.below) (HR.out.below HD.out.below)).mono ?_
  rintro e w1 ⟨k1, n1, s1, q1, hv1, hq1, rfl, hb⟩
  replace HD := Lib.hid (HD.out.step hb)
  obtain ⟨a0, a1, a2, a3, a4, a5, a6, a7, a8⟩ := box9 HD.out.ops
  obtain ⟨f0, f1, f2, f3, f4, f5, f6, f7, f8⟩ := box9f HD.out.ops
  clear hb
  go_wp2_with fail
  clear a0 a1 a2 a3 a4 a5 a6 a7 a8 f0 f1 f2 f3 f4 f5 f6 f7 f8
  replace HD := Lib.hid (HD.out.set3 (C' := #[.int .i64 k1, .int .i64 n1, .string s1, .int .i64 0, .int .i64 0, .string ⟨#[]⟩, .int .i64 0, .int .i64 0, .string ⟨#[]⟩]) 0 1 2 (.int .i64 k1) (.int .i64 n1) (.string s1) rfl)
  generalize (((w1.setCell ⟨w.heap.size + 1, 0, none⟩ (.int .i64 k1)).setCell ⟨w.heap.size + 1, 1, none⟩ (.int .i64 n1)).setCell ⟨w.heap.size + 1, 2, none⟩ (.string s1)) = w1' at *
  have hH2 : Hid (Head (l.drop (q1)) x2 (flats [x3] ++ r)) := by
    refine ⟨?_, by have h := (Ex.ok_iff x).1 hok; exact h.2.2 x2 (by rw [hx]; simp)⟩
    rw [hq1.out.2]; simp [flats]
  rw [rounds_succ]
  go_wp2_with fail
  refine (IH2.out (q1) _ hH2 hq1.out.1 _ (HO.out.below HD.out.below) (HT.out.later HD.out.below) (HR.out.below HD.out.below)).mono ?_
  rintro e w2 ⟨k2, n2, s2, q2, hv2, hq2, rfl, hb⟩
  replace HD := Lib.hid (HD.out.step hb)
  obtain ⟨a0, a1, a2, a3, a4, a5, a6, a7, a8⟩ := box9 HD.out.ops
  obtain ⟨f0, f1, f2, f3, f4, f5, f6, f7, f8⟩ := box9f HD.out.ops
  clear hb
  go_wp2_with fail
  clear a0 a1 a2 a3 a4 a5 a6 a7 a8 f0 f1 f2 f3 f4 f5 f6 f7 f8
  replace HD := Lib.hid (HD.out.set3 (C' := #[.int .i64 k1, .int .i64 n1, .string s1, .int .i64 k2, .int .i64 n2, .string s2, .int .i64 0, .int .i64 0, .string ⟨#[]⟩]) 3 4 5 (.int .i64 k2) (.int .i64 n2) (.string s2) rfl)
  generalize (((w2.setCell ⟨w.heap.size + 1, 3, none⟩ (.int .i64 k2)).setCell ⟨w.heap.size + 1, 4, none⟩ (.int .i64 n2)).setCell ⟨w.heap.size + 1, 5, none⟩ (.string s2)) = w2' at *
  have hH3 : Hid (Head (l.drop (q2)) x3 (flats [] ++ r)) := by
    refine ⟨?_, by have h := (Ex.ok_iff x).1 hok; exact h.2.2 x3 (by rw [hx]; simp)⟩
    rw [hq2.out.2]; simp [flats]
  rw [rounds_succ]
  go_wp2_with fail
  refine (IH3.out (q2) _ hH3 hq2.out.1 _ (HO.out.below HD.out.below) (HT.out.later HD.out.below) (HR.out.below HD.out.below)).mono ?_
  rintro e w3 ⟨k3, n3, s3, q3, hv3, hq3, rfl, hb⟩
  replace HD := Lib.hid (HD.out.step hb)
  obtain ⟨a0, a1, a2, a3, a4, a5, a6, a7, a8⟩ := box9 HD.out.ops
  obtain ⟨f0, f1, f2, f3, f4, f5, f6, f7, f8⟩ := box9f HD.out.ops
  clear hb
  go_wp2_with fail
  clear a0 a1 a2 a3 a4 a5 a6 a7 a8 f0 f1 f2 f3 f4 f5 f6 f7 f8
  replace HD := Lib.hid (HD.out.set3 (C' := #[.int .i64 k1, .int .i64 n1, .string s1, .int .i64 k2, .int .i64 n2, .string s2, .int .i64 k3, .int .i64 n3, .string s3]) 6 7 8 (.int .i64 k3) (.int .i64 n3) (.string s3) rfl)
  generalize (((w3.setCell ⟨w.heap.size + 1, 6, none⟩ (.int .i64 k3)).setCell ⟨w.heap.size + 1, 7, none⟩ (.int .i64 n3)).setCell ⟨w.heap.size + 1, 8, none⟩ (.string s3)) = w3' at *
  have hval : Hid (∀ v ∈ ([⟨k1, n1, s1⟩, ⟨k2, n2, s2⟩, ⟨k3, n3, s3⟩] : List V), vB v = true) := by
    intro v hv
    simp only [List.mem_cons, List.not_mem_nil, or_false] at hv
    rcases hv with rfl | rfl | rfl
    · rw [← hv1.out]; exact Hok1.out
    · rw [← hv2.out]; exact Hok2.out
    · rw [← hv3.out]; exact Hok3.out
  have hres : Hid (x.fold (evT cmpV row) = evT cmpV row ⟨o, ⟨tk, tn, ts⟩, tc⟩ [⟨k1, n1, s1⟩, ⟨k2, n2, s2⟩, ⟨k3, n3, s3⟩]) := by
    unfold Hid
    rw [Hfold.out]
    simp only [List.map_cons, List.map_nil, hv1.out, hv2.out, hv3.out]
  have hend : Hid (q3 ≤ l.length ∧ l.drop (q3) = r) := ⟨hq3.out.1, by rw [hq3.out.2]; simp [flats]⟩
  rw [rounds_succ]
  obtain ⟨hq0, _⟩ := bcell HD.out.below
  obtain ⟨a0, a1, a2, a3, a4, a5, a6, a7, a8⟩ := box9 HD.out.ops
  obtain ⟨e0, e1, e2, f0, f1, f2⟩ := box3 HD.out.res
  go_wp2_with fail
  go_region_law (go_simp; go_at_call 31; first | (refine (HC.out [⟨k1, n1, s1⟩, ⟨k2, n2, s2⟩, ⟨k3, n3, s3⟩] k1 n1 k2 n2 k3 n3 s1 s2 s3 _ (HO.out.below HD.out.below) (HR.out.below HD.out.below) rfl hval.out rfl).mono ?_; rintro e w5 ⟨k, n, s, hv, rfl, hb⟩; replace HD := Lib.hid (HD.out.step hb); clear hb e0 e1 e2 f0 f1 f2; obtain ⟨e0, e1, e2, f0, f1, f2⟩ := box3 HD.out.res) | (refine (HC.out [⟨k1, n1, s1⟩, ⟨k2, n2, s2⟩, ⟨k3, n3, s3⟩] k1 n1 k2 n2 k3 n3 s1 s2 s3 _ (HO.out.below HD.out.draw.below) (HR.out.below HD.out.draw.below) rfl hval.out rfl).mono ?_; rintro e w5 ⟨k, n, s, hv, rfl, hb⟩; replace HD := Lib.hid (HD.out.draw.step hb); clear hb e0 e1 e2 f0 f1 f2; obtain ⟨e0, e1, e2, f0, f1, f2⟩ := box3 HD.out.res))
  all_goals
    go_wp2_with fail
    refine bodyPost_ret (by simp [results, Tryz.results30, go_sem, e0, e1, e2]; rfl) rfl ?_
    exact ⟨k, n, s, q3, hres.out.trans hv.out, hend, by first | rfl | (congr 3; omega) | simp, HD.out.fin⟩
end Go.Proofs.YtmikeifkmjhioaaGreatDoor
