/- reduce of package expr at the function of Format; Format; awake of the laws. -/
import Derived.Test.YtmikeifkmjhioaaGreatDoorYn
namespace Go.Proofs.YtmikeifkmjhioaaGreatDoor
open Go.RowKit Go.Proofs.EB
set_option maxHeartbeats 4000000
set_option maxRecDepth 100000
attribute [local go_sem] World.cell?_alloc_some

/-- The block of reduce, where the result is no struct: the operands. -/
structure Rd1 (w : World) (T : TypeId) (C : Array Value) (wx : World) : Prop where
  below : Below w.heap.size w wx
  ops : wx.heap[w.heap.size]? = some (.cells C T (0, 0))
theorem Rd1.start (w : World) (T : TypeId) (C : Array Value) : Rd1 w T C (w.alloc (.cells C T)) := ⟨al1 _ _, heap_alloc_new _ _⟩
theorem Rd1.step {w : World} {T : TypeId} {C : Array Value} {wx wy : World} (H : Rd1 w T C wx) (hb : Below wx.heap.size wx wy) : Rd1 w T C wy := by
  have lt : ∀ {i o}, wx.heap[i]? = some o → i < wx.heap.size := fun h => (Array.getElem?_eq_some_iff.1 h).1
  exact ⟨bt H.below hb, (hb.block _ (lt H.ops)).trans H.ops⟩
theorem Rd1.draw {w : World} {T : TypeId} {C : Array Value} {wx : World} (H : Rd1 w T C wx) : Rd1 w T C wx.drew := ⟨H.below.drew, H.ops⟩
theorem Rd1.set {w : World} {T : TypeId} {C C' : Array Value} {wx : World} (H : Rd1 w T C wx) (i : Nat) (v : Value) (hC : C.setIfInBounds i v = C') : Rd1 w T C' (wx.setCell ⟨w.heap.size, i, none⟩ v) :=
  ⟨H.below.setCell (Nat.le_refl _) _, by rw [← hC]; exact heap_setCell_same wx _ _ _ _ _ H.ops⟩
/-- What reduce gives. -/
def RedS (l : List Tm) (v : List UInt8) (r : List Tm) (w : World) (e : Ending) (w' : World) : Prop := ∃ s q, Hid (s.data.toList = v) ∧ Hid (q ≤ l.length ∧ l.drop q = r) ∧ e = .returned (.tuple #[.string s, .int .i64 (q : Nat)]) ∧ Below w.heap.size w w'
theorem flat_le_flats {a : Ex} : ∀ {xs : List Ex}, a ∈ xs → a.flat.length ≤ (flats xs).length
  | x :: xs, h => by
    simp only [flats, List.length_append]
    rcases List.mem_cons.1 h with rfl | h
    · omega
    · have := flat_le_flats h; omega
theorem reduceS_0 (ao : Option Addr) (cap : Nat) (l : List Tm) (hl : l.length ≤ 64) (nms : List ByteArray) (gr : Nat) (x : Ex) (hx : x.args = []) (hok : x.ok) (hnm : ∀ s ∈ nms, s.size ≤ 1000)
    (ih : ∀ a ∈ x.args, ∀ (pos : Nat) (r : List Tm), Hid (Head (l.drop pos) a r) → pos ≤ l.length → ∀ w : World, Ops w → Tab w → TmsAt w w.heap.size ao l → NmIn w gr nms → Calls Tryz.prog 62 #[.slice ao l.length cap, .int .i64 pos, .func (.func 63) #[] #[.pointer (some ⟨gr, 0, none⟩)]] w (RedS l (a.fold (fmtT nms)) r w))
    (pos : Nat) (r : List Tm) (hH : Hid (Head (l.drop pos) x r)) (hp : pos ≤ l.length) (w : World) (hO : Ops w) (hTb : Tab w) (hT : TmsAt w w.heap.size ao l) (hR : NmIn w gr nms) :
    Calls Tryz.prog 62 #[.slice ao l.length cap, .int .i64 pos, .func (.func 63) #[] #[.pointer (some ⟨gr, 0, none⟩)]] w (RedS l (x.fold (fmtT nms)) r w) := by
  obtain ⟨hlt, hhd, hrest⟩ := head_at hH.out hp
  obtain ⟨htb, har, hoks⟩ := (Ex.ok_iff x).1 hok
  obtain ⟨b, off, rfl, _⟩ := hT.form (by omega)
  obtain ⟨c0, c1, c2, c3, c4⟩ := RAt.tm hT hlt
  rw [hhd] at c0 c1 c2 c3 c4
  have hlen : ∀ a ∈ x.args, (a.fold (fmtT nms)).length ≤ 1000000 := fun a ha => by
    have h1 := fmtX_len nms hnm a (hoks a ha)
    have h2 := flat_le_flats ha
    have h3 := congrArg List.length hrest
    rw [List.length_drop, List.length_append] at h3
    omega
  have hfold := Ex.fold_eq (fmtT nms) x
  rw [hx] at hfold har hrest hlen
  have hbl : b < w.heap.size := World.block_lt_of_cell? w _ c0
  have hA := fun w hO => arity_any x.head.op w hO
  rw [har] at hA
  have HA := Lib.hid hA
  have hC := fun (v : List (List UInt8)) (z0 z1 z2 : ByteArray) w hO hTb hR (hl : v.length = 0) hv he => fmtC_any x.head.op x.head.v.k x.head.v.n x.head.c x.head.v.s v z0 z1 z2 nms gr w hO hTb hR htb (by rw [har, hl]; rfl) hv he
  have hte : (⟨x.head.op, ⟨x.head.v.k, x.head.v.n, x.head.v.s⟩, x.head.c⟩ : Tm) = x.head := rfl
  rw [hte] at hC
  have Hfold := Lib.hid hfold
  have HC := Lib.hid hC
  have HO := Lib.hid hO
  have HTb := Lib.hid hTb
  have HT := Lib.hid hT
  have HR := Lib.hid hR
  have Hrest := Lib.hid hrest
  have hpl : (pos : Int) < (l.length : Int) := by omega
  clear hA hC hO hT hR hrest hfold hte har htb hoks hhd ih hH hlen hTb hnm
  generalize x.head = t at *
  obtain ⟨o, ⟨tk, tn, ts⟩, tc⟩ := t
  simp only at *
  obtain ⟨hq2, _⟩ := bcell (al1 w (.cells #[.string ⟨#[]⟩, .string ⟨#[]⟩, .string ⟨#[]⟩] 92))
  go_enter Tryz.func62, Tryz.ntmps62
  go_wp2_with fail
  refine (HA.out _ (HO.out.below (al1 _ _))).mono ?_
  rintro e w' ⟨rfl, rfl⟩
  go_wp2_with fail
  have HD := Lib.hid (Rd1.start w 92 #[.string ⟨#[]⟩, .string ⟨#[]⟩, .string ⟨#[]⟩])
  generalize w.alloc (.cells #[.string ⟨#[]⟩, .string ⟨#[]⟩, .string ⟨#[]⟩] 92) = w0 at *
  clear hq2
  refine wp_loop_rounds 1 ?_
  have hval : Hid (∀ v ∈ ([] : List (List UInt8)), v.length ≤ 1000000) := by intro v hv; simp at hv
  have hres : Hid (x.fold (fmtT nms) = fmtT nms ⟨o, ⟨tk, tn, ts⟩, tc⟩ []) := by
    unfold Hid
    rw [Hfold.out]
    simp only [List.map_nil]
  have hend : Hid (pos + 1 ≤ l.length ∧ l.drop (pos + 1) = r) := ⟨by omega, by rw [Hrest.out]; simp [flats]⟩
  rw [rounds_succ]
  obtain ⟨hq0, _⟩ := bcell HD.out.below
  obtain ⟨a0, a1, a2, f0, f1, f2⟩ := box3 HD.out.ops
  go_wp2_with fail
  go_region_law (go_simp; go_at_call 63; first | (refine (HC.out [] ⟨#[]⟩ ⟨#[]⟩ ⟨#[]⟩ _ (HO.out.below HD.out.below) (tab_below HTb.out HD.out.below) (HR.out.below HD.out.below) rfl hval.out rfl).mono ?_; rintro e w5 ⟨s, hv, rfl, hb⟩; replace HD := Lib.hid (HD.out.step hb); clear hb) | (refine (HC.out [] ⟨#[]⟩ ⟨#[]⟩ ⟨#[]⟩ _ (HO.out.below HD.out.draw.below) (tab_below HTb.out HD.out.draw.below) (HR.out.below HD.out.draw.below) rfl hval.out rfl).mono ?_; rintro e w5 ⟨s, hv, rfl, hb⟩; replace HD := Lib.hid (HD.out.draw.step hb); clear hb))
  all_goals
    go_wp2_with fail
    go_ret2
    exact ⟨s, pos + 1, (by unfold Hid; rw [hres.out]; exact hv.out), hend, by first | rfl | simp, HD.out.below⟩
theorem reduceS_1 (ao : Option Addr) (cap : Nat) (l : List Tm) (hl : l.length ≤ 64) (nms : List ByteArray) (gr : Nat) (x : Ex) (x1 : Ex) (hx : x.args = [x1]) (hok : x.ok) (hnm : ∀ s ∈ nms, s.size ≤ 1000)
    (ih : ∀ a ∈ x.args, ∀ (pos : Nat) (r : List Tm), Hid (Head (l.drop pos) a r) → pos ≤ l.length → ∀ w : World, Ops w → Tab w → TmsAt w w.heap.size ao l → NmIn w gr nms → Calls Tryz.prog 62 #[.slice ao l.length cap, .int .i64 pos, .func (.func 63) #[] #[.pointer (some ⟨gr, 0, none⟩)]] w (RedS l (a.fold (fmtT nms)) r w))
    (pos : Nat) (r : List Tm) (hH : Hid (Head (l.drop pos) x r)) (hp : pos ≤ l.length) (w : World) (hO : Ops w) (hTb : Tab w) (hT : TmsAt w w.heap.size ao l) (hR : NmIn w gr nms) :
    Calls Tryz.prog 62 #[.slice ao l.length cap, .int .i64 pos, .func (.func 63) #[] #[.pointer (some ⟨gr, 0, none⟩)]] w (RedS l (x.fold (fmtT nms)) r w) := by
  obtain ⟨hlt, hhd, hrest⟩ := head_at hH.out hp
  obtain ⟨htb, har, hoks⟩ := (Ex.ok_iff x).1 hok
  obtain ⟨b, off, rfl, _⟩ := hT.form (by omega)
  obtain ⟨c0, c1, c2, c3, c4⟩ := RAt.tm hT hlt
  rw [hhd] at c0 c1 c2 c3 c4
  have hlen : ∀ a ∈ x.args, (a.fold (fmtT nms)).length ≤ 1000000 := fun a ha => by
    have h1 := fmtX_len nms hnm a (hoks a ha)
    have h2 := flat_le_flats ha
    have h3 := congrArg List.length hrest
    rw [List.length_drop, List.length_append] at h3
    omega
  have hfold := Ex.fold_eq (fmtT nms) x
  rw [hx] at hfold har hrest hlen
  have hbl : b < w.heap.size := World.block_lt_of_cell? w _ c0
  have hA := fun w hO => arity_any x.head.op w hO
  rw [har] at hA
  have HA := Lib.hid hA
  have hC := fun (v : List (List UInt8)) (z0 z1 z2 : ByteArray) w hO hTb hR (hl : v.length = 1) hv he => fmtC_any x.head.op x.head.v.k x.head.v.n x.head.c x.head.v.s v z0 z1 z2 nms gr w hO hTb hR htb (by rw [har, hl]; rfl) hv he
  have hte : (⟨x.head.op, ⟨x.head.v.k, x.head.v.n, x.head.v.s⟩, x.head.c⟩ : Tm) = x.head := rfl
  rw [hte] at hC
  have ih1 := ih x1 (by rw [hx]; simp)
  have Hok1 := Lib.hid (hlen x1 (by simp))
  have IH1 := Lib.hid ih1
  clear ih1
  have Hfold := Lib.hid hfold
  have HC := Lib.hid hC
  have HO := Lib.hid hO
  have HTb := Lib.hid hTb
  have HT := Lib.hid hT
  have HR := Lib.hid hR
  have Hrest := Lib.hid hrest
  have hpl : (pos : Int) < (l.length : Int) := by omega
  clear hA hC hO hT hR hrest hfold hte har htb hoks hhd ih hH hlen hTb hnm
  generalize x.head = t at *
  obtain ⟨o, ⟨tk, tn, ts⟩, tc⟩ := t
  simp only at *
  obtain ⟨hq2, _⟩ := bcell (al1 w (.cells #[.string ⟨#[]⟩, .string ⟨#[]⟩, .string ⟨#[]⟩] 92))
  go_enter Tryz.func62, Tryz.ntmps62
  go_wp2_with fail
  refine (HA.out _ (HO.out.below (al1 _ _))).mono ?_
  rintro e w' ⟨rfl, rfl⟩
  go_wp2_with fail
  have HD := Lib.hid (Rd1.start w 92 #[.string ⟨#[]⟩, .string ⟨#[]⟩, .string ⟨#[]⟩])
  generalize w.alloc (.cells #[.string ⟨#[]⟩, .string ⟨#[]⟩, .string ⟨#[]⟩] 92) = w0 at *
  clear hq2
  refine wp_loop_rounds 2 ?_
  have hH1 : Hid (Head (l.drop (pos + 1)) x1 (flats [] ++ r)) := by
    refine ⟨?_, by have h := (Ex.ok_iff x).1 hok; exact h.2.2 x1 (by rw [hx]; simp)⟩
    rw [Hrest.out]; simp [flats]
  rw [rounds_succ]
  go_wp2_with fail
  refine (IH1.out (pos + 1) _ hH1 (by omega) _ (HO.out.below HD.out.below) (tab_below HTb.out HD.out.below) (HT.out.later HD.out.below) (HR.out.below HD.out.below)).mono ?_
  rintro e w1 ⟨s1, q1, hv1, hq1, rfl, hb⟩
  replace HD := Lib.hid (HD.out.step hb)
  obtain ⟨a0, a1, a2, f0, f1, f2⟩ := box3 HD.out.ops
  clear hb
  go_wp2_with fail
  clear a0 a1 a2 f0 f1 f2
  replace HD := Lib.hid (HD.out.set (C' := #[.string s1, .string ⟨#[]⟩, .string ⟨#[]⟩]) 0 (.string s1) rfl)
  generalize (w1.setCell ⟨w.heap.size, 0, none⟩ (.string s1)) = w1' at *
  have hval : Hid (∀ v ∈ ([s1.data.toList] : List (List UInt8)), v.length ≤ 1000000) := by
    intro v hv
    simp only [List.mem_cons, List.not_mem_nil, or_false] at hv
    rcases hv with rfl
    · rw [hv1.out]; exact Hok1.out
  have hres : Hid (x.fold (fmtT nms) = fmtT nms ⟨o, ⟨tk, tn, ts⟩, tc⟩ [s1.data.toList]) := by
    unfold Hid
    rw [Hfold.out]
    simp only [List.map_cons, List.map_nil, hv1.out]
  have hend : Hid (q1 ≤ l.length ∧ l.drop (q1) = r) := ⟨hq1.out.1, by rw [hq1.out.2]; simp [flats]⟩
  rw [rounds_succ]
  obtain ⟨hq0, _⟩ := bcell HD.out.below
  obtain ⟨a0, a1, a2, f0, f1, f2⟩ := box3 HD.out.ops
  go_wp2_with fail
  go_region_law (go_simp; go_at_call 63; first | (refine (HC.out [s1.data.toList] s1 ⟨#[]⟩ ⟨#[]⟩ _ (HO.out.below HD.out.below) (tab_below HTb.out HD.out.below) (HR.out.below HD.out.below) rfl hval.out rfl).mono ?_; rintro e w5 ⟨s, hv, rfl, hb⟩; replace HD := Lib.hid (HD.out.step hb); clear hb) | (refine (HC.out [s1.data.toList] s1 ⟨#[]⟩ ⟨#[]⟩ _ (HO.out.below HD.out.draw.below) (tab_below HTb.out HD.out.draw.below) (HR.out.below HD.out.draw.below) rfl hval.out rfl).mono ?_; rintro e w5 ⟨s, hv, rfl, hb⟩; replace HD := Lib.hid (HD.out.draw.step hb); clear hb))
  all_goals
    go_wp2_with fail
    go_ret2
    exact ⟨s, q1, (by unfold Hid; rw [hres.out]; exact hv.out), hend, by first | rfl | simp, HD.out.below⟩
theorem reduceS_2 (ao : Option Addr) (cap : Nat) (l : List Tm) (hl : l.length ≤ 64) (nms : List ByteArray) (gr : Nat) (x : Ex) (x1 : Ex) (x2 : Ex) (hx : x.args = [x1, x2]) (hok : x.ok) (hnm : ∀ s ∈ nms, s.size ≤ 1000)
    (ih : ∀ a ∈ x.args, ∀ (pos : Nat) (r : List Tm), Hid (Head (l.drop pos) a r) → pos ≤ l.length → ∀ w : World, Ops w → Tab w → TmsAt w w.heap.size ao l → NmIn w gr nms → Calls Tryz.prog 62 #[.slice ao l.length cap, .int .i64 pos, .func (.func 63) #[] #[.pointer (some ⟨gr, 0, none⟩)]] w (RedS l (a.fold (fmtT nms)) r w))
    (pos : Nat) (r : List Tm) (hH : Hid (Head (l.drop pos) x r)) (hp : pos ≤ l.length) (w : World) (hO : Ops w) (hTb : Tab w) (hT : TmsAt w w.heap.size ao l) (hR : NmIn w gr nms) :
    Calls Tryz.prog 62 #[.slice ao l.length cap, .int .i64 pos, .func (.func 63) #[] #[.pointer (some ⟨gr, 0, none⟩)]] w (RedS l (x.fold (fmtT nms)) r w) := by
  obtain ⟨hlt, hhd, hrest⟩ := head_at hH.out hp
  obtain ⟨htb, har, hoks⟩ := (Ex.ok_iff x).1 hok
  obtain ⟨b, off, rfl, _⟩ := hT.form (by omega)
  obtain ⟨c0, c1, c2, c3, c4⟩ := RAt.tm hT hlt
  rw [hhd] at c0 c1 c2 c3 c4
  have hlen : ∀ a ∈ x.args, (a.fold (fmtT nms)).length ≤ 1000000 := fun a ha => by
    have h1 := fmtX_len nms hnm a (hoks a ha)
    have h2 := flat_le_flats ha
    have h3 := congrArg List.length hrest
    rw [List.length_drop, List.length_append] at h3
    omega
  have hfold := Ex.fold_eq (fmtT nms) x
  rw [hx] at hfold har hrest hlen
  have hbl : b < w.heap.size := World.block_lt_of_cell? w _ c0
  have hA := fun w hO => arity_any x.head.op w hO
  rw [har] at hA
  have HA := Lib.hid hA
  have hC := fun (v : List (List UInt8)) (z0 z1 z2 : ByteArray) w hO hTb hR (hl : v.length = 2) hv he => fmtC_any x.head.op x.head.v.k x.head.v.n x.head.c x.head.v.s v z0 z1 z2 nms gr w hO hTb hR htb (by rw [har, hl]; rfl) hv he
  have hte : (⟨x.head.op, ⟨x.head.v.k, x.head.v.n, x.head.v.s⟩, x.head.c⟩ : Tm) = x.head := rfl
  rw [hte] at hC
  have ih1 := ih x1 (by rw [hx]; simp)
  have Hok1 := Lib.hid (hlen x1 (by simp))
  have IH1 := Lib.hid ih1
  clear ih1
  have ih2 := ih x2 (by rw [hx]; simp)
  have Hok2 := Lib.hid (hlen x2 (by simp))
  have IH2 := Lib.hid ih2
  clear ih2
  have Hfold := Lib.hid hfold
  have HC := Lib.hid hC
  have HO := Lib.hid hO
  have HTb := Lib.hid hTb
  have HT := Lib.hid hT
  have HR := Lib.hid hR
  have Hrest := Lib.hid hrest
  have hpl : (pos : Int) < (l.length : Int) := by omega
  clear hA hC hO hT hR hrest hfold hte har htb hoks hhd ih hH hlen hTb hnm
  generalize x.head = t at *
  obtain ⟨o, ⟨tk, tn, ts⟩, tc⟩ := t
  simp only at *
  obtain ⟨hq2, _⟩ := bcell (al1 w (.cells #[.string ⟨#[]⟩, .string ⟨#[]⟩, .string ⟨#[]⟩] 92))
  go_enter Tryz.func62, Tryz.ntmps62
  go_wp2_with fail
  refine (HA.out _ (HO.out.below (al1 _ _))).mono ?_
  rintro e w' ⟨rfl, rfl⟩
  go_wp2_with fail
  have HD := Lib.hid (Rd1.start w 92 #[.string ⟨#[]⟩, .string ⟨#[]⟩, .string ⟨#[]⟩])
  generalize w.alloc (.cells #[.string ⟨#[]⟩, .string ⟨#[]⟩, .string ⟨#[]⟩] 92) = w0 at *
  clear hq2
  refine wp_loop_rounds 3 ?_
  have hH1 : Hid (Head (l.drop (pos + 1)) x1 (flats [x2] ++ r)) := by
    refine ⟨?_, by have h := (Ex.ok_iff x).1 hok; exact h.2.2 x1 (by rw [hx]; simp)⟩
    rw [Hrest.out]; simp [flats]
  rw [rounds_succ]
  go_wp2_with fail
  refine (IH1.out (pos + 1) _ hH1 (by omega) _ (HO.out.below HD.out.below) (tab_below HTb.out HD.out.below) (HT.out.later HD.out.below) (HR.out.below HD.out.below)).mono ?_
  rintro e w1 ⟨s1, q1, hv1, hq1, rfl, hb⟩
  replace HD := Lib.hid (HD.out.step hb)
  obtain ⟨a0, a1, a2, f0, f1, f2⟩ := box3 HD.out.ops
  clear hb
  go_wp2_with fail
  clear a0 a1 a2 f0 f1 f2
  replace HD := Lib.hid (HD.out.set (C' := #[.string s1, .string ⟨#[]⟩, .string ⟨#[]⟩]) 0 (.string s1) rfl)
  generalize (w1.setCell ⟨w.heap.size, 0, none⟩ (.string s1)) = w1' at *
  have hH2 : Hid (Head (l.drop (q1)) x2 (flats [] ++ r)) := by
    refine ⟨?_, by have h := (Ex.ok_iff x).1 hok; exact h.2.2 x2 (by rw [hx]; simp)⟩
    rw [hq1.out.2]; simp [flats]
  rw [rounds_succ]
  go_wp2_with fail
  refine (IH2.out (q1) _ hH2 hq1.out.1 _ (HO.out.below HD.out.below) (tab_below HTb.out HD.out.below) (HT.out.later HD.out.below) (HR.out.below HD.out.below)).mono ?_
  rintro e w2 ⟨s2, q2, hv2, hq2, rfl, hb⟩
  replace HD := Lib.hid (HD.out.step hb)
  obtain ⟨a0, a1, a2, f0, f1, f2⟩ := box3 HD.out.ops
  clear hb
  go_wp2_with fail
  clear a0 a1 a2 f0 f1 f2
  replace HD := Lib.hid (HD.out.set (C' := #[.string s1, .string s2, .string ⟨#[]⟩]) 1 (.string s2) rfl)
  generalize (w2.setCell ⟨w.heap.size, 1, none⟩ (.string s2)) = w2' at *
  have hval : Hid (∀ v ∈ ([s1.data.toList, s2.data.toList] : List (List UInt8)), v.length ≤ 1000000) := by
    intro v hv
    simp only [List.mem_cons, List.not_mem_nil, or_false] at hv
    rcases hv with rfl | rfl
    · rw [hv1.out]; exact Hok1.out
    · rw [hv2.out]; exact Hok2.out
  have hres : Hid (x.fold (fmtT nms) = fmtT nms ⟨o, ⟨tk, tn, ts⟩, tc⟩ [s1.data.toList, s2.data.toList]) := by
    unfold Hid
    rw [Hfold.out]
    simp only [List.map_cons, List.map_nil, hv1.out, hv2.out]
  have hend : Hid (q2 ≤ l.length ∧ l.drop (q2) = r) := ⟨hq2.out.1, by rw [hq2.out.2]; simp [flats]⟩
  rw [rounds_succ]
  obtain ⟨hq0, _⟩ := bcell HD.out.below
  obtain ⟨a0, a1, a2, f0, f1, f2⟩ := box3 HD.out.ops
  go_wp2_with fail
  go_region_law (go_simp; go_at_call 63; first | (refine (HC.out [s1.data.toList, s2.data.toList] s1 s2 ⟨#[]⟩ _ (HO.out.below HD.out.below) (tab_below HTb.out HD.out.below) (HR.out.below HD.out.below) rfl hval.out rfl).mono ?_; rintro e w5 ⟨s, hv, rfl, hb⟩; replace HD := Lib.hid (HD.out.step hb); clear hb) | (refine (HC.out [s1.data.toList, s2.data.toList] s1 s2 ⟨#[]⟩ _ (HO.out.below HD.out.draw.below) (tab_below HTb.out HD.out.draw.below) (HR.out.below HD.out.draw.below) rfl hval.out rfl).mono ?_; rintro e w5 ⟨s, hv, rfl, hb⟩; replace HD := Lib.hid (HD.out.draw.step hb); clear hb))
  all_goals
    go_wp2_with fail
    go_ret2
    exact ⟨s, q2, (by unfold Hid; rw [hres.out]; exact hv.out), hend, by first | rfl | simp, HD.out.below⟩
theorem reduceS_3 (ao : Option Addr) (cap : Nat) (l : List Tm) (hl : l.length ≤ 64) (nms : List ByteArray) (gr : Nat) (x : Ex) (x1 : Ex) (x2 : Ex) (x3 : Ex) (hx : x.args = [x1, x2, x3]) (hok : x.ok) (hnm : ∀ s ∈ nms, s.size ≤ 1000)
    (ih : ∀ a ∈ x.args, ∀ (pos : Nat) (r : List Tm), Hid (Head (l.drop pos) a r) → pos ≤ l.length → ∀ w : World, Ops w → Tab w → TmsAt w w.heap.size ao l → NmIn w gr nms → Calls Tryz.prog 62 #[.slice ao l.length cap, .int .i64 pos, .func (.func 63) #[] #[.pointer (some ⟨gr, 0, none⟩)]] w (RedS l (a.fold (fmtT nms)) r w))
    (pos : Nat) (r : List Tm) (hH : Hid (Head (l.drop pos) x r)) (hp : pos ≤ l.length) (w : World) (hO : Ops w) (hTb : Tab w) (hT : TmsAt w w.heap.size ao l) (hR : NmIn w gr nms) :
    Calls Tryz.prog 62 #[.slice ao l.length cap, .int .i64 pos, .func (.func 63) #[] #[.pointer (some ⟨gr, 0, none⟩)]] w (RedS l (x.fold (fmtT nms)) r w) := by
  obtain ⟨hlt, hhd, hrest⟩ := head_at hH.out hp
  obtain ⟨htb, har, hoks⟩ := (Ex.ok_iff x).1 hok
  obtain ⟨b, off, rfl, _⟩ := hT.form (by omega)
  obtain ⟨c0, c1, c2, c3, c4⟩ := RAt.tm hT hlt
  rw [hhd] at c0 c1 c2 c3 c4
  have hlen : ∀ a ∈ x.args, (a.fold (fmtT nms)).length ≤ 1000000 := fun a ha => by
    have h1 := fmtX_len nms hnm a (hoks a ha)
    have h2 := flat_le_flats ha
    have h3 := congrArg List.length hrest
    rw [List.length_drop, List.length_append] at h3
    omega
  have hfold := Ex.fold_eq (fmtT nms) x
  rw [hx] at hfold har hrest hlen
  have hbl : b < w.heap.size := World.block_lt_of_cell? w _ c0
  have hA := fun w hO => arity_any x.head.op w hO
  rw [har] at hA
  have HA := Lib.hid hA
  have hC := fun (v : List (List UInt8)) (z0 z1 z2 : ByteArray) w hO hTb hR (hl : v.length = 3) hv he => fmtC_any x.head.op x.head.v.k x.head.v.n x.head.c x.head.v.s v z0 z1 z2 nms gr w hO hTb hR htb (by rw [har, hl]; rfl) hv he
  have hte : (⟨x.head.op, ⟨x.head.v.k, x.head.v.n, x.head.v.s⟩, x.head.c⟩ : Tm) = x.head := rfl
  rw [hte] at hC
  have ih1 := ih x1 (by rw [hx]; simp)
  have Hok1 := Lib.hid (hlen x1 (by simp))
  have IH1 := Lib.hid ih1
  clear ih1
  have ih2 := ih x2 (by rw [hx]; simp)
  have Hok2 := Lib.hid (hlen x2 (by simp))
  have IH2 := Lib.hid ih2
  clear ih2
  have ih3 := ih x3 (by rw [hx]; simp)
  have Hok3 := Lib.hid (hlen x3 (by simp))
  have IH3 := Lib.hid ih3
  clear ih3
  have Hfold := Lib.hid hfold
  have HC := Lib.hid hC
  have HO := Lib.hid hO
  have HTb := Lib.hid hTb
  have HT := Lib.hid hT
  have HR := Lib.hid hR
  have Hrest := Lib.hid hrest
  have hpl : (pos : Int) < (l.length : Int) := by omega
  clear hA hC hO hT hR hrest hfold hte har htb hoks hhd ih hH hlen hTb hnm
  generalize x.head = t at *
  obtain ⟨o, ⟨tk, tn, ts⟩, tc⟩ := t
  simp only at *
  obtain ⟨hq2, _⟩ := bcell (al1 w (.cells #[.string ⟨#[]⟩, .string ⟨#[]⟩, .string ⟨#[]⟩] 92))
  go_enter Tryz.func62, Tryz.ntmps62
  go_wp2_with fail
  refine (HA.out _ (HO.out.below (al1 _ _))).mono ?_
  rintro e w' ⟨rfl, rfl⟩
  go_wp2_with fail
  have HD := Lib.hid (Rd1.start w 92 #[.string ⟨#[]⟩, .string ⟨#[]⟩, .string ⟨#[]⟩])
  generalize w.alloc (.cells #[.string ⟨#[]⟩, .string ⟨#[]⟩, .string ⟨#[]⟩] 92) = w0 at *
  clear hq2
  refine wp_loop_rounds 4 ?_
  have hH1 : Hid (Head (l.drop (pos + 1)) x1 (flats [x2, x3] ++ r)) := by
    refine ⟨?_, by have h := (Ex.ok_iff x).1 hok; exact h.2.2 x1 (by rw [hx]; simp)⟩
    rw [Hrest.out]; simp [flats]
  rw [rounds_succ]
  go_wp2_with fail
  refine (IH1.out (pos + 1) _ hH1 (by omega) _ (HO.out.below HD.out.below) (tab_below HTb.out HD.out.below) (HT.out.later HD.out.below) (HR.out.below HD.out.below)).mono ?_
  rintro e w1 ⟨s1, q1, hv1, hq1, rfl, hb⟩
  replace HD := Lib.hid (HD.out.step hb)
  obtain ⟨a0, a1, a2, f0, f1, f2⟩ := box3 HD.out.ops
  clear hb
  go_wp2_with fail
  clear a0 a1 a2 f0 f1 f2
  replace HD := Lib.hid (HD.out.set (C' := #[.string s1, .string ⟨#[]⟩, .string ⟨#[]⟩]) 0 (.string s1) rfl)
  generalize (w1.setCell ⟨w.heap.size, 0, none⟩ (.string s1)) = w1' at *
  have hH2 : Hid (Head (l.drop (q1)) x2 (flats [x3] ++ r)) := by
    refine ⟨?_, by have h := (Ex.ok_iff x).1 hok; exact h.2.2 x2 (by rw [hx]; simp)⟩
    rw [hq1.out.2]; simp [flats]
  rw [rounds_succ]
  go_wp2_with fail
  refine (IH2.out (q1) _ hH2 hq1.out.1 _ (HO.out.below HD.out.below) (tab_below HTb.out HD.out.below) (HT.out.later HD.out.below) (HR.out.below HD.out.below)).mono ?_
  rintro e w2 ⟨s2, q2, hv2, hq2, rfl, hb⟩
  replace HD := Lib.hid (HD.out.step hb)
  obtain ⟨a0, a1, a2, f0, f1, f2⟩ := box3 HD.out.ops
  clear hb
  go_wp2_with fail
  clear a0 a1 a2 f0 f1 f2
  replace HD := Lib.hid (HD.out.set (C' := #[.string s1, .string s2, .string ⟨#[]⟩]) 1 (.string s2) rfl)
  generalize (w2.setCell ⟨w.heap.size, 1, none⟩ (.string s2)) = w2' at *
  have hH3 : Hid (Head (l.drop (q2)) x3 (flats [] ++ r)) := by
    refine ⟨?_, by have h := (Ex.ok_iff x).1 hok; exact h.2.2 x3 (by rw [hx]; simp)⟩
    rw [hq2.out.2]; simp [flats]
  rw [rounds_succ]
  go_wp2_with fail
  refine (IH3.out (q2) _ hH3 hq2.out.1 _ (HO.out.below HD.out.below) (tab_below HTb.out HD.out.below) (HT.out.later HD.out.below) (HR.out.below HD.out.below)).mono ?_
  rintro e w3 ⟨s3, q3, hv3, hq3, rfl, hb⟩
  replace HD := Lib.hid (HD.out.step hb)
  obtain ⟨a0, a1, a2, f0, f1, f2⟩ := box3 HD.out.ops
  clear hb
  go_wp2_with fail
  clear a0 a1 a2 f0 f1 f2
  replace HD := Lib.hid (HD.out.set (C' := #[.string s1, .string s2, .string s3]) 2 (.string s3) rfl)
  generalize (w3.setCell ⟨w.heap.size, 2, none⟩ (.string s3)) = w3' at *
  have hval : Hid (∀ v ∈ ([s1.data.toList, s2.data.toList, s3.data.toList] : List (List UInt8)), v.length ≤ 1000000) := by
    intro v hv
    simp only [List.mem_cons, List.not_mem_nil, or_false] at hv
    rcases hv with rfl | rfl | rfl
    · rw [hv1.out]; exact Hok1.out
    · rw [hv2.out]; exact Hok2.out
    · rw [hv3.out]; exact Hok3.out
  have hres : Hid (x.fold (fmtT nms) = fmtT nms ⟨o, ⟨tk, tn, ts⟩, tc⟩ [s1.data.toList, s2.data.toList, s3.data.toList]) := by
    unfold Hid
    rw [Hfold.out]
    simp only [List.map_cons, List.map_nil, hv1.out, hv2.out, hv3.out]
  have hend : Hid (q3 ≤ l.length ∧ l.drop (q3) = r) := ⟨hq3.out.1, by rw [hq3.out.2]; simp [flats]⟩
  rw [rounds_succ]
  obtain ⟨hq0, _⟩ := bcell HD.out.below
  obtain ⟨a0, a1, a2, f0, f1, f2⟩ := box3 HD.out.ops
  go_wp2_with fail
  go_region_law (go_simp; go_at_call 63; first | (refine (HC.out [s1.data.toList, s2.data.toList, s3.data.toList] s1 s2 s3 _ (HO.out.below HD.out.below) (tab_below HTb.out HD.out.below) (HR.out.below HD.out.below) rfl hval.out rfl).mono ?_; rintro e w5 ⟨s, hv, rfl, hb⟩; replace HD := Lib.hid (HD.out.step hb); clear hb) | (refine (HC.out [s1.data.toList, s2.data.toList, s3.data.toList] s1 s2 s3 _ (HO.out.below HD.out.draw.below) (tab_below HTb.out HD.out.draw.below) (HR.out.below HD.out.draw.below) rfl hval.out rfl).mono ?_; rintro e w5 ⟨s, hv, rfl, hb⟩; replace HD := Lib.hid (HD.out.draw.step hb); clear hb))
  all_goals
    go_wp2_with fail
    go_ret2
    exact ⟨s, q3, (by unfold Hid; rw [hres.out]; exact hv.out), hend, by first | rfl | simp, HD.out.below⟩
theorem reduceS_any (ao : Option Addr) (cap : Nat) (l : List Tm) (hl : l.length ≤ 64) (nms : List ByteArray) (gr : Nat) (hnm : ∀ s ∈ nms, s.size ≤ 1000) : ∀ x : Ex, x.ok → ∀ (pos : Nat) (r : List Tm), Hid (Head (l.drop pos) x r) → pos ≤ l.length → ∀ w : World, Ops w → Tab w → TmsAt w w.heap.size ao l → NmIn w gr nms →
    Calls Tryz.prog 62 #[.slice ao l.length cap, .int .i64 pos, .func (.func 63) #[] #[.pointer (some ⟨gr, 0, none⟩)]] w (RedS l (x.fold (fmtT nms)) r w) := by
  intro x
  induction x using Ex.ind with
  | h x ih =>
    intro hok pos r hH hp w hO hTb hT hR
    have ih' := fun a ha => ih a ha (((Ex.ok_iff x).1 hok).2.2 a ha)
    have h3 := x.args_le
    rcases hx : x.args with _ | ⟨a, _ | ⟨b, _ | ⟨c, _ | ⟨d, e⟩⟩⟩⟩
    · exact reduceS_0 ao cap l hl nms gr x hx hok hnm ih' pos r hH hp w hO hTb hT hR
    · exact reduceS_1 ao cap l hl nms gr x a hx hok hnm ih' pos r hH hp w hO hTb hT hR
    · exact reduceS_2 ao cap l hl nms gr x a b hx hok hnm ih' pos r hH hp w hO hTb hT hR
    · exact reduceS_3 ao cap l hl nms gr x a b c hx hok hnm ih' pos r hH hp w hO hTb hT hR
    · rw [hx] at h3; simp at h3
/-- The text of a list of terms. -/
def formatL (nms : List ByteArray) (l : List Tm) : List UInt8 := match treeL l with | some x => x.fold (fmtT nms) | none => []
theorem exFormat_any (ao ro : Option Addr) (cap rcap : Nat) (l : List Tm) (nms : List ByteArray) (hl : l.length ≤ maxLen) (hok : ∀ t ∈ l, t.okT) (hrl : nms.length ≤ maxLen) (hrs : ∀ s ∈ nms, s.size ≤ 1000) (w : World) (hO : Ops w) (hTb : Tab w) (hT : TmsAt w w.heap.size ao l) (hR : RAt encStr 1 w w.heap.size ro nms) :
    Calls Tryz.prog 36 #[.slice ao l.length cap, .slice ro nms.length rcap] w (GivesS (formatL nms l) w) := by
  have hb1 := al1 w (.cells #[.slice ro nms.length rcap] 62)
  have n0 : (w.alloc (.cells #[.slice ro nms.length rcap] 62)).heap[w.heap.size]? = some (.cells #[.slice ro nms.length rcap] 62 (0, 0)) := heap_alloc_new _ _
  have hV := fun w hO hT => exValid_any ao cap l hl hok w hO hT
  have HN := Lib.hid (show Below w.heap.size w _ ∧ _ from ⟨hb1, n0⟩)
  have HO := Lib.hid hO
  have HTb := Lib.hid hTb
  have HT := Lib.hid hT
  have HR := Lib.hid hR
  cases hvl : validL l
  · have hres : Hid (formatL nms l = []) := by unfold Hid formatL; rw [treeL_none hvl]
    rw [hvl] at hV
    have HV := Lib.hid hV
    clear hV hO hT hR hvl hok hrs hb1 n0 hTb
    go_enter Tryz.func36, Tryz.ntmps36
    go_wp2_with fail
    generalize (w.alloc (.cells #[.slice ro nms.length rcap] 62)) = w0 at *
    refine (HV.out _ (HO.out.below HN.out.1) (HT.out.later HN.out.1)).mono ?_
    rintro e w1 ⟨rfl, hb⟩
    have HB := Lib.hid (bt HN.out.1 hb)
    clear hb
    go_wp2_with fail
    go_ret
    exact ⟨⟨#[]⟩, hres.out.symm, rfl, HB.out⟩
  · obtain ⟨x, hx, hH, hd, h64⟩ := validL_get hvl
    have hres : Hid (formatL nms l = x.fold (fmtT nms)) := by unfold Hid formatL; rw [hx]
    have hY := fun w1 hO hTb hT hR => reduceS_any ao cap l h64 nms w.heap.size hrs x hH.2 0 [] (Lib.hid (by rw [List.drop_zero]; exact hH)) (Nat.zero_le _) w1 hO hTb hT hR
    rw [hvl] at hV
    have HV := Lib.hid hV
    have HY := Lib.hid hY
    have Hrs := Lib.hid hrs
    clear hV hO hT hR hvl hok hrs hb1 n0 hY hx hH hd h64 hTb
    go_enter Tryz.func36, Tryz.ntmps36
    go_wp2_with fail
    generalize (w.alloc (.cells #[.slice ro nms.length rcap] 62)) = w0 at *
    refine (HV.out _ (HO.out.below HN.out.1) (HT.out.later HN.out.1)).mono ?_
    rintro e w1 ⟨rfl, hb⟩
    have HB := Lib.hid (bt HN.out.1 hb)
    have n0 := Lib.hid ((hb.block _ (Array.getElem?_eq_some_iff.1 HN.out.2).1).trans HN.out.2)
    clear hb
    go_wp2_with fail
    refine (HY.out _ (HO.out.below HB.out) (tab_below HTb.out HB.out) (HT.out.later HB.out) ⟨⟨ro, rcap, by simp [World.cell?, n0.out], HR.out.later HB.out⟩, Hrs.out, hrl⟩).mono ?_
    rintro e w2 ⟨s, q, hv, _, rfl, hb⟩
    replace HB := Lib.hid (bt HB.out hb)
    clear hb
    go_wp2_with fail
    go_ret
    exact ⟨s, hv.out.trans hres.out.symm, rfl, HB.out⟩
end Go.Proofs.YtmikeifkmjhioaaGreatDoor
