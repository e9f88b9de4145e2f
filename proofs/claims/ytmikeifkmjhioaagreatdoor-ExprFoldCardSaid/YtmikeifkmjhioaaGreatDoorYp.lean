/- What all laws of expressions call: plus, awake (it returns true). -/
import Derived.Test.YtmikeifkmjhioaaGreatDoorYo
import Derived.Test.YtmikeifkmjhioaaGreatDoorTb
namespace Go.Proofs.YtmikeifkmjhioaaGreatDoor
open Go.RowKit Go.Proofs.EB
set_option maxHeartbeats 4000000
set_option maxRecDepth 100000
attribute [local go_sem] World.cell?_alloc_some

/-- A block that the walk has laid, as a row. -/
theorem rAt_block {α : Type} {enc : α → List Value} {m : Nat} (hm : ∀ a, (enc a).length = m) {w : World} {g : Nat} {T : TypeId} {C : Array Value} {l : List α} (hg : w.heap[g]? = some (.cells C T (0, 0))) (hC : C.toList = cellsL enc l) : RAt enc m w w.heap.size (some ⟨g, 0, none⟩) l := by
  refine .inr ⟨g, 0, rfl, (Array.getElem?_eq_some_iff.1 hg).1, fun i hi j u hu => ?_⟩
  have h1 := cellsL_at hm l i hi j u hu
  rw [← hC] at h1
  simp only [World.cell?, hg, Nat.zero_add]
  simpa using h1
theorem encStr_len (s : ByteArray) : (encStr s).length = 1 := rfl
theorem rint_is (n : Int) (hn : -4294967296 ≤ n ∧ n ≤ 4294967296) (w : World) : Calls Tryz.prog 35 #[.int .i64 n] w (Gives (.agg #[.int .i64 1, .int .i64 n, .string ⟨#[]⟩]) w) := by
  refine (rint_any n w).mono ?_
  rintro e w1 ⟨k, n1, s, rfl, hc, hb⟩
  have hv : vB ⟨1, n, ⟨#[]⟩⟩ = true := by simp [vB, validB]; omega
  rw [cleanV_idem hv] at hc
  simp only [V.mk.injEq] at hc
  obtain ⟨rfl, rfl, rfl⟩ := hc
  exact ⟨rfl, hb⟩
/-- A call that gives a row of terms. -/
def GivesT (l : List Tm) (w : World) (e : Ending) (w' : World) : Prop := ∃ ao cap, e = .returned (.slice ao l.length cap) ∧ TmsAt w' w'.heap.size ao l ∧ Below w.heap.size w w'
def plusL : List Tm := [⟨4, ⟨0, 0, ⟨#[]⟩⟩, 0⟩, ⟨2, ⟨0, 0, ⟨#[]⟩⟩, 0⟩, ⟨1, ⟨1, 1, ⟨#[]⟩⟩, 0⟩]
theorem plusL_len : plusL.length = 3 := rfl
theorem plus_any (w : World) : Calls Tryz.prog 34 #[] w (fun e w' => ∃ g, e = .returned (.slice (some ⟨g, 0, none⟩) 3 3) ∧ TmsAt w' w'.heap.size (some ⟨g, 0, none⟩) plusL ∧ Below w.heap.size w w') := by
  go_enter Tryz.func34, Tryz.ntmps34
  go_wp2_with fail
  refine (rint_is 1 (by decide) _).mono ?_
  rintro e w1 ⟨rfl, hb⟩
  go_wp2_with fail
  go_ret
  exact ⟨w1.heap.size, rfl, rAt_block encTm_len (heap_alloc_new _ _) rfl, hb.alloc hb.size _⟩
def plusX : Ex := .x2 ⟨4, ⟨0, 0, ⟨#[]⟩⟩, 0⟩ (.x0 ⟨2, ⟨0, 0, ⟨#[]⟩⟩, 0⟩) (.x0 ⟨1, ⟨1, 1, ⟨#[]⟩⟩, 0⟩)
theorem plusX_head : Head plusL plusX [] := by
  refine ⟨rfl, ?_⟩
  have z : zeroB ⟨0, 0, ⟨#[]⟩⟩ = true := by unfold zeroB; rw [toList_nil]; rfl
  have v : vB ⟨1, 1, ⟨#[]⟩⟩ = true := by unfold vB validB; rw [if_neg (by decide), if_pos rfl, toList_nil]; rfl
  refine ⟨?_, rfl, ⟨?_, rfl⟩, ⟨?_, rfl⟩⟩
  · unfold termB fieldsB; rw [if_neg (by decide), if_neg (by decide), z]; rfl
  · unfold termB fieldsB; rw [if_neg (by decide), if_pos rfl, z]; rfl
  · unfold termB fieldsB; rw [if_pos rfl, v]; rfl
theorem plus_tree : treeL plusL = some plusX := treeL_of plusX_head (by decide) (by decide)
theorem plus_valid : validL plusL = true := validL_iff.2 ⟨plusX, plusX_head, by decide, by decide⟩
theorem int_valid {n : Int} (h : -4294967296 ≤ n ∧ n ≤ 4294967296) : vB ⟨1, n, ⟨#[]⟩⟩ = true := by simp [vB, validB]; omega
theorem nullB_int (n : Int) : nullB ⟨1, n, ⟨#[]⟩⟩ = false := by unfold nullB zeroB; rfl
theorem nullB_zero : nullB V.zero = true := by unfold nullB zeroB V.zero; rw [toList_nil]; rfl
theorem plus_eval4 : evalL cmpV plusL [⟨1, 4, ⟨#[]⟩⟩] = ⟨1, 5, ⟨#[]⟩⟩ := by
  unfold evalL
  rw [plus_tree]
  have c : cleanV ⟨1, 4, ⟨#[]⟩⟩ = ⟨1, 4, ⟨#[]⟩⟩ := cleanV_idem (int_valid (by decide))
  have c5 : intVV (4 + 1) = ⟨1, 5, ⟨#[]⟩⟩ := cleanV_idem (int_valid (by decide))
  show appV cmpV 4 [colV [⟨1, 4, ⟨#[]⟩⟩] 0, ⟨1, 1, ⟨#[]⟩⟩] = _
  have e : colV [⟨1, 4, ⟨#[]⟩⟩] 0 = ⟨1, 4, ⟨#[]⟩⟩ := by unfold colV; exact c
  rw [e]
  simp only [appV, strictV, numV, nullB_int]
  simpa using c5
theorem plus_evalN : evalL cmpV plusL [⟨0, 0, ⟨#[]⟩⟩] = ⟨0, 0, ⟨#[]⟩⟩ := by
  unfold evalL
  rw [plus_tree]
  show appV cmpV 4 [colV [⟨0, 0, ⟨#[]⟩⟩] 0, ⟨1, 1, ⟨#[]⟩⟩] = _
  have e : colV [⟨0, 0, ⟨#[]⟩⟩] 0 = V.zero := by unfold colV; exact clean_zero
  rw [e]
  simp only [appV, nullB_zero]
  rfl
theorem plus_format : formatL [⟨#[110]⟩] plusL = [97, 100, 100, 40, 110, 44, 32, 49, 41] := by
  unfold formatL
  rw [plus_tree]
  have e : Lib.itoa 1 = [49] := by unfold Lib.itoa; simp [Lib.decDigits]
  show fmtT [⟨#[110]⟩] ⟨4, ⟨0, 0, ⟨#[]⟩⟩, 0⟩ [[110], fmtV ⟨1, 1, ⟨#[]⟩⟩] = _
  have e2 : fmtV ⟨1, 1, ⟨#[]⟩⟩ = [49] := by unfold fmtV; rw [if_pos rfl]; exact e
  rw [e2]
  rfl
theorem plus_ok : ∀ t ∈ plusL, t.okT := by
  intro t ht
  simp only [plusL, List.mem_cons, List.not_mem_nil, or_false] at ht
  rcases ht with rfl | rfl | rfl <;> refine ⟨⟨by decide, by decide⟩, ⟨⟨by decide, by decide⟩, ⟨by decide, by decide⟩, by simp [maxLen, ByteArray.size]⟩, ⟨by decide, by decide⟩⟩
theorem pv_any (g : Nat) (w : World) (hO : Ops w) (hT : TmsAt w w.heap.size (some ⟨g, 0, none⟩) plusL) : Calls Tryz.prog 17 #[.slice (some ⟨g, 0, none⟩) 3 3] w (Gives (.bool true) w) := by
  have h := exValid_any (some ⟨g, 0, none⟩) 3 plusL (by simp [plusL_len, maxLen]) plus_ok w hO hT
  rw [plus_valid] at h
  exact h
theorem pe_any (g h : Nat) (v r : V) (w : World) (hr : evalL cmpV plusL [v] = r) (hv : v.s.size ≤ maxLen) (hO : Ops w) (hT : TmsAt w w.heap.size (some ⟨g, 0, none⟩) plusL) (hR : RAt encVal 3 w w.heap.size (some ⟨h, 0, none⟩) [v]) : Calls Tryz.prog 12 #[.slice (some ⟨g, 0, none⟩) 3 3, .slice (some ⟨h, 0, none⟩) 1 1] w (Gives (.agg #[.int .i64 r.k, .int .i64 r.n, .string r.s]) w) := by
  have h := exEval_any (some ⟨g, 0, none⟩) (some ⟨h, 0, none⟩) 3 1 plusL [v] (by simp [plusL_len, maxLen]) plus_ok (by simp [maxLen]) (by intro x hx; rw [List.mem_singleton.1 hx]; exact hv) w hO hT hR
  rw [hr] at h
  refine h.mono ?_
  rintro e w' ⟨k, n, s, hv, rfl, hb⟩
  have := hv.out
  subst this
  exact ⟨rfl, hb⟩
theorem pf_any (g h : Nat) (w : World) (hO : Ops w) (hTb : Tab w) (hT : TmsAt w w.heap.size (some ⟨g, 0, none⟩) plusL) (hR : RAt encStr 1 w w.heap.size (some ⟨h, 0, none⟩) [⟨#[110]⟩]) : Calls Tryz.prog 36 #[.slice (some ⟨g, 0, none⟩) 3 3, .slice (some ⟨h, 0, none⟩) 1 1] w (Gives (.string ⟨#[97, 100, 100, 40, 110, 44, 32, 49, 41]⟩) w) := by
  have h := exFormat_any (some ⟨g, 0, none⟩) (some ⟨h, 0, none⟩) 3 1 plusL [⟨#[110]⟩] (by simp [plusL_len, maxLen]) plus_ok (by simp [maxLen]) (by intro x hx; rw [List.mem_singleton.1 hx]; simp [ByteArray.size]) w hO hTb hT hR
  rw [plus_format] at h
  refine h.mono ?_
  rintro e w' ⟨s, hv, rfl, hb⟩
  have h2 : s = ⟨#[97, 100, 100, 40, 110, 44, 32, 49, 41]⟩ := by
    apply ByteArray.ext
    apply Array.toList_inj.1
    exact hv.out
  rw [h2]
  exact ⟨rfl, hb⟩
theorem awake_any (w : World) (hO : Ops w) (hTb : Tab w) : Calls Tryz.prog 13 #[] w (Gives (.bool true) w) := by
  have heq1 : ∀ w, (binOp .eql 31 (.agg #[.int .i64 1, .int .i64 5, .string ⟨#[]⟩]) (.agg #[.int .i64 1, .int .i64 5, .string ⟨#[]⟩])).run Tryz.prog w = .ok (.bool true) w := fun w => by rw [eqlV]; simp
  have heq2 : ∀ w, (binOp .eql 31 (.agg #[.int .i64 0, .int .i64 0, .string ⟨#[]⟩]) (.agg #[.int .i64 0, .int .i64 0, .string ⟨#[]⟩])).run Tryz.prog w = .ok (.bool true) w := fun w => by rw [eqlV]; simp
  have hg := guardV
  have HO := Lib.hid hO
  have HTb := Lib.hid hTb
  clear hO hTb
  go_enter Tryz.func13, Tryz.ntmps13
  go_wp2_with fail
  refine (plus_any _).mono ?_
  rintro e w1 ⟨g1, rfl, hT, hb⟩
  have HB := Lib.hid hb
  have HT := Lib.hid hT
  clear hb hT
  go_wp2_with fail
  refine (pv_any _ _ (HO.out.below HB.out) HT.out).mono ?_
  rintro e w2 ⟨rfl, hb⟩
  replace HB := Lib.hid (bt HB.out hb)
  clear hb HT
  go_wp2_with fail
  refine (plus_any _).mono ?_
  rintro e w3 ⟨g2, rfl, hT, hb⟩
  replace HB := Lib.hid (bt HB.out hb)
  have HT := Lib.hid hT
  clear hb hT
  go_wp2_with fail
  refine (rint_is 4 (by decide) _).mono ?_
  rintro e w4 ⟨rfl, hb⟩
  replace HB := Lib.hid (bt HB.out hb)
  replace HT := Lib.hid (HT.out.later hb)
  clear hb
  go_wp2_with fail
  refine (pe_any _ _ ⟨1, 4, ⟨#[]⟩⟩ ⟨1, 5, ⟨#[]⟩⟩ _ plus_eval4 (by simp [maxLen, ByteArray.size]) (HO.out.below (bt HB.out (al1 _ _))) (HT.out.later (al1 _ _)) (rAt_block encVal_len (heap_alloc_new _ _) rfl)).mono ?_
  rintro e w5 ⟨rfl, hb⟩
  replace HB := Lib.hid (bt (bt HB.out (al1 _ _)) hb)
  clear hb HT
  go_wp2_with fail
  refine (rint_is 5 (by decide) _).mono ?_
  rintro e w6 ⟨rfl, hb⟩
  replace HB := Lib.hid (bt HB.out hb)
  clear hb
  go_wp2_with fail
  refine (plus_any _).mono ?_
  rintro e w7 ⟨g3, rfl, hT, hb⟩
  replace HB := Lib.hid (bt HB.out hb)
  have HT := Lib.hid hT
  clear hb hT
  go_wp2_with fail
  refine (pe_any _ _ ⟨0, 0, ⟨#[]⟩⟩ ⟨0, 0, ⟨#[]⟩⟩ _ plus_evalN (by simp [maxLen, ByteArray.size]) (HO.out.below (bt HB.out (al1 _ _))) (HT.out.later (al1 _ _)) (rAt_block encVal_len (heap_alloc_new _ _) rfl)).mono ?_
  rintro e w8 ⟨rfl, hb⟩
  replace HB := Lib.hid (bt (bt HB.out (al1 _ _)) hb)
  clear hb HT
  go_wp2_with fail
  refine (plus_any _).mono ?_
  rintro e w9 ⟨g4, rfl, hT, hb⟩
  replace HB := Lib.hid (bt HB.out hb)
  have HT := Lib.hid hT
  clear hb hT
  go_wp2_with fail
  refine (pf_any _ _ _ (HO.out.below (bt HB.out (al1 _ _))) (tab_below HTb.out (bt HB.out (al1 _ _))) (HT.out.later (al1 _ _)) (rAt_block encStr_len (heap_alloc_new _ _) rfl)).mono ?_
  rintro e w10 ⟨rfl, hb⟩
  replace HB := Lib.hid (bt (bt HB.out (al1 _ _)) hb)
  clear hb HT
  go_wp2_with fail
  go_ret
  exact ⟨rfl, HB.out⟩
end Go.Proofs.YtmikeifkmjhioaaGreatDoor
