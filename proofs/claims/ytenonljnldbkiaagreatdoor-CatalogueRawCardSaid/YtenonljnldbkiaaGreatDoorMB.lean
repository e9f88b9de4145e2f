/- Contracts of Compare of package value and of its reference. -/
import Derived.Test.YtenonljnldbkiaaGreatDoorMA
import Derived.Lib.Small
import Derived.Lib.Bytealg
import Derived.LoopN
import Derived.Deep.CutRange
namespace Go.Proofs.YtenonljnldbkiaaGreatDoor
open Go.RowKit Go.Proofs.EB
set_option maxHeartbeats 1000000

theorem rclean_fn (k n : Int) (s : ByteArray) (w : World) (hs : s.size ≤ maxLen) :
    Calls Tryz.prog 179 #[.agg #[.int .i64 k, .int .i64 n, .string s]] w fun e w' => e = .returned (.agg #[.int .i64 (cleanV ⟨k, n, s⟩).k, .int .i64 (cleanV ⟨k, n, s⟩).n, .string (cleanV ⟨k, n, s⟩).s]) ∧ Below w.heap.size w w' := by
  refine (rclean_any _ _ _ _ hs).mono ?_
  rintro e w' ⟨k1, n1, s1, rfl, hc, hb⟩
  rw [← hc]
  exact ⟨rfl, hb⟩
/-- Two boxed values of the call's own. -/
def Boxes (w0 : World) (g h : Nat) (a b : V) (w : World) : Prop :=
  w.heap[g]? = some (.cells #[.int .i64 a.k, .int .i64 a.n, .string a.s] 142 (0, 0)) ∧ w.heap[h]? = some (.cells #[.int .i64 b.k, .int .i64 b.n, .string b.s] 142 (0, 0)) ∧ Below w0.heap.size w0 w ∧ w0.heap.size ≤ g ∧ w0.heap.size ≤ h
theorem Boxes.step {w0 w w' : World} {g h : Nat} {a b : V} (hb : Below w.heap.size w w') (H : Boxes w0 g h a b w) : Boxes w0 g h a b w' := by
  obtain ⟨h1, h2, h3, h4, h5⟩ := H
  have l1 := (Array.getElem?_eq_some_iff.1 h1).1
  have l2 := (Array.getElem?_eq_some_iff.1 h2).1
  exact ⟨(hb.block _ l1).trans h1, (hb.block _ l2).trans h2, h3.trans (hb.mono h3.size), h4, h5⟩
theorem Boxes.drew {w0 w : World} {g h : Nat} {a b : V} (H : Boxes w0 g h a b w) : Boxes w0 g h a b w.drew := ⟨H.1, H.2.1, H.2.2.1.drew, H.2.2.2.1, H.2.2.2.2⟩
theorem Boxes.facts {w0 w : World} {g h : Nat} {a b : V} (H : Boxes w0 g h a b w) :
    (w.cell? ⟨g, 0, none⟩ = some (.int .i64 a.k) ∧ w.cell? ⟨g, 1, none⟩ = some (.int .i64 a.n) ∧ w.cell? ⟨g, 2, none⟩ = some (.string a.s) ∧ w.frozen? ⟨g, 0, none⟩ = false ∧ w.frozen? ⟨g, 1, none⟩ = false ∧ w.frozen? ⟨g, 2, none⟩ = false) ∧
    (w.cell? ⟨h, 0, none⟩ = some (.int .i64 b.k) ∧ w.cell? ⟨h, 1, none⟩ = some (.int .i64 b.n) ∧ w.cell? ⟨h, 2, none⟩ = some (.string b.s) ∧ w.frozen? ⟨h, 0, none⟩ = false ∧ w.frozen? ⟨h, 1, none⟩ = false ∧ w.frozen? ⟨h, 2, none⟩ = false) :=
  ⟨box3 H.1, box3 H.2.1⟩

/-- The order of two clean values. -/
def cmpC (a b : V) : Int := if a.k = b.k then (if a.k = 1 then Lib.compareInt a.n b.n else if a.k = 2 then Lib.compareBytes a.s.data.toList b.s.data.toList else 0) else Lib.compareInt a.k b.k
def cmpV (a b : V) : Int := cmpC (cleanV a) (cleanV b)
theorem boxes_start (w : World) (a b : V) : Boxes w w.heap.size (w.heap.size + 1) a b ((w.alloc (.cells #[.int .i64 a.k, .int .i64 a.n, .string a.s] 142)).alloc (.cells #[.int .i64 b.k, .int .i64 b.n, .string b.s] 142)) := by
  refine ⟨by rw [Below.heap_alloc _ _ _ (by simp)]; exact heap_alloc_new _ _, by have := heap_alloc_new (w.alloc (.cells #[.int .i64 a.k, .int .i64 a.n, .string a.s] 142)) (.cells #[.int .i64 b.k, .int .i64 b.n, .string b.s] 142); simpa using this, ((Below.refl _ _).alloc (Nat.le_refl _) _).alloc (by simp) _, Nat.le_refl _, by omega⟩
theorem Boxes.stored {w0 w : World} {g h : Nat} {a b : V} (H : Boxes w0 g h a b w) (u0 u1 u2 u3 u4 u5 : Value) :
    Below w0.heap.size w0 ((((((w.setCell ⟨g, 0, none⟩ u0).setCell ⟨g, 1, none⟩ u1).setCell ⟨g, 2, none⟩ u2).setCell ⟨h, 0, none⟩ u3).setCell ⟨h, 1, none⟩ u4).setCell ⟨h, 2, none⟩ u5) :=
  (((((H.2.2.1.setCell H.2.2.2.1 _).setCell H.2.2.2.1 _).setCell H.2.2.2.1 _).setCell H.2.2.2.2 _).setCell H.2.2.2.2 _).setCell H.2.2.2.2 _




theorem cleanV_kind (v : V) : (cleanV v).k = 0 ∨ (cleanV v).k = 1 ∨ (cleanV v).k = 2 := by
  have h := cleanV_valid v
  generalize cleanV v = x at h
  obtain ⟨k, n, s⟩ := x
  simp only [vB, validB] at h
  simp only
  by_cases h0 : k = 0
  · exact .inl h0
  · by_cases h1 : k = 1
    · exact .inr (.inl h1)
    · by_cases h2 : k = 2
      · exact .inr (.inr h2)
      · simp [h0, h1, h2] at h
end Go.Proofs.YtenonljnldbkiaaGreatDoor
/- compute of package expr: one operator after the other, where the operands fit. -/
namespace Go.Proofs.YtenonljnldbkiaaGreatDoor
open Go.RowKit Go.Proofs.EB
set_option maxHeartbeats 1000000
attribute [local go_sem] World.cell?_alloc_some

def preV (s : ByteArray) (n : Int) : V := if 0 ≤ n then textVV (s.extract 0 (min n.toNat s.size)) else V.zero
theorem clean_one (b : Bool) : cleanV ⟨1, if b = true then 1 else 0, ⟨#[]⟩⟩ = bitV b := cleanV_idem (bitV_valid b)
end Go.Proofs.YtenonljnldbkiaaGreatDoor
/- operatorType, takes and apply of package expr. -/
namespace Go.Proofs.YtenonljnldbkiaaGreatDoor
open Go.RowKit Go.Proofs.EB
set_option maxHeartbeats 1000000
attribute [local go_sem] World.cell?_alloc_some

/-- The types of the operands against what the operator requires; the type of those marked as the same. -/
def opT : List Int → List Int → Int → Option Int
  | [], _, same => some same
  | _ :: _, [], _ => none
  | r :: rs, t :: ts, same => if r = -2 then opT rs ts same else if r = -1 then (if same ≠ 0 ∧ same ≠ t then none else opT rs ts t) else if t ≠ r then none else opT rs ts same
def opTyL (asx : List Int) (k : Int) (ts : List Int) : Int := match opT asx ts 0 with | none => 0 | some same => if k = -1 then same else k
def opTy (op : Int) (ts : List Int) : Int := match opTab[op.toNat]? with | some (_, asx, k) => opTyL asx k ts | none => 0
theorem types_at (w : World) (t0 t1 t2 : Int) (T : TypeId) (i : Nat) (hi : i < 3) : (w.alloc (.cells #[.int .i64 t0, .int .i64 t1, .int .i64 t2] T)).cell? ⟨w.heap.size, i, none⟩ = some (.int .i64 ([t0, t1, t2].getD i 0)) := by
  match i, hi with
  | 0, _ => simp
  | 1, _ => simp
  | 2, _ => simp
theorem opTab_marks : ∀ i : Nat, i < 19 → ∀ nm asx k, opTab[i]? = some (nm, asx, k) → asx.length ≤ 3 := by
  intro i h nm asx k e
  have : ∀ j : Fin 19, (((opTab[j.1]?).getD ([], [], 0)).2.1.length) ≤ 3 := by decide +kernel
  have h2 := this ⟨i, h⟩
  rw [e] at h2
  exact h2
theorem opT_cons (r t sm : Int) (rs ts : List Int) : opT (r :: rs) (t :: ts) sm = if r = -2 then opT rs ts sm else if r = -1 then (if sm ≠ 0 ∧ sm ≠ t then none else opT rs ts t) else if t ≠ r then none else opT rs ts sm := rfl
set_option maxRecDepth 100000 in
theorem operatorType_any (op t0 t1 t2 : Int) (w : World) (hO : Ops w) (h0 : 1 ≤ op) (h1 : op ≤ 18) :
    Calls Tryz.prog 190 #[.int .i64 op, .agg #[.int .i64 t0, .int .i64 t1, .int .i64 t2]] w (Gives (.int .i64 (opTy op [t0, t1, t2])) w) := by
  have hb1 := al1 w (.cells #[.int .i64 t0, .int .i64 t1, .int .i64 t2] 228)
  obtain ⟨nm, asx, k, ao, cap, e, ha, _, c1, c2, hz⟩ := (hO.below hb1).at h0 h1
  have h3 := opTab_marks op.toNat (by omega) nm asx k e
  have hres : Hid (opTy op [t0, t1, t2] = opTyL asx k [t0, t1, t2]) := by unfold Hid opTy; rw [e]
  have Hb := Lib.hid hb1
  have hty : ∀ i, i < 3 → (w.alloc (.cells #[.int .i64 t0, .int .i64 t1, .int .i64 t2] 228)).cell? ⟨w.heap.size, i, none⟩ = some (.int .i64 ([t0, t1, t2].getD i 0)) := fun i hi => types_at w t0 t1 t2 _ i hi
  have Hty := Lib.hid hty
  have Hz := Lib.hid hz
  have z0 : (0 : Int) ≤ op := by omega
  have z1 : op < 19 := by omega
  clear hb1 hO e ha hty hz
  go_enter Tryz.func190, Tryz.ntmps190
  go_wp2_with fail
  generalize (w.alloc (.cells #[.int .i64 t0, .int .i64 t1, .int .i64 t2] 228)) = wb at *
  go_loop [5, 13] (fun sv iv => ∃ (i : Nat) (sm : Int), iv = .int .i64 i ∧ sv = .int .i64 sm ∧ i ≤ asx.length ∧ Hid (opT asx [t0, t1, t2] 0 = opT (asx.drop i) ([t0, t1, t2].drop i) sm)) (fun _ i => asx.length - (intOf i).toNat)
  case atStart => exact ⟨0, 0, rfl, rfl, by omega, rfl⟩
  case round =>
    obtain ⟨i, sm, rfl, rfl, hi, hT⟩ := hrel
    by_cases hlt : i < asx.length
    · have hi3 : i < 3 := by omega
      have ct := Hty.out i hi3
      have hd1 : asx.drop i = asx[i] :: asx.drop (i + 1) := List.drop_eq_getElem_cons hlt
      have hd2 : [t0, t1, t2].drop i = ([t0, t1, t2].getD i 0) :: [t0, t1, t2].drop (i + 1) := by
        match i, hi3 with
        | 0, _ => rfl
        | 1, _ => rfl
        | 2, _ => rfl
      obtain ⟨b, off, rfl, hca⟩ : ∃ b off, ao = some ⟨b, off, none⟩ ∧ ∀ j (h : j < asx.length), wb.cell? ⟨b, off + j, none⟩ = some (.int .i64 asx[j]) := by
        rcases Hz.out with h | ⟨b, off, h, hc⟩
        · rw [h] at hlt; simp at hlt
        · exact ⟨b, off, h, hc⟩
      have cr := hca i hlt
      have hT2 := hT.out
      rw [hd1, hd2, opT_cons] at hT2
      generalize [t0, t1, t2].getD i 0 = t at *
      generalize asx[i] = r at *
      have HT := Lib.hid hT2
      have hi3' : (i : Int) < 3 := by omega
      clear hT2 hd1 hd2 hca hT
      by_cases r2 : r = -2
      · have hN : Hid (opT asx [t0, t1, t2] 0 = opT (asx.drop (i + 1)) ([t0, t1, t2].drop (i + 1)) sm) := by unfold Hid; rw [HT.out, if_pos r2]
        subst r2
        clear HT
        go_wp2_with fail
        go_round
        case rel => exact ⟨i + 1, sm, by go_num, rfl, by omega, hN⟩
        case measure => simp [intOf]; omega
      · by_cases r1 : r = -1
        · have y1 : (r == -2) = false := by simpa using r2
          by_cases hs : sm = 0
          · have hN : Hid (opT asx [t0, t1, t2] 0 = opT (asx.drop (i + 1)) ([t0, t1, t2].drop (i + 1)) t) := by unfold Hid; rw [HT.out, if_neg r2, if_pos r1, if_neg (by simp [hs])]
            subst r1 hs
            clear HT r2
            go_wp2_with fail
            go_round
            case rel => exact ⟨i + 1, t, by go_num, rfl, by omega, hN⟩
            case measure => simp [intOf]; omega
          · by_cases hst : sm = t
            · have hN : Hid (opT asx [t0, t1, t2] 0 = opT (asx.drop (i + 1)) ([t0, t1, t2].drop (i + 1)) t) := by unfold Hid; rw [HT.out, if_neg r2, if_pos r1, if_neg (by simp [hst])]
              have y2 : (sm != 0) = true := by simpa using hs
              subst r1
              subst hst
              clear HT r2 hs
              go_wp2_with fail
              go_round
              case rel => exact ⟨i + 1, sm, by go_num, rfl, by omega, hN⟩
              case measure => simp [intOf]; omega
            · have hN : Hid (opTyL asx k [t0, t1, t2] = 0) := by unfold Hid opTyL; rw [HT.out, if_neg r2, if_pos r1, if_pos ⟨hs, hst⟩]
              have y2 : (sm != 0) = true := by simpa using hs
              have y3 : (sm != t) = true := by simpa using hst
              subst r1
              clear HT r2 hs hst
              go_wp2_with fail
              go_ret
              exact ⟨by rw [hres.out, hN.out]; rfl, Hb.out⟩
        · have y1 : (r == -2) = false := by simpa using r2
          have y2 : (r == -1) = false := by simpa using r1
          by_cases htr : t = r
          · have hN : Hid (opT asx [t0, t1, t2] 0 = opT (asx.drop (i + 1)) ([t0, t1, t2].drop (i + 1)) sm) := by unfold Hid; rw [HT.out, if_neg r2, if_neg r1, if_neg (by simp [htr])]
            subst htr
            clear HT r2 r1
            go_wp2_with fail
            go_round
            case rel => exact ⟨i + 1, sm, by go_num, rfl, by omega, hN⟩
            case measure => simp [intOf]; omega
          · have hN : Hid (opTyL asx k [t0, t1, t2] = 0) := by unfold Hid opTyL; rw [HT.out, if_neg r2, if_neg r1, if_pos htr]
            have y3 : (t != r) = true := by simpa using htr
            clear HT r2 r1 htr
            go_wp2_with fail
            go_ret
            exact ⟨by rw [hres.out, hN.out]; rfl, Hb.out⟩
    · have hN : Hid (opTyL asx k [t0, t1, t2] = if k = -1 then sm else k) := by
        unfold Hid opTyL
        rw [hT.out, List.drop_eq_nil_of_le (show asx.length ≤ i by omega)]
        rfl
      by_cases hk : k = -1
      · rw [if_pos hk] at hN
        subst hk
        clear hT
        go_wp2_with fail
        go_ret
        exact ⟨by rw [hres.out, hN.out]; rfl, Hb.out⟩
      · rw [if_neg hk] at hN
        have y1 : (k == -1) = false := by simpa using hk
        clear hT hk
        go_wp2_with fail
        go_ret
        exact ⟨by rw [hres.out, hN.out]; rfl, Hb.out⟩
end Go.Proofs.YtenonljnldbkiaaGreatDoor
/- apply of package expr. -/
namespace Go.Proofs.YtenonljnldbkiaaGreatDoor
open Go.RowKit Go.Proofs.EB
set_option maxHeartbeats 2000000
set_option maxRecDepth 100000
attribute [local go_sem] World.cell?_alloc_some

/-- An array of three values. -/
theorem box9 {w : World} {g : Nat} {T : TypeId} {a b c d e f x y z : Value} (h : w.heap[g]? = some (.cells #[a, b, c, d, e, f, x, y, z] T (0, 0))) :
    w.cell? ⟨g, 0, none⟩ = some a ∧ w.cell? ⟨g, 1, none⟩ = some b ∧ w.cell? ⟨g, 2, none⟩ = some c ∧ w.cell? ⟨g, 3, none⟩ = some d ∧ w.cell? ⟨g, 4, none⟩ = some e ∧ w.cell? ⟨g, 5, none⟩ = some f ∧ w.cell? ⟨g, 6, none⟩ = some x ∧ w.cell? ⟨g, 7, none⟩ = some y ∧ w.cell? ⟨g, 8, none⟩ = some z := by
  simp [World.cell?, h]
theorem four (w : World) (o1 o2 o3 o4 : Obj) : Below w.heap.size w ((((w.alloc o1).alloc o2).alloc o3).alloc o4).drew ∧ ((((w.alloc o1).alloc o2).alloc o3).alloc o4).drew.heap[w.heap.size]? = some o1 ∧ ((((w.alloc o1).alloc o2).alloc o3).alloc o4).drew.heap[w.heap.size + 1]? = some o2 ∧
    ((((w.alloc o1).alloc o2).alloc o3).alloc o4).drew.heap[w.heap.size + 1 + 1]? = some o3 ∧ ((((w.alloc o1).alloc o2).alloc o3).alloc o4).drew.heap[w.heap.size + 1 + 1 + 1]? = some o4 := by
  refine ⟨((al3 w o1 o2 o3).alloc (by simp; omega) _).drew, ?_, ?_, ?_, ?_⟩
  · show ((((w.alloc o1).alloc o2).alloc o3).alloc o4).heap[w.heap.size]? = some o1
    rw [Below.heap_alloc _ _ _ (by simp; omega), Below.heap_alloc _ _ _ (by simp; omega), Below.heap_alloc _ _ _ (by simp), heap_alloc_new]
  · show ((((w.alloc o1).alloc o2).alloc o3).alloc o4).heap[w.heap.size + 1]? = some o2
    rw [Below.heap_alloc _ _ _ (by simp), Below.heap_alloc _ _ _ (by simp)]
    simpa using heap_alloc_new (w.alloc o1) o2
  · show ((((w.alloc o1).alloc o2).alloc o3).alloc o4).heap[w.heap.size + 1 + 1]? = some o3
    rw [Below.heap_alloc _ _ _ (by simp)]
    simpa using heap_alloc_new ((w.alloc o1).alloc o2) o3
  · show ((((w.alloc o1).alloc o2).alloc o3).alloc o4).heap[w.heap.size + 1 + 1 + 1]? = some o4
    simpa using heap_alloc_new (((w.alloc o1).alloc o2).alloc o3) o4
end Go.Proofs.YtenonljnldbkiaaGreatDoor
/- apply of package expr, as the plain value of an operator. -/
namespace Go.Proofs.YtenonljnldbkiaaGreatDoor
open Go.RowKit Go.Proofs.EB
set_option maxHeartbeats 1000000

theorem nullB_eq {v : V} (h : vB v = true) : nullB v = (v.k == 0) := by
  rw [Bool.eq_iff_iff, null_kind h, beq_iff_eq]
theorem valid_kind {k n : Int} {s : ByteArray} (h : vB ⟨k, n, s⟩ = true) : k = 0 ∨ k = 1 ∨ k = 2 := by
  unfold vB validB at h
  by_cases h0 : k = 0
  · exact .inl h0
  · by_cases h1 : k = 1
    · exact .inr (.inl h1)
    · by_cases h2 : k = 2
      · exact .inr (.inr h2)
      · simp [h0, h1, h2] at h
theorem valid_int {n : Int} {s : ByteArray} (h : vB ⟨1, n, s⟩ = true) : (-4294967296 ≤ n ∧ n ≤ 4294967296) ∧ s = ⟨#[]⟩ := by
  unfold vB validB at h
  simp at h
  exact ⟨h.2, empty_of (by simpa using h.1)⟩
theorem valid_text {n : Int} {s : ByteArray} (h : vB ⟨2, n, s⟩ = true) : n = 0 ∧ s.size ≤ 32 := by
  unfold vB validB at h
  simpa using h
theorem valid_null {n : Int} {s : ByteArray} (h : vB ⟨0, n, s⟩ = true) : n = 0 ∧ s = ⟨#[]⟩ := by
  unfold vB validB at h
  simp at h
  exact ⟨h.1, empty_of (by simpa using h.2)⟩
theorem opTy3 (a b c : Int) : opTy 3 [a, b, c] = if a = 1 then 1 else 0 := by
  unfold opTy opTyL; simp [opTab, opT]
  all_goals (repeat' split)
  all_goals first | rfl | omega | simp_all
theorem opTy4 (a b c : Int) : opTy 4 [a, b, c] = if a = 1 ∧ b = 1 then 1 else 0 := by
  unfold opTy opTyL; simp [opTab, opT]
  all_goals (repeat' split)
  all_goals first | rfl | omega | simp_all
theorem opTy5 (a b c : Int) : opTy 5 [a, b, c] = if a = 1 ∧ b = 1 then 1 else 0 := by
  unfold opTy opTyL; simp [opTab, opT]
  all_goals (repeat' split)
  all_goals first | rfl | omega | simp_all
theorem opTy6 (a b c : Int) : opTy 6 [a, b, c] = if a = 1 ∧ b = 1 then 1 else 0 := by
  unfold opTy opTyL; simp [opTab, opT]
  all_goals (repeat' split)
  all_goals first | rfl | omega | simp_all
theorem opTy7 (a b c : Int) : opTy 7 [a, b, c] = if a = 1 ∧ b = 1 then 1 else 0 := by
  unfold opTy opTyL; simp [opTab, opT]
  all_goals (repeat' split)
  all_goals first | rfl | omega | simp_all
theorem opTy8 (a b c : Int) : opTy 8 [a, b, c] = if a = 2 ∧ b = 2 then 2 else 0 := by
  unfold opTy opTyL; simp [opTab, opT]
  all_goals (repeat' split)
  all_goals first | rfl | omega | simp_all
theorem opTy9 (a b c : Int) : opTy 9 [a, b, c] = if a = 2 then 1 else 0 := by
  unfold opTy opTyL; simp [opTab, opT]
  all_goals (repeat' split)
  all_goals first | rfl | omega | simp_all
theorem opTy10 (a b c : Int) : opTy 10 [a, b, c] = if a = 2 ∧ b = 1 then 2 else 0 := by
  unfold opTy opTyL; simp [opTab, opT]
  all_goals (repeat' split)
  all_goals first | rfl | omega | simp_all
theorem opTy11 (a b c : Int) : opTy 11 [a, b, c] = if a = 0 ∨ a = b then 1 else 0 := by
  unfold opTy opTyL; simp [opTab, opT]
  all_goals (repeat' split)
  all_goals first | rfl | omega | simp_all
theorem opTy12 (a b c : Int) : opTy 12 [a, b, c] = if a = 0 ∨ a = b then 1 else 0 := by
  unfold opTy opTyL; simp [opTab, opT]
  all_goals (repeat' split)
  all_goals first | rfl | omega | simp_all
theorem opTy13 (a b c : Int) : opTy 13 [a, b, c] = if a = 1 then 1 else 0 := by
  unfold opTy opTyL; simp [opTab, opT]
  all_goals (repeat' split)
  all_goals first | rfl | omega | simp_all
theorem opTy14 (a b c : Int) : opTy 14 [a, b, c] = if a = 1 ∧ b = 1 then 1 else 0 := by
  unfold opTy opTyL; simp [opTab, opT]
  all_goals (repeat' split)
  all_goals first | rfl | omega | simp_all
theorem opTy15 (a b c : Int) : opTy 15 [a, b, c] = if a = 1 ∧ b = 1 then 1 else 0 := by
  unfold opTy opTyL; simp [opTab, opT]
  all_goals (repeat' split)
  all_goals first | rfl | omega | simp_all
theorem opTy16 (a b c : Int) : opTy 16 [a, b, c] = 1 := rfl
theorem opTy17 (a b c : Int) : opTy 17 [a, b, c] = if a = 0 ∨ a = b then b else 0 := by
  unfold opTy opTyL; simp [opTab, opT]
  all_goals (repeat' split)
  all_goals first | rfl | omega | simp_all
theorem opTy18 (a b c : Int) : opTy 18 [a, b, c] = if a = 1 ∧ (b = 0 ∨ b = c) then c else 0 := by
  unfold opTy opTyL; simp [opTab, opT]
  all_goals (repeat' split)
  all_goals first | rfl | omega | simp_all

theorem vB_size {k n : Int} {s : ByteArray} (h : vB ⟨k, n, s⟩ = true) : s.size ≤ maxLen := by
  rcases valid_kind h with rfl | rfl | rfl
  · rw [(valid_null h).2]; simp [maxLen, ByteArray.size]
  · rw [(valid_int h).2]; simp [maxLen, ByteArray.size]
  · have := (valid_text h).2; unfold maxLen; omega
end Go.Proofs.YtenonljnldbkiaaGreatDoor
/- Eval of package expr: its function at one term, reduce with it, Eval and Holds. -/
namespace Go.Proofs.YtenonljnldbkiaaGreatDoor
open Go.RowKit Go.Proofs.EB
set_option maxHeartbeats 2000000
set_option maxRecDepth 100000
attribute [local go_sem] World.cell?_alloc_some

/-- A row whose header lies in a box. -/
structure RowIn (w : World) (gr : Nat) (row : List V) : Prop where
  box : ∃ ro cap, w.cell? ⟨gr, 0, none⟩ = some (.slice ro row.length cap) ∧ RAt encVal 3 w w.heap.size ro row
  small : ∀ v ∈ row, v.s.size ≤ maxLen
  len : row.length ≤ maxLen
theorem RowIn.below {w w' : World} {gr : Nat} {row : List V} (h : RowIn w gr row) (hb : Below w.heap.size w w') : RowIn w' gr row := by
  obtain ⟨ro, cap, hc, hr⟩ := h.box
  exact ⟨⟨ro, cap, (hb.cell (World.block_lt_of_cell? w _ hc)).trans hc, hr.later hb⟩, h.small, h.len⟩
theorem zero_val : V.zero = ⟨0, 0, ⟨#[]⟩⟩ := rfl
end Go.Proofs.YtenonljnldbkiaaGreatDoor
/- reduce of package expr at the function of Eval; Eval and Holds. -/
namespace Go.Proofs.YtenonljnldbkiaaGreatDoor
open Go.RowKit Go.Proofs.EB
set_option maxHeartbeats 4000000
set_option maxRecDepth 100000
attribute [local go_sem] World.cell?_alloc_some

/-- The blocks of reduce: the result and the operands. -/
structure Rd (w : World) (R T : TypeId) (D C : Array Value) (wx : World) : Prop where
  below : Below w.heap.size w wx
  res : wx.heap[w.heap.size]? = some (.cells D R (0, 0))
  ops : wx.heap[w.heap.size + 1]? = some (.cells C T (0, 0))
theorem Rd.start (w : World) (R T : TypeId) (D C : Array Value) : Rd w R T D C ((w.alloc (.cells D R)).alloc (.cells C T)) :=
  ⟨al2 _ _ _, by rw [Below.heap_alloc _ _ _ (by simp)]; exact heap_alloc_new _ _, by simpa using heap_alloc_new (w.alloc (.cells D R)) (.cells C T)⟩
theorem Rd.step {w : World} {R T : TypeId} {D C : Array Value} {wx wy : World} (H : Rd w R T D C wx) (hb : Below wx.heap.size wx wy) : Rd w R T D C wy := by
  have lt : ∀ {i o}, wx.heap[i]? = some o → i < wx.heap.size := fun h => (Array.getElem?_eq_some_iff.1 h).1
  exact ⟨bt H.below hb, (hb.block _ (lt H.res)).trans H.res, (hb.block _ (lt H.ops)).trans H.ops⟩
theorem Rd.draw {w : World} {R T : TypeId} {D C : Array Value} {wx : World} (H : Rd w R T D C wx) : Rd w R T D C wx.drew := ⟨H.below.drew, H.res, H.ops⟩
theorem Rd.set {w : World} {R T : TypeId} {D C : Array Value} {wx : World} (H : Rd w R T D C wx) (i : Nat) (v : Value) : Rd w R T D (C.setIfInBounds i v) (wx.setCell ⟨w.heap.size + 1, i, none⟩ v) :=
  ⟨H.below.setCell (by simp) _, (Below.heap_setCell _ _ _ _ (by simp)).trans H.res, heap_setCell_same wx _ _ _ _ _ H.ops⟩
theorem Rd.set3 {w : World} {R T : TypeId} {D C C' : Array Value} {wx : World} (H : Rd w R T D C wx) (i j k : Nat) (x y z : Value) (hC : ((C.setIfInBounds i x).setIfInBounds j y).setIfInBounds k z = C') : Rd w R T D C' (((wx.setCell ⟨w.heap.size + 1, i, none⟩ x).setCell ⟨w.heap.size + 1, j, none⟩ y).setCell ⟨w.heap.size + 1, k, none⟩ z) := by
  rw [← hC]; exact ((H.set i x).set j y).set k z
theorem Rd.fin {w : World} {R T : TypeId} {D C : Array Value} {wx : World} (H : Rd w R T D C wx) {x y z : Value} : Below w.heap.size w (((wx.setCell ⟨w.heap.size, 0, none⟩ x).setCell ⟨w.heap.size, 1, none⟩ y).setCell ⟨w.heap.size, 2, none⟩ z) := bl3 H.below (Nat.le_refl _)
/-- An array of three values, its marks too. -/
theorem box9f {w : World} {g : Nat} {T : TypeId} {a b c d e f x y z : Value} (h : w.heap[g]? = some (.cells #[a, b, c, d, e, f, x, y, z] T (0, 0))) :
    w.frozen? ⟨g, 0, none⟩ = false ∧ w.frozen? ⟨g, 1, none⟩ = false ∧ w.frozen? ⟨g, 2, none⟩ = false ∧ w.frozen? ⟨g, 3, none⟩ = false ∧ w.frozen? ⟨g, 4, none⟩ = false ∧ w.frozen? ⟨g, 5, none⟩ = false ∧ w.frozen? ⟨g, 6, none⟩ = false ∧ w.frozen? ⟨g, 7, none⟩ = false ∧ w.frozen? ⟨g, 8, none⟩ = false := by
  simp [World.frozen?, h]
/-- What reduce gives. -/
def RedV (l : List Tm) (v : V) (r : List Tm) (w : World) (e : Ending) (w' : World) : Prop := ∃ k n s q, Hid (v = ⟨k, n, s⟩) ∧ Hid (q ≤ l.length ∧ l.drop q = r) ∧ e = .returned (.tuple #[.agg #[.int .i64 k, .int .i64 n, .string s], .int .i64 (q : Nat)]) ∧ Below w.heap.size w w'
theorem drop_rest {l a r : List Tm} {p : Nat} (h : l.drop p = a ++ r) (hp : p ≤ l.length) : ∃ q, q ≤ l.length ∧ l.drop q = r := ⟨l.length - r.length, by omega, (drop_suffix h hp).1.symm⟩
theorem head_at {l : List Tm} {x : Ex} {r : List Tm} {pos : Nat} (h : Head (l.drop pos) x r) (_hp : pos ≤ l.length) : ∃ hlt : pos < l.length, l[pos] = x.head ∧ l.drop (pos + 1) = flats x.args ++ r := by
  have h1 := h.1
  rw [Ex.flat_eq, List.cons_append] at h1
  have hlt : pos < l.length := by
    rcases Nat.lt_or_ge pos l.length with h2 | h2
    · exact h2
    · rw [List.drop_eq_nil_of_le h2] at h1; cases h1
  rw [List.drop_eq_getElem_cons hlt] at h1
  obtain ⟨h3, h4⟩ := List.cons.inj h1
  exact ⟨hlt, h3, h4⟩
theorem foldV_valid (row : List V) (x : Ex) (h : x.ok) : vB (x.fold (evT cmpV row)) = true := by rw [← evalX_fold cmpV row x h]; exact evalX_valid cmpV row x h
end Go.Proofs.YtenonljnldbkiaaGreatDoor
/- Eval and Holds of package expr. -/
namespace Go.Proofs.YtenonljnldbkiaaGreatDoor
open Go.RowKit Go.Proofs.EB
set_option maxHeartbeats 2000000
set_option maxRecDepth 100000
attribute [local go_sem] World.cell?_alloc_some

/-- The tree of a valid list of terms. -/
def treeL (l : List Tm) : Option Ex := if validL l = true then (pEx 16 l).map (·.1) else none
theorem treeL_of {l : List Tm} {x : Ex} (h : Head l x []) (hd : x.depth ≤ 16) (hl : l.length ≤ 64) : treeL l = some x := by
  unfold treeL
  rw [if_pos (validL_iff.2 ⟨x, h, hd, hl⟩), h.1, pEx_comp x 16 [] h.2 hd]
  rfl
theorem treeL_none {l : List Tm} (h : validL l = false) : treeL l = none := by unfold treeL; rw [h]; rfl
theorem validL_get {l : List Tm} (h : validL l = true) : ∃ x, treeL l = some x ∧ Head l x [] ∧ x.depth ≤ 16 ∧ l.length ≤ 64 := by
  obtain ⟨x, h1, h2, h3⟩ := validL_iff.1 h
  exact ⟨x, treeL_of h1 h2 h3, h1, h2, h3⟩
/-- The value of a list of terms for a row. -/
def evalL (cmp : V → V → Int) (l : List Tm) (row : List V) : V := match treeL l with | some x => evalX cmp row x | none => V.zero
theorem evalL_valid (cmp : V → V → Int) (l : List Tm) (row : List V) : vB (evalL cmp l row) = true := by
  unfold evalL
  cases hv : validL l
  · rw [treeL_none hv]; exact zero_valid
  · obtain ⟨x, h1, h2, _⟩ := validL_get hv
    rw [h1]; exact evalX_valid _ _ _ h2.2
theorem RedV.shape {l : List Tm} {v : V} {r : List Tm} {w w' : World} {e : Ending} (h : RedV l v r w e w') : ∃ k n s q, Hid (v = ⟨k, n, s⟩) ∧ e = .returned (.tuple #[.agg #[.int .i64 k, .int .i64 n, .string s], .int .i64 (q : Nat)]) ∧ Below w.heap.size w w' := by
  obtain ⟨k, n, s, q, h1, _, h2, h3⟩ := h
  exact ⟨k, n, s, q, h1, h2, h3⟩
theorem filled3 {w1 : World} {g : Nat} {T : TypeId} {x0 x1 x2 : Value} (h : w1.heap[g]? = some (.cells #[x0, x1, x2] T (0, 0))) (a b c : Value) (o : Obj) :
    ((((w1.setCell ⟨g, 0, none⟩ a).setCell ⟨g, 1, none⟩ b).setCell ⟨g, 2, none⟩ c).alloc o).cell? ⟨g, 0, none⟩ = some a ∧ ((((w1.setCell ⟨g, 0, none⟩ a).setCell ⟨g, 1, none⟩ b).setCell ⟨g, 2, none⟩ c).alloc o).cell? ⟨g, 1, none⟩ = some b ∧ ((((w1.setCell ⟨g, 0, none⟩ a).setCell ⟨g, 1, none⟩ b).setCell ⟨g, 2, none⟩ c).alloc o).cell? ⟨g, 2, none⟩ = some c := by
  have h1 := heap_setCell_same w1 g 0 _ _ a h
  have h2 := heap_setCell_same _ g 1 _ _ b h1
  have h3 := heap_setCell_same _ g 2 _ _ c h2
  have h4 : ((((w1.setCell ⟨g, 0, none⟩ a).setCell ⟨g, 1, none⟩ b).setCell ⟨g, 2, none⟩ c).alloc o).heap[g]? = some (.cells #[a, b, c] T (0, 0)) := by
    rw [Below.heap_alloc _ _ _ (Array.getElem?_eq_some_iff.1 h3).1, h3]; rfl
  obtain ⟨e0, e1, e2, _, _, _⟩ := box3 h4
  exact ⟨e0, e1, e2⟩
end Go.Proofs.YtenonljnldbkiaaGreatDoor
/- The type of an expression, plain; isNoType, operatorTyping and the function of Type of package expr. -/
namespace Go.Proofs.YtenonljnldbkiaaGreatDoor
open Go.RowKit Go.Proofs.EB
set_option maxHeartbeats 4000000
set_option maxRecDepth 100000
attribute [local go_sem] World.cell?_alloc_some
/-- The table's type at kinds that are types is the plain one. -/
theorem opTy_typ1 {op a : Int} (ho : op = 3 ∨ op = 9 ∨ op = 13 ∨ op = 16) (_ha : a = 1 ∨ a = 2) : opTy op [a, 0, 0] = typI op [a] := by
  rcases ho with rfl | rfl | rfl | rfl
  · rw [opTy3]; simp [typI]
  · rw [opTy9]; simp [typI]
  · rw [opTy13]; simp [typI]
  · rw [opTy16]; simp [typI]
theorem opTy_typ2 {op a b : Int} (ho : op = 4 ∨ op = 5 ∨ op = 6 ∨ op = 7 ∨ op = 8 ∨ op = 10 ∨ op = 11 ∨ op = 12 ∨ op = 14 ∨ op = 15 ∨ op = 17) (ha : a = 1 ∨ a = 2) (hb : b = 1 ∨ b = 2) : opTy op [a, b, 0] = typI op [a, b] := by
  rcases ho with rfl | rfl | rfl | rfl | rfl | rfl | rfl | rfl | rfl | rfl | rfl
  · rw [opTy4]; simp [typI]
  · rw [opTy5]; simp [typI]
  · rw [opTy6]; simp [typI]
  · rw [opTy7]; simp [typI]
  · rw [opTy8]; simp [typI]
  · rw [opTy10]; simp [typI]
  · rw [opTy11]; rcases ha with rfl | rfl <;> rcases hb with rfl | rfl <;> simp [typI]
  · rw [opTy12]; rcases ha with rfl | rfl <;> rcases hb with rfl | rfl <;> simp [typI]
  · rw [opTy14]; simp [typI]
  · rw [opTy15]; simp [typI]
  · rw [opTy17]; rcases ha with rfl | rfl <;> rcases hb with rfl | rfl <;> simp [typI]
theorem opTy_typ3 {a b c : Int} (ha : a = 1 ∨ a = 2) (hb : b = 1 ∨ b = 2) (hc : c = 1 ∨ c = 2) : opTy 18 [a, b, c] = typI 18 [a, b, c] := by
  rw [opTy18]; rcases ha with rfl | rfl <;> rcases hb with rfl | rfl <;> rcases hc with rfl | rfl <;> simp [typI]
theorem arity_1 {op : Int} (h : arityI op = 1) : op = 3 ∨ op = 9 ∨ op = 13 ∨ op = 16 := by
  unfold arityI at h
  by_cases h1 : op = 3 ∨ op = 9 ∨ op = 13 ∨ op = 16
  · exact h1
  · rw [if_neg h1] at h
    repeat' split at h
    all_goals omega
theorem arity_2 {op : Int} (h : arityI op = 2) : op = 4 ∨ op = 5 ∨ op = 6 ∨ op = 7 ∨ op = 8 ∨ op = 10 ∨ op = 11 ∨ op = 12 ∨ op = 14 ∨ op = 15 ∨ op = 17 := by
  have hin := arity_in (op := op) (by omega)
  unfold arityI at h
  by_cases h1 : op = 1 ∨ op = 2
  · rw [if_pos h1] at h; omega
  · rw [if_neg h1] at h
    by_cases h2 : op = 3 ∨ op = 9 ∨ op = 13 ∨ op = 16
    · rw [if_pos h2] at h; omega
    · rw [if_neg h2] at h
      by_cases h4 : op = 18
      · rw [if_pos h4] at h; omega
      · omega
theorem arity_3 {op : Int} (h : arityI op = 3) : op = 18 := by
  unfold arityI at h
  repeat' split at h
  all_goals omega
/-- What operatorTyping reckons. -/
def opP (op ak ae bk be ck ce : Int) : Int × Int :=
  if ae ≠ 0 then (ak, ae) else if be ≠ 0 then (bk, be) else if ce ≠ 0 then (ck, ce) else if noTy (opTy op [ak, bk, ck]) = true then (0, 5) else (opTy op [ak, bk, ck], 0)
theorem noTy_if {k : Int} (h : k = 0 ∨ k = 1 ∨ k = 2) : (if noTy k = true then ((0 : Int), (5 : Int)) else (k, 0)) = if k = 0 then (0, 5) else (k, 0) := by
  unfold noTy
  rcases h with rfl | rfl | rfl <;> simp
theorem opP_tyOp (op : Int) (l : List (Int × Int)) (ak ae bk be ck ce : Int) (hl : arityI op = l.length) (hl0 : 0 < l.length) (h : ∀ p ∈ l, GoodP p) (he : [(ak, ae), (bk, be), (ck, ce)] = l ++ List.replicate (3 - l.length) (0, 0)) : opP op ak ae bk be ck ce = tyOp op l := by
  have h3 := arity_cases op
  rcases l with _ | ⟨p, _ | ⟨q, _ | ⟨r, _ | ⟨y, m⟩⟩⟩⟩
  · simp at hl0
  · simp at he
    obtain ⟨rfl, ⟨rfl, rfl⟩, rfl, rfl⟩ := he
    have hp := h (ak, ae) (by simp)
    unfold opP tyOp
    rcases hp with ⟨h1, h2⟩ | ⟨h1, h2⟩
    · simp only at h1 h2
      subst h1
      have ho := arity_1 (op := op) (by simpa using hl)
      have e := opTy_typ1 ho h2
      have hr := typI_range op [ak] (by simpa using h2)
      simp [e, noTy_if hr]
    · simp only at h1 h2
      simp [h1, h2]
  · simp at he
    obtain ⟨rfl, rfl, rfl, rfl⟩ := he
    have hp := h (ak, ae) (by simp)
    have hq := h (bk, be) (by simp)
    unfold opP tyOp
    rcases hp with ⟨h1, h2⟩ | ⟨h1, h2⟩
    · rcases hq with ⟨g1, g2⟩ | ⟨g1, g2⟩
      · simp only at h1 h2 g1 g2
        subst h1 g1
        have ho := arity_2 (op := op) (by simpa using hl)
        have e := opTy_typ2 ho h2 g2
        have hr := typI_range op [ak, bk] (by simp; exact ⟨h2, g2⟩)
        simp [e, noTy_if hr]
      · simp only at h1 h2 g1 g2
        simp [h1, g1, g2]
    · simp only at h1 h2
      simp [h1, h2]
  · simp at he
    obtain ⟨rfl, rfl, rfl⟩ := he
    have hp := h (ak, ae) (by simp)
    have hq := h (bk, be) (by simp)
    have hr := h (ck, ce) (by simp)
    unfold opP tyOp
    rcases hp with ⟨h1, h2⟩ | ⟨h1, h2⟩
    · rcases hq with ⟨g1, g2⟩ | ⟨g1, g2⟩
      · rcases hr with ⟨i1, i2⟩ | ⟨i1, i2⟩
        · simp only at h1 h2 g1 g2 i1 i2
          subst h1 g1 i1
          obtain rfl := arity_3 (op := op) (by simpa using hl)
          have e := opTy_typ3 h2 g2 i2
          have hr := typI_range 18 [ak, bk, ck] (by simp; exact ⟨h2, g2, i2⟩)
          simp [e, noTy_if hr]
        · simp only at h1 h2 g1 g2 i1 i2
          simp [h1, g1, i1, i2]
      · simp only at h1 h2 g1 g2
        simp [h1, g1, g2]
    · simp only at h1 h2
      simp [h1, h2]
  · simp at hl; omega
theorem isNoType_any (k : Int) (w : World) : Calls Tryz.prog 184 #[.int .i64 k] w fun e w' => e = .returned (.bool (noTy k)) ∧ w = w' := by
  have hn : (k != 1 && k != 2) = noTy k := rfl
  rw [← hn]
  clear hn
  cases h1 : (k != 1)
  all_goals
    go_enter Tryz.func184, Tryz.ntmps184
    go_wp2_with fail
    go_ret
    exact ⟨rfl, rfl⟩
theorem ixP0 (a b c d e f : Int) (w : World) : (Instr.index 224 (.agg #[.int .i64 a, .int .i64 b, .int .i64 c, .int .i64 d, .int .i64 e, .int .i64 f]) (.int .i64 0)).run Tryz.prog w = .ok (.agg #[.int .i64 a, .int .i64 b]) w := by
  have u1 := Tryz.underlying224
  have u2 := Tryz.isAgg221
  have u3 := Tryz.sizeOf221
  unfold Instr.index
  go_simp
theorem ixP1 (a b c d e f : Int) (w : World) : (Instr.index 224 (.agg #[.int .i64 a, .int .i64 b, .int .i64 c, .int .i64 d, .int .i64 e, .int .i64 f]) (.int .i64 1)).run Tryz.prog w = .ok (.agg #[.int .i64 c, .int .i64 d]) w := by
  have u1 := Tryz.underlying224
  have u2 := Tryz.isAgg221
  have u3 := Tryz.sizeOf221
  unfold Instr.index
  go_simp
theorem ixP2 (a b c d e f : Int) (w : World) : (Instr.index 224 (.agg #[.int .i64 a, .int .i64 b, .int .i64 c, .int .i64 d, .int .i64 e, .int .i64 f]) (.int .i64 2)).run Tryz.prog w = .ok (.agg #[.int .i64 e, .int .i64 f]) w := by
  have u1 := Tryz.underlying224
  have u2 := Tryz.isAgg221
  have u3 := Tryz.sizeOf221
  unfold Instr.index
  go_simp
theorem bl2 {w w1 : World} {p : Nat} {x y : Value} (h : Below w.heap.size w w1) (hp : w.heap.size ≤ p) : Below w.heap.size w ((w1.setCell ⟨p, 0, none⟩ x).setCell ⟨p, 1, none⟩ y) :=
  (h.setCell (by simpa using hp) _).setCell (by simpa using hp) _
theorem al4 (w : World) (o p q r : Obj) : Below w.heap.size w ((((w.alloc o).alloc p).alloc q).alloc r) := (al3 w o p q).alloc (by simp; omega) _
theorem al5 (w : World) (o p q r s : Obj) : Below w.heap.size w (((((w.alloc o).alloc p).alloc q).alloc r).alloc s) := (al4 w o p q r).alloc (by simp; omega) _
theorem al6 (w : World) (o p q r s t : Obj) : Below w.heap.size w ((((((w.alloc o).alloc p).alloc q).alloc r).alloc s).alloc t) := (al5 w o p q r s).alloc (by simp; omega) _
/-- What a call leaves that gives a type and an error. -/
def GivesP (p : Int × Int) (w : World) (e : Ending) (w' : World) : Prop := ∃ k m, Hid (p = (k, m)) ∧ e = .returned (.agg #[.int .i64 k, .int .i64 m]) ∧ Below w.heap.size w w'
theorem opTyping_any (op ak ae bk be ck ce : Int) (w : World) (hO : Ops w) (h0 : 1 ≤ op) (h18 : op ≤ 18) :
    Calls Tryz.prog 187 #[.int .i64 op, .agg #[.int .i64 ak, .int .i64 ae, .int .i64 bk, .int .i64 be, .int .i64 ck, .int .i64 ce]] w (GivesP (opP op ak ae bk be ck ce) w) := by
  have hT := fun w hO => operatorType_any op ak bk ck w hO h0 h18
  unfold opP
  generalize opTy op [ak, bk, ck] = ty at *
  have HT := Lib.hid hT
  have HO := Lib.hid hO
  clear hT hO h0 h18
  have i0 := fun w => ixP0 ak ae bk be ck ce w
  have i1 := fun w => ixP1 ak ae bk be ck ce w
  have i2 := fun w => ixP2 ak ae bk be ck ce w
  have hcase : (ae ≠ 0) ∨ (ae = 0 ∧ be ≠ 0) ∨ (ae = 0 ∧ be = 0 ∧ ce ≠ 0) ∨ (ae = 0 ∧ be = 0 ∧ ce = 0) := by omega
  rcases hcase with h1 | ⟨h1, h2⟩ | ⟨h1, h2, h3⟩ | ⟨h1, h2, h3⟩
  · have y1 : (ae != 0) = true := by simpa using h1
    rw [if_pos h1]
    clear h1
    go_enter Tryz.func187, Tryz.ntmps187
    go_wp2_with fail
    refine wp_loop_rounds 4 ?_
    rw [rounds_succ]
    go_wp2_with fail
    refine bodyPost_ret (by simp [results, Tryz.results187, go_sem]; rfl) rfl ?_
    exact ⟨_, _, rfl, rfl, al4 _ _ _ _ _⟩
  · have y1 : (ae != 0) = false := by simpa using h1
    have y2 : (be != 0) = true := by simpa using h2
    rw [if_neg (by simpa using h1), if_pos h2]
    clear h1 h2
    go_enter Tryz.func187, Tryz.ntmps187
    go_wp2_with fail
    refine wp_loop_rounds 4 ?_
    rw [rounds_succ]
    go_wp2_with fail
    rw [rounds_succ]
    go_wp2_with fail
    refine bodyPost_ret (by simp [results, Tryz.results187, go_sem]; rfl) rfl ?_
    exact ⟨_, _, rfl, rfl, al5 _ _ _ _ _ _⟩
  · have y1 : (ae != 0) = false := by simpa using h1
    have y2 : (be != 0) = false := by simpa using h2
    have y3 : (ce != 0) = true := by simpa using h3
    rw [if_neg (by simpa using h1), if_neg (by simpa using h2), if_pos h3]
    clear h1 h2 h3
    go_enter Tryz.func187, Tryz.ntmps187
    go_wp2_with fail
    refine wp_loop_rounds 4 ?_
    rw [rounds_succ]
    go_wp2_with fail
    rw [rounds_succ]
    go_wp2_with fail
    rw [rounds_succ]
    go_wp2_with fail
    refine bodyPost_ret (by simp [results, Tryz.results187, go_sem]; rfl) rfl ?_
    exact ⟨_, _, rfl, rfl, al6 _ _ _ _ _ _ _⟩
  · have y1 : (ae != 0) = false := by simpa using h1
    have y2 : (be != 0) = false := by simpa using h2
    have y3 : (ce != 0) = false := by simpa using h3
    rw [if_neg (by simpa using h1), if_neg (by simpa using h2), if_neg (by simpa using h3)]
    clear h1 h2 h3
    have hN := fun w => isNoType_any ty w
    cases hn : noTy ty
    all_goals
      rw [hn] at hN
      first | rw [if_neg (by decide)] | rw [if_pos rfl]
      have HN := Lib.hid hN
      clear hN hn
      go_enter Tryz.func187, Tryz.ntmps187
      go_wp2_with fail
      refine wp_loop_rounds 4 ?_
      rw [rounds_succ]
      go_wp2_with fail
      rw [rounds_succ]
      go_wp2_with fail
      rw [rounds_succ]
      go_wp2_with fail
      rw [rounds_succ]
      go_wp2_with fail
      refine (HT.out _ (HO.out.below (al6 _ _ _ _ _ _ _))).mono ?_
      rintro e w1 ⟨rfl, hb1⟩
      have HB := Lib.hid (bt (al6 _ _ _ _ _ _ _) hb1)
      obtain ⟨hc, hf⟩ := bcell hb1
      have hz := hb1.size
      simp at hz
      clear hb1
      go_wp2_with fail
      refine (HN.out _).mono ?_
      rintro e w2 ⟨rfl, rfl⟩
      go_wp2_with fail
      refine bodyPost_ret (by simp [results, Tryz.results187, go_sem, hc]; rfl) rfl ?_
      exact ⟨_, _, rfl, rfl, bl2 HB.out (by omega)⟩
/-- Types whose header lies in a box. -/
structure TysIn (w : World) (gr : Nat) (types : List Int) : Prop where
  box : ∃ ro cap, w.cell? ⟨gr, 0, none⟩ = some (.slice ro types.length cap) ∧ RAt encInt 1 w w.heap.size ro types
  good : ∀ k ∈ types, k = 1 ∨ k = 2
  len : types.length ≤ maxLen
theorem TysIn.below {w w' : World} {gr : Nat} {types : List Int} (h : TysIn w gr types) (hb : Below w.heap.size w w') : TysIn w' gr types := by
  obtain ⟨ro, cap, hc, hr⟩ := h.box
  exact ⟨⟨ro, cap, (hb.cell (World.block_lt_of_cell? w _ hc)).trans hc, hr.later hb⟩, h.good, h.len⟩
theorem typeC_any (o tk tn tc : Int) (ts : ByteArray) (l : List (Int × Int)) (ak ae bk be ck ce : Int) (types : List Int) (gr : Nat) (w : World) (hO : Ops w) (hR : TysIn w gr types) (ht : termB ⟨o, ⟨tk, tn, ts⟩, tc⟩ = true) (hl : arityI o = l.length)
    (hv : ∀ p ∈ l, GoodP p) (he : [(ak, ae), (bk, be), (ck, ce)] = l ++ List.replicate (3 - l.length) (0, 0)) :
    Calls Tryz.prog 186 #[.agg #[.int .i64 o, .int .i64 tk, .int .i64 tn, .string ts, .int .i64 tc], .agg #[.int .i64 ak, .int .i64 ae, .int .i64 bk, .int .i64 be, .int .i64 ck, .int .i64 ce], .pointer (some ⟨gr, 0, none⟩)] w (GivesP (tyT types ⟨o, ⟨tk, tn, ts⟩, tc⟩ l) w) := by
  by_cases h1 : o = 1
  · subst h1
    have e : tyT types ⟨1, ⟨tk, tn, ts⟩, tc⟩ l = (tk, 0) := by simp [tyT]
    rw [e]
    clear hO hR ht hl hv he e
    go_enter Tryz.func186, Tryz.ntmps186
    go_wp2_with fail
    refine bodyPost_ret (by simp [results, Tryz.results186, go_sem]; rfl) rfl ?_
    exact ⟨_, _, rfl, rfl, al3 _ _ _ _⟩
  · have y1 : (o == 1) = false := by simpa using h1
    by_cases h2 : o = 2
    · subst h2
      rw [termB_col] at ht
      obtain ⟨m, rfl⟩ : ∃ m : Nat, tc = m := ⟨tc.toNat, by simp at ht; omega⟩
      have e : tyT types ⟨2, ⟨tk, tn, ts⟩, m⟩ l = match types[m]? with | some k => (k, 0) | none => (0, 3) := by simp [tyT] <;> (cases types[m]? <;> rfl)
      rw [e]
      obtain ⟨⟨ro, cap, hc, hr⟩, _, hlen⟩ := hR
      unfold maxLen at hlen
      have hgl : gr < w.heap.size := World.block_lt_of_cell? w _ hc
      obtain ⟨hq3, _⟩ := bcell (al3 w (.cells #[.int .i64 2, .int .i64 tk, .int .i64 tn, .string ts, .int .i64 (m : Int)] 144) (.cells #[.int .i64 ak, .int .i64 ae, .int .i64 bk, .int .i64 be, .int .i64 ck, .int .i64 ce] 224) (.cells #[.int .i64 0, .int .i64 0] 221))
      by_cases hm : m < types.length
      · obtain ⟨b, off, rfl, _⟩ := hr.form (by omega)
        have c0 := RAt.cell hr hm (j := 0) (u := .int .i64 types[m]) rfl
        simp only [Nat.mul_one, Nat.add_zero] at c0
        have hbl : b < w.heap.size := World.block_lt_of_cell? w _ c0
        rw [List.getElem?_eq_getElem hm]
        generalize types[m] = k at *
        simp only
        clear hO ht hl hv he e hr y1 h1
        go_enter Tryz.func186, Tryz.ntmps186
        go_wp2_with fail
        refine bodyPost_ret (by simp [results, Tryz.results186, go_sem]; rfl) rfl ?_
        exact ⟨_, _, rfl, rfl, al3 _ _ _ _⟩
      · rw [List.getElem?_eq_none (by omega)]
        simp only
        clear hO ht hl hv he e hr y1 h1
        go_enter Tryz.func186, Tryz.ntmps186
        go_wp2_with fail
        refine bodyPost_ret (by simp [results, Tryz.results186, go_sem]; rfl) rfl ?_
        exact ⟨_, _, rfl, rfl, al3 _ _ _ _⟩
    · have y2 : (o == 2) = false := by simpa using h2
      have e : tyT types ⟨o, ⟨tk, tn, ts⟩, tc⟩ l = tyOp o l := by simp [tyT, h1, h2]
      have h3 : 0 ≤ arityI o := by unfold termB at ht; simp at ht; exact ht.1
      have hin := arity_in h3
      have h0 : 0 < l.length := by
        rcases Nat.eq_zero_or_pos l.length with h4 | h4
        · rcases arity0 (op := o) (by omega) with h | h <;> omega
        · exact h4
      rw [e, ← opP_tyOp o l ak ae bk be ck ce hl h0 hv he]
      have hA := fun w hO => opTyping_any o ak ae bk be ck ce w hO hin.1 hin.2
      generalize opP o ak ae bk be ck ce = p at *
      have HA := Lib.hid hA
      have HO := Lib.hid hO
      clear hA hO hR ht hl hv he e h0 h1 h2 h3 hin
      go_enter Tryz.func186, Tryz.ntmps186
      go_wp2_with fail
      refine (HA.out _ (HO.out.below (al3 _ _ _ _))).mono ?_
      rintro e w1 ⟨k1, m1, hv, rfl, hb1⟩
      obtain ⟨hc, hf⟩ := bcell hb1
      have hz := hb1.size
      simp at hz
      go_wp2_with fail
      refine bodyPost_ret (by simp [results, Tryz.results186, go_sem, hc]; rfl) rfl ?_
      exact ⟨_, _, hv, rfl, bl2 (bt (al3 _ _ _ _) hb1) (by omega)⟩
end Go.Proofs.YtenonljnldbkiaaGreatDoor
/- reduce of package expr at the function of Type; Type. -/
namespace Go.Proofs.YtenonljnldbkiaaGreatDoor
open Go.RowKit Go.Proofs.EB
set_option maxHeartbeats 4000000
set_option maxRecDepth 100000
attribute [local go_sem] World.cell?_alloc_some
theorem Rd.set2 {w : World} {R T : TypeId} {D C C' : Array Value} {wx : World} (H : Rd w R T D C wx) (i j : Nat) (x y : Value) (hC : (C.setIfInBounds i x).setIfInBounds j y = C') : Rd w R T D C' ((wx.setCell ⟨w.heap.size + 1, i, none⟩ x).setCell ⟨w.heap.size + 1, j, none⟩ y) := by
  rw [← hC]; exact (H.set i x).set j y
theorem Rd.fin2 {w : World} {R T : TypeId} {D C : Array Value} {wx : World} (H : Rd w R T D C wx) {x y : Value} : Below w.heap.size w ((wx.setCell ⟨w.heap.size, 0, none⟩ x).setCell ⟨w.heap.size, 1, none⟩ y) := bl2 H.below (Nat.le_refl _)
theorem box6 {w : World} {g : Nat} {T : TypeId} {a b c d e f : Value} (h : w.heap[g]? = some (.cells #[a, b, c, d, e, f] T (0, 0))) :
    w.cell? ⟨g, 0, none⟩ = some a ∧ w.cell? ⟨g, 1, none⟩ = some b ∧ w.cell? ⟨g, 2, none⟩ = some c ∧ w.cell? ⟨g, 3, none⟩ = some d ∧ w.cell? ⟨g, 4, none⟩ = some e ∧ w.cell? ⟨g, 5, none⟩ = some f := by
  simp [World.cell?, h]
theorem box6f {w : World} {g : Nat} {T : TypeId} {a b c d e f : Value} (h : w.heap[g]? = some (.cells #[a, b, c, d, e, f] T (0, 0))) :
    w.frozen? ⟨g, 0, none⟩ = false ∧ w.frozen? ⟨g, 1, none⟩ = false ∧ w.frozen? ⟨g, 2, none⟩ = false ∧ w.frozen? ⟨g, 3, none⟩ = false ∧ w.frozen? ⟨g, 4, none⟩ = false ∧ w.frozen? ⟨g, 5, none⟩ = false := by
  simp [World.frozen?, h]
theorem box2 {w : World} {g : Nat} {T : TypeId} {a b : Value} (h : w.heap[g]? = some (.cells #[a, b] T (0, 0))) :
    w.cell? ⟨g, 0, none⟩ = some a ∧ w.cell? ⟨g, 1, none⟩ = some b ∧ w.frozen? ⟨g, 0, none⟩ = false ∧ w.frozen? ⟨g, 1, none⟩ = false := by
  simp [World.cell?, World.frozen?, h]
theorem foldT_good (types : List Int) (hT : ∀ k ∈ types, k = 1 ∨ k = 2) (x : Ex) (h : x.ok) : GoodP (x.fold (tyT types)) := by
  revert h
  induction x using Ex.ind with
  | h x ih =>
    intro h
    obtain ⟨h1, _, h3⟩ := (Ex.ok_iff x).1 h
    rw [Ex.fold_eq]
    refine tyT_good types _ _ h1 hT ?_
    intro p hp
    obtain ⟨a, ha, rfl⟩ := List.mem_map.1 hp
    exact ih a ha (h3 a ha)
/-- What reduce gives. -/
def RedT (l : List Tm) (p : Int × Int) (r : List Tm) (w : World) (e : Ending) (w' : World) : Prop := ∃ k m q, Hid (p = (k, m)) ∧ Hid (q ≤ l.length ∧ l.drop q = r) ∧ e = .returned (.tuple #[.agg #[.int .i64 k, .int .i64 m], .int .i64 (q : Nat)]) ∧ Below w.heap.size w w'

theorem reduceT_0 (ao : Option Addr) (cap : Nat) (l : List Tm) (hl : l.length ≤ 64) (types : List Int) (gr : Nat) (x : Ex) (hx : x.args = []) (hok : x.ok) (hTy : ∀ k ∈ types, k = 1 ∨ k = 2)
    (ih : ∀ a ∈ x.args, ∀ (pos : Nat) (r : List Tm), Hid (Head (l.drop pos) a r) → pos ≤ l.length → ∀ w : World, Ops w → TmsAt w w.heap.size ao l → TysIn w gr types → Calls Tryz.prog 185 #[.slice ao l.length cap, .int .i64 pos, .func (.func 186) #[] #[.pointer (some ⟨gr, 0, none⟩)]] w (RedT l (a.fold (tyT types)) r w))
    (pos : Nat) (r : List Tm) (hH : Hid (Head (l.drop pos) x r)) (hp : pos ≤ l.length) (w : World) (hO : Ops w) (hT : TmsAt w w.heap.size ao l) (hR : TysIn w gr types) :
    Calls Tryz.prog 185 #[.slice ao l.length cap, .int .i64 pos, .func (.func 186) #[] #[.pointer (some ⟨gr, 0, none⟩)]] w (RedT l (x.fold (tyT types)) r w) := by
  obtain ⟨hlt, hhd, hrest⟩ := head_at hH.out hp
  obtain ⟨htb, har, hoks⟩ := (Ex.ok_iff x).1 hok
  obtain ⟨b, off, rfl, _⟩ := hT.form (by omega)
  obtain ⟨c0, c1, c2, c3, c4⟩ := RAt.tm hT hlt
  rw [hhd] at c0 c1 c2 c3 c4
  have hfold := Ex.fold_eq (tyT types) x
  rw [hx] at hfold har hrest
  have hbl : b < w.heap.size := World.block_lt_of_cell? w _ c0
  have hA := fun w hO => arity_any x.head.op w hO
  rw [har] at hA
  have HA := Lib.hid hA
  have hC := fun (v : List (Int × Int)) (ak ae bk be ck ce : Int) w hO hR (hl : v.length = 0) hv he => typeC_any x.head.op x.head.v.k x.head.v.n x.head.c x.head.v.s v ak ae bk be ck ce types gr w hO hR htb (by rw [har, hl]; rfl) hv he
  have hte : (⟨x.head.op, ⟨x.head.v.k, x.head.v.n, x.head.v.s⟩, x.head.c⟩ : Tm) = x.head := rfl
  rw [hte] at hC
  have _hu := hTy
  have Hfold := Lib.hid hfold
  have HC := Lib.hid hC
  have HO := Lib.hid hO
  have HT := Lib.hid hT
  have HR := Lib.hid hR
  have Hrest := Lib.hid hrest
  have hpl : (pos : Int) < (l.length : Int) := by omega
  clear hA hC hO hT hR hrest hfold hte har htb hoks hhd ih hH _hu hTy
  generalize x.head = t at *
  obtain ⟨o, ⟨tk, tn, ts⟩, tc⟩ := t
  simp only at *
  obtain ⟨hq2, _⟩ := bcell (al2 w (.cells #[.int .i64 0, .int .i64 0] 221) (.cells #[.int .i64 0, .int .i64 0, .int .i64 0, .int .i64 0, .int .i64 0, .int .i64 0] 224))
  go_enter Tryz.func185, Tryz.ntmps185
  go_wp2_with fail
  refine (HA.out _ (HO.out.below (al2 _ _ _))).mono ?_
  rintro e w' ⟨rfl, rfl⟩
  go_wp2_with fail
  have HD := Lib.hid (Rd.start w 221 224 #[.int .i64 0, .int .i64 0] #[.int .i64 0, .int .i64 0, .int .i64 0, .int .i64 0, .int .i64 0, .int .i64 0])
  generalize (w.alloc (.cells #[.int .i64 0, .int .i64 0] 221)).alloc (.cells #[.int .i64 0, .int .i64 0, .int .i64 0, .int .i64 0, .int .i64 0, .int .i64 0] 224) = w0 at *
  clear hq2
  refine wp_loop_rounds 1 ?_
  have hval : Hid (∀ p ∈ ([] : List (Int × Int)), GoodP p) := by intro v hv; simp at hv
  have hres : Hid (x.fold (tyT types) = tyT types ⟨o, ⟨tk, tn, ts⟩, tc⟩ []) := by
    unfold Hid
    rw [Hfold.out]
    simp only [List.map_nil]
  have hend : Hid (pos + 1 ≤ l.length ∧ l.drop (pos + 1) = r) := ⟨by omega, by rw [Hrest.out]; simp [flats]⟩
  rw [rounds_succ]
  obtain ⟨hq0, _⟩ := bcell HD.out.below
  obtain ⟨a0, a1, a2, a3, a4, a5⟩ := box6 HD.out.ops
  obtain ⟨e0, e1, f0, f1⟩ := box2 HD.out.res
  go_wp2_with fail
  go_region_law (go_simp; go_at_call 186; first | (refine (HC.out [] 0 0 0 0 0 0 _ (HO.out.below HD.out.below) (HR.out.below HD.out.below) rfl hval.out rfl).mono ?_; rintro e w5 ⟨k, m, hv, rfl, hb⟩; replace HD := Lib.hid (HD.out.step hb); clear hb e0 e1 f0 f1; obtain ⟨e0, e1, f0, f1⟩ := box2 HD.out.res) | (refine (HC.out [] 0 0 0 0 0 0 _ (HO.out.below HD.out.draw.below) (HR.out.below HD.out.draw.below) rfl hval.out rfl).mono ?_; rintro e w5 ⟨k, m, hv, rfl, hb⟩; replace HD := Lib.hid (HD.out.draw.step hb); clear hb e0 e1 f0 f1; obtain ⟨e0, e1, f0, f1⟩ := box2 HD.out.res))
  all_goals
    go_wp2_with fail
    refine bodyPost_ret (by simp [results, Tryz.results185, go_sem, e0, e1]; rfl) rfl ?_
    exact ⟨k, m, pos + 1, hres.out.trans hv.out, hend, by first | rfl | (congr 3; omega) | simp, HD.out.fin2⟩
theorem reduceT_1 (ao : Option Addr) (cap : Nat) (l : List Tm) (hl : l.length ≤ 64) (types : List Int) (gr : Nat) (x : Ex) (x1 : Ex) (hx : x.args = [x1]) (hok : x.ok) (hTy : ∀ k ∈ types, k = 1 ∨ k = 2)
    (ih : ∀ a ∈ x.args, ∀ (pos : Nat) (r : List Tm), Hid (Head (l.drop pos) a r) → pos ≤ l.length → ∀ w : World, Ops w → TmsAt w w.heap.size ao l → TysIn w gr types → Calls Tryz.prog 185 #[.slice ao l.length cap, .int .i64 pos, .func (.func 186) #[] #[.pointer (some ⟨gr, 0, none⟩)]] w (RedT l (a.fold (tyT types)) r w))
    (pos : Nat) (r : List Tm) (hH : Hid (Head (l.drop pos) x r)) (hp : pos ≤ l.length) (w : World) (hO : Ops w) (hT : TmsAt w w.heap.size ao l) (hR : TysIn w gr types) :
    Calls Tryz.prog 185 #[.slice ao l.length cap, .int .i64 pos, .func (.func 186) #[] #[.pointer (some ⟨gr, 0, none⟩)]] w (RedT l (x.fold (tyT types)) r w) := by
  obtain ⟨hlt, hhd, hrest⟩ := head_at hH.out hp
  obtain ⟨htb, har, hoks⟩ := (Ex.ok_iff x).1 hok
  obtain ⟨b, off, rfl, _⟩ := hT.form (by omega)
  obtain ⟨c0, c1, c2, c3, c4⟩ := RAt.tm hT hlt
  rw [hhd] at c0 c1 c2 c3 c4
  have hfold := Ex.fold_eq (tyT types) x
  rw [hx] at hfold har hrest
  have hbl : b < w.heap.size := World.block_lt_of_cell? w _ c0
  have hA := fun w hO => arity_any x.head.op w hO
  rw [har] at hA
  have HA := Lib.hid hA
  have hC := fun (v : List (Int × Int)) (ak ae bk be ck ce : Int) w hO hR (hl : v.length = 1) hv he => typeC_any x.head.op x.head.v.k x.head.v.n x.head.c x.head.v.s v ak ae bk be ck ce types gr w hO hR htb (by rw [har, hl]; rfl) hv he
  have hte : (⟨x.head.op, ⟨x.head.v.k, x.head.v.n, x.head.v.s⟩, x.head.c⟩ : Tm) = x.head := rfl
  rw [hte] at hC
  have ih1 := ih x1 (by rw [hx]; simp)
  have Hok1 := Lib.hid (foldT_good types hTy x1 (hoks x1 (by rw [hx]; simp)))
  have IH1 := Lib.hid ih1
  clear ih1
  have Hfold := Lib.hid hfold
  have HC := Lib.hid hC
  have HO := Lib.hid hO
  have HT := Lib.hid hT
  have HR := Lib.hid hR
  have Hrest := Lib.hid hrest
  have hpl : (pos : Int) < (l.length : Int) := by omega
  clear hA hC hO hT hR hrest hfold hte har htb hoks hhd ih hH hTy
  generalize x.head = t at *
  obtain ⟨o, ⟨tk, tn, ts⟩, tc⟩ := t
  simp only at *
  obtain ⟨hq2, _⟩ := bcell (al2 w (.cells #[.int .i64 0, .int .i64 0] 221) (.cells #[.int .i64 0, .int .i64 0, .int .i64 0, .int .i64 0, .int .i64 0, .int .i64 0] 224))
  go_enter Tryz.func185, Tryz.ntmps185
  go_wp2_with fail
  refine (HA.out _ (HO.out.below (al2 _ _ _))).mono ?_
  rintro e w' ⟨rfl, rfl⟩
  go_wp2_with fail
  have HD := Lib.hid (Rd.start w 221 224 #[.int .i64 0, .int .i64 0] #[.int .i64 0, .int .i64 0, .int .i64 0, .int .i64 0, .int .i64 0, .int .i64 0])
  generalize (w.alloc (.cells #[.int .i64 0, .int .i64 0] 221)).alloc (.cells #[.int .i64 0, .int .i64 0, .int .i64 0, .int .i64 0, .int .i64 0, .int .i64 0] 224) = w0 at *
  clear hq2
  refine wp_loop_rounds 2 ?_
  have hH1 : Hid (Head (l.drop (pos + 1)) x1 (flats [] ++ r)) := by
    refine ⟨?_, by have h := (Ex.ok_iff x).1 hok; exact h.2.2 x1 (by rw [hx]; simp)⟩
    rw [Hrest.out]; simp [flats]
  rw [rounds_succ]
  go_wp2_with fail
  refine (IH1.out (pos + 1) _ hH1 (by omega) _ (HO.out.below HD.out.below) (HT.out.later HD.out.below) (HR.out.below HD.out.below)).mono ?_
  rintro e w1 ⟨k1, m1, q1, hv1, hq1, rfl, hb⟩
  replace HD := Lib.hid (HD.out.step hb)
  obtain ⟨a0, a1, a2, a3, a4, a5⟩ := box6 HD.out.ops
  obtain ⟨f0, f1, f2, f3, f4, f5⟩ := box6f HD.out.ops
  clear hb
  go_wp2_with fail
  clear a0 a1 a2 a3 a4 a5 f0 f1 f2 f3 f4 f5
  replace HD := Lib.hid (HD.out.set2 (C' := #[.int .i64 k1, .int .i64 m1, .int .i64 0, .int .i64 0, .int .i64 0, .int .i64 0]) 0 1 (.int .i64 k1) (.int .i64 m1) rfl)
  generalize ((w1.setCell ⟨w.heap.size + 1, 0, none⟩ (.int .i64 k1)).setCell ⟨w.heap.size + 1, 1, none⟩ (.int .i64 m1)) = w1' at *
  have hval : Hid (∀ p ∈ ([(k1, m1)] : List (Int × Int)), GoodP p) := by
    intro v hv
    simp only [List.mem_cons, List.not_mem_nil, or_false] at hv
    subst hv; rw [← hv1.out]; exact Hok1.out
  have hres : Hid (x.fold (tyT types) = tyT types ⟨o, ⟨tk, tn, ts⟩, tc⟩ [(k1, m1)]) := by
    unfold Hid
    rw [Hfold.out]
    simp only [List.map_cons, List.map_nil, hv1.out]
  have hend : Hid (q1 ≤ l.length ∧ l.drop (q1) = r) := ⟨hq1.out.1, by rw [hq1.out.2]; simp [flats]⟩
  rw [rounds_succ]
  obtain ⟨hq0, _⟩ := bcell HD.out.below
  obtain ⟨a0, a1, a2, a3, a4, a5⟩ := box6 HD.out.ops
  obtain ⟨e0, e1, f0, f1⟩ := box2 HD.out.res
  go_wp2_with fail
  go_region_law (go_simp; go_at_call 186; first | (refine (HC.out [(k1, m1)] k1 m1 0 0 0 0 _ (HO.out.below HD.out.below) (HR.out.below HD.out.below) rfl hval.out rfl).mono ?_; rintro e w5 ⟨k, m, hv, rfl, hb⟩; replace HD := Lib.hid (HD.out.step hb); clear hb e0 e1 f0 f1; obtain ⟨e0, e1, f0, f1⟩ := box2 HD.out.res) | (refine (HC.out [(k1, m1)] k1 m1 0 0 0 0 _ (HO.out.below HD.out.draw.below) (HR.out.below HD.out.draw.below) rfl hval.out rfl).mono ?_; rintro e w5 ⟨k, m, hv, rfl, hb⟩; replace HD := Lib.hid (HD.out.draw.step hb); clear hb e0 e1 f0 f1; obtain ⟨e0, e1, f0, f1⟩ := box2 HD.out.res))
  all_goals
    go_wp2_with fail
    refine bodyPost_ret (by simp [results, Tryz.results185, go_sem, e0, e1]; rfl) rfl ?_
    exact ⟨k, m, q1, hres.out.trans hv.out, hend, by first | rfl | (congr 3; omega) | simp, HD.out.fin2⟩
theorem reduceT_2 (ao : Option Addr) (cap : Nat) (l : List Tm) (hl : l.length ≤ 64) (types : List Int) (gr : Nat) (x : Ex) (x1 : Ex) (x2 : Ex) (hx : x.args = [x1, x2]) (hok : x.ok) (hTy : ∀ k ∈ types, k = 1 ∨ k = 2)
    (ih : ∀ a ∈ x.args, ∀ (pos : Nat) (r : List Tm), Hid (Head (l.drop pos) a r) → pos ≤ l.length → ∀ w : World, Ops w → TmsAt w w.heap.size ao l → TysIn w gr types → Calls Tryz.prog 185 #[.slice ao l.length cap, .int .i64 pos, .func (.func 186) #[] #[.pointer (some ⟨gr, 0, none⟩)]] w (RedT l (a.fold (tyT types)) r w))
    (pos : Nat) (r : List Tm) (hH : Hid (Head (l.drop pos) x r)) (hp : pos ≤ l.length) (w : World) (hO : Ops w) (hT : TmsAt w w.heap.size ao l) (hR : TysIn w gr types) :
    Calls Tryz.prog 185 #[.slice ao l.length cap, .int .i64 pos, .func (.func 186) #[] #[.pointer (some ⟨gr, 0, none⟩)]] w (RedT l (x.fold (tyT types)) r w) := by
  obtain ⟨hlt, hhd, hrest⟩ := head_at hH.out hp
  obtain ⟨htb, har, hoks⟩ := (Ex.ok_iff x).1 hok
  obtain ⟨b, off, rfl, _⟩ := hT.form (by omega)
  obtain ⟨c0, c1, c2, c3, c4⟩ := RAt.tm hT hlt
  rw [hhd] at c0 c1 c2 c3 c4
  have hfold := Ex.fold_eq (tyT types) x
  rw [hx] at hfold har hrest
  have hbl : b < w.heap.size := World.block_lt_of_cell? w _ c0
  have hA := fun w hO => arity_any x.head.op w hO
  rw [har] at hA
  have HA := Lib.hid hA
  have hC := fun (v : List (Int × Int)) (ak ae bk be ck ce : Int) w hO hR (hl : v.length = 2) hv he => typeC_any x.head.op x.head.v.k x.head.v.n x.head.c x.head.v.s v ak ae bk be ck ce types gr w hO hR htb (by rw [har, hl]; rfl) hv he
  have hte : (⟨x.head.op, ⟨x.head.v.k, x.head.v.n, x.head.v.s⟩, x.head.c⟩ : Tm) = x.head := rfl
  rw [hte] at hC
  have ih1 := ih x1 (by rw [hx]; simp)
  have Hok1 := Lib.hid (foldT_good types hTy x1 (hoks x1 (by rw [hx]; simp)))
  have IH1 := Lib.hid ih1
  clear ih1
  have ih2 := ih x2 (by rw [hx]; simp)
  have Hok2 := Lib.hid (foldT_good types hTy x2 (hoks x2 (by rw [hx]; simp)))
  have IH2 := Lib.hid ih2
  clear ih2
  have Hfold := Lib.hid hfold
  have HC := Lib.hid hC
  have HO := Lib.hid hO
  have HT := Lib.hid hT
  have HR := Lib.hid hR
  have Hrest := Lib.hid hrest
  have hpl : (pos : Int) < (l.length : Int) := by omega
  clear hA hC hO hT hR hrest hfold hte har htb hoks hhd ih hH hTy
  generalize x.head = t at *
  obtain ⟨o, ⟨tk, tn, ts⟩, tc⟩ := t
  simp only at *
  obtain ⟨hq2, _⟩ := bcell (al2 w (.cells #[.int .i64 0, .int .i64 0] 221) (.cells #[.int .i64 0, .int .i64 0, .int .i64 0, .int .i64 0, .int .i64 0, .int .i64 0] 224))
  go_enter Tryz.func185, Tryz.ntmps185
  go_wp2_with fail
  refine (HA.out _ (HO.out.below (al2 _ _ _))).mono ?_
  rintro e w' ⟨rfl, rfl⟩
  go_wp2_with fail
  have HD := Lib.hid (Rd.start w 221 224 #[.int .i64 0, .int .i64 0] #[.int .i64 0, .int .i64 0, .int .i64 0, .int .i64 0, .int .i64 0, .int .i64 0])
  generalize (w.alloc (.cells #[.int .i64 0, .int .i64 0] 221)).alloc (.cells #[.int .i64 0, .int .i64 0, .int .i64 0, .int .i64 0, .int .i64 0, .int .i64 0] 224) = w0 at *
  clear hq2
  refine wp_loop_rounds 3 ?_
  have hH1 : Hid (Head (l.drop (pos + 1)) x1 (flats [x2] ++ r)) := by
    refine ⟨?_, by have h := (Ex.ok_iff x).1 hok; exact h.2.2 x1 (by rw [hx]; simp)⟩
    rw [Hrest.out]; simp [flats]
  rw [rounds_succ]
  go_wp2_with fail
  refine (IH1.out (pos + 1) _ hH1 (by omega) _ (HO.out.below HD.out.below) (HT.out.later HD.out.below) (HR.out.below HD.out.below)).mono ?_
  rintro e w1 ⟨k1, m1, q1, hv1, hq1, rfl, hb⟩
  replace HD := Lib.hid (HD.out.step hb)
  obtain ⟨a0, a1, a2, a3, a4, a5⟩ := box6 HD.out.ops
  obtain ⟨f0, f1, f2, f3, f4, f5⟩ := box6f HD.out.ops
  clear hb
  go_wp2_with fail
  clear a0 a1 a2 a3 a4 a5 f0 f1 f2 f3 f4 f5
  replace HD := Lib.hid (HD.out.set2 (C' := #[.int .i64 k1, .int .i64 m1, .int .i64 0, .int .i64 0, .int .i64 0, .int .i64 0]) 0 1 (.int .i64 k1) (.int .i64 m1) rfl)
  generalize ((w1.setCell ⟨w.heap.size + 1, 0, none⟩ (.int .i64 k1)).setCell ⟨w.heap.size + 1, 1, none⟩ (.int .i64 m1)) = w1' at *
  have hH2 : Hid (Head (l.drop (q1)) x2 (flats [] ++ r)) := by
    refine ⟨?_, by have h := (Ex.ok_iff x).1 hok; exact h.2.2 x2 (by rw [hx]; simp)⟩
    rw [hq1.out.2]; simp [flats]
  rw [rounds_succ]
  go_wp2_with fail
  refine (IH2.out (q1) _ hH2 hq1.out.1 _ (HO.out.below HD.out.below) (HT.out.later HD.out.below) (HR.out.below HD.out.below)).mono ?_
  rintro e w2 ⟨k2, m2, q2, hv2, hq2, rfl, hb⟩
  replace HD := Lib.hid (HD.out.step hb)
  obtain ⟨a0, a1, a2, a3, a4, a5⟩ := box6 HD.out.ops
  obtain ⟨f0, f1, f2, f3, f4, f5⟩ := box6f HD.out.ops
  clear hb
  go_wp2_with fail
  clear a0 a1 a2 a3 a4 a5 f0 f1 f2 f3 f4 f5
  replace HD := Lib.hid (HD.out.set2 (C' := #[.int .i64 k1, .int .i64 m1, .int .i64 k2, .int .i64 m2, .int .i64 0, .int .i64 0]) 2 3 (.int .i64 k2) (.int .i64 m2) rfl)
  generalize ((w2.setCell ⟨w.heap.size + 1, 2, none⟩ (.int .i64 k2)).setCell ⟨w.heap.size + 1, 3, none⟩ (.int .i64 m2)) = w2' at *
  have hval : Hid (∀ p ∈ ([(k1, m1), (k2, m2)] : List (Int × Int)), GoodP p) := by
    intro v hv
    simp only [List.mem_cons, List.not_mem_nil, or_false] at hv
    rcases hv with rfl | rfl
    · rw [← hv1.out]; exact Hok1.out
    · rw [← hv2.out]; exact Hok2.out
  have hres : Hid (x.fold (tyT types) = tyT types ⟨o, ⟨tk, tn, ts⟩, tc⟩ [(k1, m1), (k2, m2)]) := by
    unfold Hid
    rw [Hfold.out]
    simp only [List.map_cons, List.map_nil, hv1.out, hv2.out]
  have hend : Hid (q2 ≤ l.length ∧ l.drop (q2) = r) := ⟨hq2.out.1, by rw [hq2.out.2]; simp [flats]⟩
  rw [rounds_succ]
  obtain ⟨hq0, _⟩ := bcell HD.out.below
  obtain ⟨a0, a1, a2, a3, a4, a5⟩ := box6 HD.out.ops
  obtain ⟨e0, e1, f0, f1⟩ := box2 HD.out.res
  go_wp2_with fail
  go_region_law (go_simp; go_at_call 186; first | (refine (HC.out [(k1, m1), (k2, m2)] k1 m1 k2 m2 0 0 _ (HO.out.below HD.out.below) (HR.out.below HD.out.below) rfl hval.out rfl).mono ?_; rintro e w5 ⟨k, m, hv, rfl, hb⟩; replace HD := Lib.hid (HD.out.step hb); clear hb e0 e1 f0 f1; obtain ⟨e0, e1, f0, f1⟩ := box2 HD.out.res) | (refine (HC.out [(k1, m1), (k2, m2)] k1 m1 k2 m2 0 0 _ (HO.out.below HD.out.draw.below) (HR.out.below HD.out.draw.below) rfl hval.out rfl).mono ?_; rintro e w5 ⟨k, m, hv, rfl, hb⟩; replace HD := Lib.hid (HD.out.draw.step hb); clear hb e0 e1 f0 f1; obtain ⟨e0, e1, f0, f1⟩ := box2 HD.out.res))
  all_goals
    go_wp2_with fail
    refine bodyPost_ret (by simp [results, Tryz.results185, go_sem, e0, e1]; rfl) rfl ?_
    exact ⟨k, m, q2, hres.out.trans hv.out, hend, by first | rfl | (congr 3; omega) | simp, HD.out.fin2⟩
theorem reduceT_3 (ao : Option Addr) (cap : Nat) (l : List Tm) (hl : l.length ≤ 64) (types : List Int) (gr : Nat) (x : Ex) (x1 : Ex) (x2 : Ex) (x3 : Ex) (hx : x.args = [x1, x2, x3]) (hok : x.ok) (hTy : ∀ k ∈ types, k = 1 ∨ k = 2)
    (ih : ∀ a ∈ x.args, ∀ (pos : Nat) (r : List Tm), Hid (Head (l.drop pos) a r) → pos ≤ l.length → ∀ w : World, Ops w → TmsAt w w.heap.size ao l → TysIn w gr types → Calls Tryz.prog 185 #[.slice ao l.length cap, .int .i64 pos, .func (.func 186) #[] #[.pointer (some ⟨gr, 0, none⟩)]] w (RedT l (a.fold (tyT types)) r w))
    (pos : Nat) (r : List Tm) (hH : Hid (Head (l.drop pos) x r)) (hp : pos ≤ l.length) (w : World) (hO : Ops w) (hT : TmsAt w w.heap.size ao l) (hR : TysIn w gr types) :
    Calls Tryz.prog 185 #[.slice ao l.length cap, .int .i64 pos, .func (.func 186) #[] #[.pointer (some ⟨gr, 0, none⟩)]] w (RedT l (x.fold (tyT types)) r w) := by
  obtain ⟨hlt, hhd, hrest⟩ := head_at hH.out hp
  obtain ⟨htb, har, hoks⟩ := (Ex.ok_iff x).1 hok
  obtain ⟨b, off, rfl, _⟩ := hT.form (by omega)
  obtain ⟨c0, c1, c2, c3, c4⟩ := RAt.tm hT hlt
  rw [hhd] at c0 c1 c2 c3 c4
  have hfold := Ex.fold_eq (tyT types) x
  rw [hx] at hfold har hrest
  have hbl : b < w.heap.size := World.block_lt_of_cell? w _ c0
  have hA := fun w hO => arity_any x.head.op w hO
  rw [har] at hA
  have HA := Lib.hid hA
  have hC := fun (v : List (Int × Int)) (ak ae bk be ck ce : Int) w hO hR (hl : v.length = 3) hv he => typeC_any x.head.op x.head.v.k x.head.v.n x.head.c x.head.v.s v ak ae bk be ck ce types gr w hO hR htb (by rw [har, hl]; rfl) hv he
  have hte : (⟨x.head.op, ⟨x.head.v.k, x.head.v.n, x.head.v.s⟩, x.head.c⟩ : Tm) = x.head := rfl
  rw [hte] at hC
  have ih1 := ih x1 (by rw [hx]; simp)
  have Hok1 := Lib.hid (foldT_good types hTy x1 (hoks x1 (by rw [hx]; simp)))
  have IH1 := Lib.hid ih1
  clear ih1
  have ih2 := ih x2 (by rw [hx]; simp)
  have Hok2 := Lib.hid (foldT_good types hTy x2 (hoks x2 (by rw [hx]; simp)))
  have IH2 := Lib.hid ih2
  clear ih2
  have ih3 := ih x3 (by rw [hx]; simp)
  have Hok3 := Lib.hid (foldT_good types hTy x3 (hoks x3 (by rw [hx]; simp)))
  have IH3 := Lib.hid ih3
  clear ih3
  have Hfold := Lib.hid hfold
  have HC := Lib.hid hC
  have HO := Lib.hid hO
  have HT := Lib.hid hT
  have HR := Lib.hid hR
  have Hrest := Lib.hid hrest
  have hpl : (pos : Int) < (l.length : Int) := by omega
  clear hA hC hO hT hR hrest hfold hte har htb hoks hhd ih hH hTy
  generalize x.head = t at *
  obtain ⟨o, ⟨tk, tn, ts⟩, tc⟩ := t
  simp only at *
  obtain ⟨hq2, _⟩ := bcell (al2 w (.cells #[.int .i64 0, .int .i64 0] 221) (.cells #[.int .i64 0, .int .i64 0, .int .i64 0, .int .i64 0, .int .i64 0, .int .i64 0] 224))
  go_enter Tryz.func185, Tryz.ntmps185
  go_wp2_with fail
  refine (HA.out _ (HO.out.below (al2 _ _ _))).mono ?_
  rintro e w' ⟨rfl, rfl⟩
  go_wp2_with fail
  have HD := Lib.hid (Rd.start w 221 224 #[.int .i64 0, .int .i64 0] #[.int .i64 0, .int .i64 0, .int .i64 0, .int .i64 0, .int .i64 0, .int .i64 0])
  generalize (w.alloc (.cells #[.int .i64 0, .int .i64 0] 221)).alloc (.cells #[.int .i64 0, .int .i64 0, .int .i64 0, .int .i64 0, .int .i64 0, .int .i64 0] 224) = w0 at *
  clear hq2
  refine wp_loop_rounds 4 ?_
  have hH1 : Hid (Head (l.drop (pos + 1)) x1 (flats [x2, x3] ++ r)) := by
    refine ⟨?_, by have h := (Ex.ok_iff x).1 hok; exact h.2.2 x1 (by rw [hx]; simp)⟩
    rw [Hrest.out]; simp [flats]
  rw [rounds_succ]
  go_wp2_with fail
  refine (IH1.out (pos + 1) _ hH1 (by omega) _ (HO.out.below HD.out.below) (HT.out.later HD.out.below) (HR.out.below HD.out.below)).mono ?_
  rintro e w1 ⟨k1, m1, q1, hv1, hq1, rfl, hb⟩
  replace HD := Lib.hid (HD.out.step hb)
  obtain ⟨a0, a1, a2, a3, a4, a5⟩ := box6 HD.out.ops
  obtain ⟨f0, f1, f2, f3, f4, f5⟩ := box6f HD.out.ops
  clear hb
  go_wp2_with fail
  clear a0 a1 a2 a3 a4 a5 f0 f1 f2 f3 f4 f5
  replace HD := Lib.hid (HD.out.set2 (C' := #[.int .i64 k1, .int .i64 m1, .int .i64 0, .int .i64 0, .int .i64 0, .int .i64 0]) 0 1 (.int .i64 k1) (.int .i64 m1) rfl)
  generalize ((w1.setCell ⟨w.heap.size + 1, 0, none⟩ (.int .i64 k1)).setCell ⟨w.heap.size + 1, 1, none⟩ (.int .i64 m1)) = w1' at *
  have hH2 : Hid (Head (l.drop (q1)) x2 (flats [x3] ++ r)) := by
    refine ⟨?_, by have h := (Ex.ok_iff x).1 hok; exact h.2.2 x2 (by rw [hx]; simp)⟩
    rw [hq1.out.2]; simp [flats]
  rw [rounds_succ]
  go_wp2_with fail
  refine (IH2.out (q1) _ hH2 hq1.out.1 _ (HO.out.below HD.out.below) (HT.out.later HD.out.below) (HR.out.below HD.out.below)).mono ?_
  rintro e w2 ⟨k2, m2, q2, hv2, hq2, rfl, hb⟩
  replace HD := Lib.hid (HD.out.step hb)
  obtain ⟨a0, a1, a2, a3, a4, a5⟩ := box6 HD.out.ops
  obtain ⟨f0, f1, f2, f3, f4, f5⟩ := box6f HD.out.ops
  clear hb
  go_wp2_with fail
  clear a0 a1 a2 a3 a4 a5 f0 f1 f2 f3 f4 f5
  replace HD := Lib.hid (HD.out.set2 (C' := #[.int .i64 k1, .int .i64 m1, .int .i64 k2, .int .i64 m2, .int .i64 0, .int .i64 0]) 2 3 (.int .i64 k2) (.int .i64 m2) rfl)
  generalize ((w2.setCell ⟨w.heap.size + 1, 2, none⟩ (.int .i64 k2)).setCell ⟨w.heap.size + 1, 3, none⟩ (.int .i64 m2)) = w2' at *
  have hH3 : Hid (Head (l.drop (q2)) x3 (flats [] ++ r)) := by
    refine ⟨?_, by have h := (Ex.ok_iff x).1 hok; exact h.2.2 x3 (by rw [hx]; simp)⟩
    rw [hq2.out.2]; simp [flats]
  rw [rounds_succ]
  go_wp2_with fail
  refine (IH3.out (q2) _ hH3 hq2.out.1 _ (HO.out.below HD.out.below) (HT.out.later HD.out.below) (HR.out.below HD.out.below)).mono ?_
  rintro e w3 ⟨k3, m3, q3, hv3, hq3, rfl, hb⟩
  replace HD := Lib.hid (HD.out.step hb)
  obtain ⟨a0, a1, a2, a3, a4, a5⟩ := box6 HD.out.ops
  obtain ⟨f0, f1, f2, f3, f4, f5⟩ := box6f HD.out.ops
  clear hb
  go_wp2_with fail
  clear a0 a1 a2 a3 a4 a5 f0 f1 f2 f3 f4 f5
  replace HD := Lib.hid (HD.out.set2 (C' := #[.int .i64 k1, .int .i64 m1, .int .i64 k2, .int .i64 m2, .int .i64 k3, .int .i64 m3]) 4 5 (.int .i64 k3) (.int .i64 m3) rfl)
  generalize ((w3.setCell ⟨w.heap.size + 1, 4, none⟩ (.int .i64 k3)).setCell ⟨w.heap.size + 1, 5, none⟩ (.int .i64 m3)) = w3' at *
  have hval : Hid (∀ p ∈ ([(k1, m1), (k2, m2), (k3, m3)] : List (Int × Int)), GoodP p) := by
    intro v hv
    simp only [List.mem_cons, List.not_mem_nil, or_false] at hv
    rcases hv with rfl | rfl | rfl
    · rw [← hv1.out]; exact Hok1.out
    · rw [← hv2.out]; exact Hok2.out
    · rw [← hv3.out]; exact Hok3.out
  have hres : Hid (x.fold (tyT types) = tyT types ⟨o, ⟨tk, tn, ts⟩, tc⟩ [(k1, m1), (k2, m2), (k3, m3)]) := by
    unfold Hid
    rw [Hfold.out]
    simp only [List.map_cons, List.map_nil, hv1.out, hv2.out, hv3.out]
  have hend : Hid (q3 ≤ l.length ∧ l.drop (q3) = r) := ⟨hq3.out.1, by rw [hq3.out.2]; simp [flats]⟩
  rw [rounds_succ]
  obtain ⟨hq0, _⟩ := bcell HD.out.below
  obtain ⟨a0, a1, a2, a3, a4, a5⟩ := box6 HD.out.ops
  obtain ⟨e0, e1, f0, f1⟩ := box2 HD.out.res
  go_wp2_with fail
  go_region_law (go_simp; go_at_call 186; first | (refine (HC.out [(k1, m1), (k2, m2), (k3, m3)] k1 m1 k2 m2 k3 m3 _ (HO.out.below HD.out.below) (HR.out.below HD.out.below) rfl hval.out rfl).mono ?_; rintro e w5 ⟨k, m, hv, rfl, hb⟩; replace HD := Lib.hid (HD.out.step hb); clear hb e0 e1 f0 f1; obtain ⟨e0, e1, f0, f1⟩ := box2 HD.out.res) | (refine (HC.out [(k1, m1), (k2, m2), (k3, m3)] k1 m1 k2 m2 k3 m3 _ (HO.out.below HD.out.draw.below) (HR.out.below HD.out.draw.below) rfl hval.out rfl).mono ?_; rintro e w5 ⟨k, m, hv, rfl, hb⟩; replace HD := Lib.hid (HD.out.draw.step hb); clear hb e0 e1 f0 f1; obtain ⟨e0, e1, f0, f1⟩ := box2 HD.out.res))
  all_goals
    go_wp2_with fail
    refine bodyPost_ret (by simp [results, Tryz.results185, go_sem, e0, e1]; rfl) rfl ?_
    exact ⟨k, m, q3, hres.out.trans hv.out, hend, by first | rfl | (congr 3; omega) | simp, HD.out.fin2⟩
theorem reduceT_any (ao : Option Addr) (cap : Nat) (l : List Tm) (hl : l.length ≤ 64) (types : List Int) (gr : Nat) (hTy : ∀ k ∈ types, k = 1 ∨ k = 2) : ∀ x : Ex, x.ok → ∀ (pos : Nat) (r : List Tm), Hid (Head (l.drop pos) x r) → pos ≤ l.length → ∀ w : World, Ops w → TmsAt w w.heap.size ao l → TysIn w gr types →
    Calls Tryz.prog 185 #[.slice ao l.length cap, .int .i64 pos, .func (.func 186) #[] #[.pointer (some ⟨gr, 0, none⟩)]] w (RedT l (x.fold (tyT types)) r w) := by
  intro x
  induction x using Ex.ind with
  | h x ih =>
    intro hok pos r hH hp w hO hT hR
    have ih' := fun a ha => ih a ha (((Ex.ok_iff x).1 hok).2.2 a ha)
    have h3 := x.args_le
    rcases hx : x.args with _ | ⟨a, _ | ⟨b, _ | ⟨c, _ | ⟨d, e⟩⟩⟩⟩
    · exact reduceT_0 ao cap l hl types gr x hx hok hTy ih' pos r hH hp w hO hT hR
    · exact reduceT_1 ao cap l hl types gr x a hx hok hTy ih' pos r hH hp w hO hT hR
    · exact reduceT_2 ao cap l hl types gr x a b hx hok hTy ih' pos r hH hp w hO hT hR
    · exact reduceT_3 ao cap l hl types gr x a b c hx hok hTy ih' pos r hH hp w hO hT hR
    · rw [hx] at h3; simp at h3
end Go.Proofs.YtenonljnldbkiaaGreatDoor
/- Type of package expr. -/
namespace Go.Proofs.YtenonljnldbkiaaGreatDoor
open Go.RowKit Go.Proofs.EB
set_option maxHeartbeats 4000000
set_option maxRecDepth 100000
attribute [local go_sem] World.cell?_alloc_some
/-- The index of the first that is no type, or -1. -/
def IdxT (types : List Int) (w : World) (e : Ending) (w' : World) : Prop := ∃ z : Int, Hid ((0 ≤ z) ↔ ∃ k ∈ types, noTy k = true) ∧ e = .returned (.int .i64 z) ∧ Below w.heap.size w w'
theorem idxTypes_any (to_ : Option Addr) (cap : Nat) (types : List Int) (hl : types.length ≤ maxLen) (w : World) (hI : RAt encInt 1 w w.heap.size to_ types) :
    Calls Tryz.prog 95 #[.slice to_ types.length cap, .func (.func 184) #[] #[]] w (IdxT types w) := by
  unfold maxLen at hl
  have HI := Lib.hid hI
  clear hI
  go_enter Tryz.func95, Tryz.ntmps95
  go_wp2_with fail
  go_loopw [8] (fun i wr => ∃ k : Nat, k ≤ types.length ∧ i = .int .i64 k ∧ Hid (Below w.heap.size w wr ∧ ∀ j (h : j < types.length), j < k → noTy types[j] = false)) (fun i _ => types.length - (intOf i).toNat)
  case atStart => exact ⟨0, Nat.zero_le _, rfl, Below.refl _ _, fun j _ h => absurd h (by omega)⟩
  case round =>
    obtain ⟨k, hk, rfl, hX⟩ := hrel
    by_cases hlt : k < types.length
    · obtain ⟨b, off, rfl, _⟩ := HI.out.form (by omega)
      have c0 := RAt.cell (HI.out.later hX.out.1) hlt (j := 0) (u := .int .i64 types[k]) rfl
      simp only [Nat.mul_one, Nat.add_zero] at c0
      have hmem := Lib.hid (List.getElem_mem hlt)
      have Hj := Lib.hid (show ∀ j (h : j < types.length), j = k → noTy types[j] = noTy types[k] from fun j h e => by subst e; rfl)
      have hN := fun w => isNoType_any types[k] w
      obtain ⟨v, hv⟩ : ∃ v, v = noTy types[k] := ⟨_, rfl⟩
      rw [← hv] at hN Hj
      have Hv := Lib.hid hv
      have HN := Lib.hid hN
      have hlt2 : k + 1 ≤ types.length := hlt
      clear hN hv
      generalize types[k] = s at *
      cases v
      · go_wp2_with fail
        refine (HN.out _).mono ?_
        rintro e w1 ⟨rfl, rfl⟩
        go_wp2_with fail
        go_roundw
        case rel =>
          refine ⟨k + 1, hlt2, by go_num, hX.out.1, fun j hj hjk => ?_⟩
          by_cases hje : j < k
          · exact hX.out.2 j hj hje
          · exact (Hj.out j hj (by omega)).trans rfl
        case measure => simp [intOf]; omega
      · go_wp2_with fail
        refine (HN.out _).mono ?_
        rintro e w1 ⟨rfl, rfl⟩
        go_wp2_with fail
        go_ret
        exact ⟨k, ⟨fun _ => ⟨s, hmem.out, Hv.out.symm⟩, fun _ => by omega⟩, rfl, hX.out.1⟩
    · have hkk : k = types.length := by omega
      go_wp2_with fail
      go_ret
      refine ⟨-1, ⟨fun h => by omega, ?_⟩, rfl, hX.out.1⟩
      rintro ⟨s, hs, hv⟩
      obtain ⟨j, hj, rfl⟩ := List.mem_iff_getElem.1 hs
      have := hX.out.2 j hj (by omega)
      rw [hv] at this; cases this
theorem anyTypes_any (to_ : Option Addr) (cap : Nat) (types : List Int) (hl : types.length ≤ maxLen) (w : World) (hI : RAt encInt 1 w w.heap.size to_ types) :
    Calls Tryz.prog 54 #[.slice to_ types.length cap, .func (.func 184) #[] #[]] w (Gives (.bool (types.any noTy)) w) := by
  have HX := Lib.hid (idxTypes_any to_ cap types hl w hI)
  clear hI
  go_enter Tryz.func54, Tryz.ntmps54
  go_wp2_with fail
  refine HX.out.mono ?_
  rintro e w1 ⟨z, hz, rfl, hb⟩
  have hzb : Hid (decide (0 ≤ z) = types.any noTy) := by
    unfold Hid
    rw [Bool.eq_iff_iff, decide_eq_true_eq, hz.out, List.any_eq_true]
  go_wp2_with fail
  go_ret
  exact ⟨ret_b hzb.out, hb⟩
/-- The type of a list of terms, or its first error. -/
def tyL (types : List Int) (l : List Tm) : Int × Int := if validL l = false ∨ types.any noTy = true then (0, 1) else match treeL l with | some x => x.fold (tyT types) | none => (0, 1)
def TyRes (p : Int × Int) (w : World) (e : Ending) (w' : World) : Prop := ∃ k m, Hid (p = (k, m)) ∧ e = .returned (.tuple #[.int .i64 k, .int .i64 m]) ∧ Below w.heap.size w w'
theorem noTy_good {types : List Int} (h : types.any noTy = false) : ∀ k ∈ types, k = 1 ∨ k = 2 := by
  intro k hk
  have h1 := List.any_eq_false.1 h k hk
  unfold noTy at h1
  simp at h1
  omega
theorem exType_any (ao to_ : Option Addr) (cap tcap : Nat) (l : List Tm) (types : List Int) (hl : l.length ≤ maxLen) (hok : ∀ t ∈ l, t.okT) (htl : types.length ≤ maxLen) (w : World) (hO : Ops w) (hT : TmsAt w w.heap.size ao l) (hR : RAt encInt 1 w w.heap.size to_ types) :
    Calls Tryz.prog 181 #[.slice ao l.length cap, .slice to_ types.length tcap] w (TyRes (tyL types l) w) := by
  have hb1 := al1 w (.cells #[.slice to_ types.length tcap] 36)
  have n0 : (w.alloc (.cells #[.slice to_ types.length tcap] 36)).heap[w.heap.size]? = some (.cells #[.slice to_ types.length tcap] 36 (0, 0)) := heap_alloc_new _ _
  have hV := fun w hO hT => exValid_any ao cap l hl hok w hO hT
  have HN := Lib.hid (show Below w.heap.size w _ ∧ _ from ⟨hb1, n0⟩)
  have HO := Lib.hid hO
  have HT := Lib.hid hT
  have HR := Lib.hid hR
  cases hvl : validL l
  · have hres : Hid (tyL types l = (0, 1)) := by unfold Hid tyL; rw [if_pos (.inl hvl)]
    rw [hvl] at hV
    have HV := Lib.hid hV
    clear hV hO hT hR hvl hok hb1 n0
    go_enter Tryz.func181, Tryz.ntmps181
    go_wp2_with fail
    generalize (w.alloc (.cells #[.slice to_ types.length tcap] 36)) = w0 at *
    refine (HV.out _ (HO.out.below HN.out.1) (HT.out.later HN.out.1)).mono ?_
    rintro e w1 ⟨rfl, hb⟩
    have HB := Lib.hid (bt HN.out.1 hb)
    clear hb
    go_wp2_with fail
    go_ret2
    exact ⟨_, _, hres.out, rfl, HB.out⟩
  · have hA := fun w hR => anyTypes_any to_ tcap types htl w hR
    cases hta : types.any noTy
    · obtain ⟨x, hx, hH, hd, h64⟩ := validL_get hvl
      have hres : Hid (tyL types l = x.fold (tyT types)) := by unfold Hid tyL; rw [if_neg (by rw [hvl, hta]; simp), hx]
      have hgood := noTy_good hta
      have hY := fun w1 hO hT hR => reduceT_any ao cap l h64 types w.heap.size hgood x hH.2 0 [] (Lib.hid (by rw [List.drop_zero]; exact hH)) (Nat.zero_le _) w1 hO hT hR
      rw [hvl] at hV
      rw [hta] at hA
      have HV := Lib.hid hV
      have HA := Lib.hid hA
      have HY := Lib.hid hY
      have Hgood := Lib.hid hgood
      clear hV hA hO hT hR hvl hok hb1 n0 hY hx hH hd h64 hta hgood
      go_enter Tryz.func181, Tryz.ntmps181
      go_wp2_with fail
      generalize (w.alloc (.cells #[.slice to_ types.length tcap] 36)) = w0 at *
      refine (HV.out _ (HO.out.below HN.out.1) (HT.out.later HN.out.1)).mono ?_
      rintro e w1 ⟨rfl, hb⟩
      have HB := Lib.hid (bt HN.out.1 hb)
      have n0 := Lib.hid ((hb.block _ (Array.getElem?_eq_some_iff.1 HN.out.2).1).trans HN.out.2)
      have d0 : w1.cell? ⟨w.heap.size, 0, none⟩ = some (.slice to_ types.length tcap) := by simp [World.cell?, n0.out]
      clear hb
      go_wp2_with fail
      refine (HA.out _ (HR.out.later HB.out)).mono ?_
      rintro e w2 ⟨rfl, hb⟩
      replace HB := Lib.hid (bt HB.out hb)
      have n2 := Lib.hid ((hb.block _ (Array.getElem?_eq_some_iff.1 n0.out).1).trans n0.out)
      clear hb d0
      go_wp2_with fail
      refine (HY.out _ (HO.out.below HB.out) (HT.out.later HB.out) ⟨⟨to_, tcap, by simp [World.cell?, n2.out], HR.out.later HB.out⟩, Hgood.out, htl⟩).mono ?_
      rintro e w3 ⟨k, m, q, hv, _, rfl, hb⟩
      replace HB := Lib.hid (bt HB.out hb)
      clear hb
      go_wp2_with fail
      go_quiet (fail)
      go_wp2_with fail
      go_ret2
      have hB3 := bt HB.out (al1 w3 (.cells #[.int .i64 k, .int .i64 m] 221))
      exact ⟨k, m, hres.out.trans hv.out, rfl, ⟨hB3.os, hB3.tape, hB3.output, hB3.size, hB3.block⟩⟩
    · have hres : Hid (tyL types l = (0, 1)) := by unfold Hid tyL; rw [if_pos (.inr hta)]
      rw [hvl] at hV
      rw [hta] at hA
      have HV := Lib.hid hV
      have HA := Lib.hid hA
      clear hV hA hO hT hR hvl hok hb1 n0 hta
      go_enter Tryz.func181, Tryz.ntmps181
      go_wp2_with fail
      generalize (w.alloc (.cells #[.slice to_ types.length tcap] 36)) = w0 at *
      refine (HV.out _ (HO.out.below HN.out.1) (HT.out.later HN.out.1)).mono ?_
      rintro e w1 ⟨rfl, hb⟩
      have HB := Lib.hid (bt HN.out.1 hb)
      have n0 := Lib.hid ((hb.block _ (Array.getElem?_eq_some_iff.1 HN.out.2).1).trans HN.out.2)
      have d0 : w1.cell? ⟨w.heap.size, 0, none⟩ = some (.slice to_ types.length tcap) := by simp [World.cell?, n0.out]
      clear hb
      go_wp2_with fail
      refine (HA.out _ (HR.out.later HB.out)).mono ?_
      rintro e w2 ⟨rfl, hb⟩
      replace HB := Lib.hid (bt HB.out hb)
      clear hb d0
      go_wp2_with fail
      go_ret2
      exact ⟨_, _, hres.out, rfl, HB.out⟩
end Go.Proofs.YtenonljnldbkiaaGreatDoor
