/- Contracts of the functions Valid, Clean, ValidRow of package value and of its reference, and of long: what each returns, as plain functions of the values; old memory is not changed. -/
import Derived.Test.YtmikeifkmjhioaaGreatDoorEb
import Derived.Test.YtmikeifkmjhioaaGreatDoorChecked
namespace Go.Proofs.YtmikeifkmjhioaaGreatDoor
open Go.RowKit

def validB (k n : Int) (s : ByteArray) : Bool :=
  if k = 0 then (n == 0) && s.toList.isEmpty
  else if k = 1 then s.toList.isEmpty && (decide (-4294967296 ≤ n) && decide (n ≤ 4294967296))
  else if k = 2 then (n == 0) && decide (s.size ≤ 32)
  else false

structure V where
  k : Int
  n : Int
  s : ByteArray
def V.ok (v : V) : Prop := (-9223372036854775808 ≤ v.k ∧ v.k ≤ 9223372036854775807) ∧ (-9223372036854775808 ≤ v.n ∧ v.n ≤ 9223372036854775807) ∧ v.s.size ≤ maxLen
def V.zero : V := ⟨0, 0, ⟨#[]⟩⟩
def V.val (v : V) : Value := .agg #[.int .i64 v.k, .int .i64 v.n, .string v.s]
def vB (v : V) : Bool := validB v.k v.n v.s
def cleanV (v : V) : V := if vB v = true then v else V.zero
def VCells (w : World) (b o : Nat) (v : V) : Prop :=
  w.cell? ⟨b, o, none⟩ = some (.int .i64 v.k) ∧ w.cell? ⟨b, o + 1, none⟩ = some (.int .i64 v.n) ∧ w.cell? ⟨b, o + 2, none⟩ = some (.string v.s)
def RowAt (w : World) (B : Nat) (ao : Option Addr) (l : List V) : Prop :=
  (∀ v ∈ l, v.ok) ∧ (l = [] ∨ ∃ b off, ao = some ⟨b, off, none⟩ ∧ b < B ∧ ∀ i (h : i < l.length), VCells w b (off + i * 3) l[i])
theorem VCells.below {B : Nat} {w w' : World} {b o : Nat} {v : V} (h : VCells w b o v) (hb : Below B w w') (hlt : b < B) : VCells w' b o v :=
  ⟨(hb.cell hlt).trans h.1, (hb.cell hlt).trans h.2.1, (hb.cell hlt).trans h.2.2⟩
theorem RowAt.below {B : Nat} {w w' : World} {ao : Option Addr} {l : List V} (h : RowAt w B ao l) (hb : Below B w w') : RowAt w' B ao l := by
  refine ⟨h.1, ?_⟩
  rcases h.2 with h0 | ⟨b, off, ha, hlt, hc⟩
  · exact .inl h0
  · exact .inr ⟨b, off, ha, hlt, fun i hi => (hc i hi).below hb hlt⟩
theorem RowAt.mono {B B' : Nat} {w : World} {ao : Option Addr} {l : List V} (h : RowAt w B ao l) (hB : B ≤ B') : RowAt w B' ao l := by
  refine ⟨h.1, ?_⟩
  rcases h.2 with h0 | ⟨b, off, ha, hlt, hc⟩
  · exact .inl h0
  · exact .inr ⟨b, off, ha, by omega, hc⟩
theorem RowAt.at {B : Nat} {w : World} {ao : Option Addr} {l : List V} (h : RowAt w B ao l) {i : Nat} (hi : i < l.length) :
    ∃ b off k n s, ao = some ⟨b, off, none⟩ ∧ b < B ∧ l[i] = ⟨k, n, s⟩ ∧ (⟨k, n, s⟩ : V).ok ∧ w.cell? ⟨b, off + i * 3, none⟩ = some (.int .i64 k) ∧ w.cell? ⟨b, off + i * 3 + 1, none⟩ = some (.int .i64 n) ∧ w.cell? ⟨b, off + i * 3 + 2, none⟩ = some (.string s) := by
  rcases h.2 with h0 | ⟨b, off, ha, hlt, hc⟩
  · subst h0; simp at hi
  · obtain ⟨c1, c2, c3⟩ := hc i hi
    exact ⟨b, off, _, _, _, ha, hlt, rfl, h.1 _ (List.getElem_mem hi), c1, c2, c3⟩

theorem cleanV_ok {v : V} (h : v.ok) : (cleanV v).ok := by
  unfold cleanV; split
  · exact h
  · exact ⟨by simp [V.zero], by simp [V.zero], by simp [V.zero, maxLen, ByteArray.size]⟩
theorem cleanV_valid (v : V) : vB (cleanV v) = true := by
  unfold cleanV; split
  · assumption
  · simp [vB, validB, V.zero]
theorem cleanV_idem {v : V} (h : vB v = true) : cleanV v = v := by simp [cleanV, h]

theorem len_below {w w' : World} (h : Below w.heap.size w w') : w.heap.size ≤ w'.heap.size := h.size
set_option maxHeartbeats 400000
theorem valid_any (k n : Int) (s : ByteArray) (w : World) (hs : s.size ≤ maxLen) :
    Calls Tryz.prog 52 #[.agg #[.int .i64 k, .int .i64 n, .string s]] w fun e w' => e = .returned (.bool (validB k n s)) ∧ w' = w.alloc (.cells #[.int .i64 k, .int .i64 n, .string s] 31) := by
  unfold maxLen at hs
  go_enter Tryz.func52, Tryz.ntmps52
  go_wp2
  all_goals go_ret
  all_goals (simp only [beq_iff_eq, beq_eq_false_iff_ne, ne_eq] at *; simp [validB, *]; try omega)

theorem rvalid_any (k n : Int) (s : ByteArray) (w : World) (hs : s.size ≤ maxLen) :
    Calls Tryz.prog 93 #[.agg #[.int .i64 k, .int .i64 n, .string s]] w fun e w' => e = .returned (.bool (validB k n s)) ∧ w' = w.alloc (.cells #[.int .i64 k, .int .i64 n, .string s] 31) := by
  unfold maxLen at hs
  go_enter Tryz.func93, Tryz.ntmps93
  go_wp2
  all_goals go_ret
  all_goals (simp only [beq_iff_eq, beq_eq_false_iff_ne, ne_eq] at *; simp [validB, *]; try omega)

/-- What a call of Clean leaves: the clean value. -/
def CleanPost (v : V) (w : World) (e : Ending) (w' : World) : Prop := ∃ k n s, e = .returned (.agg #[.int .i64 k, .int .i64 n, .string s]) ∧ (⟨k, n, s⟩ : V) = cleanV v ∧ Below w.heap.size w w'

theorem clean_any (k n : Int) (s : ByteArray) (w : World) (hs : s.size ≤ maxLen) :
    Calls Tryz.prog 32 #[.agg #[.int .i64 k, .int .i64 n, .string s]] w (CleanPost ⟨k, n, s⟩ w) := by
  cases hv : validB k n s
  · go_enter Tryz.func32, Tryz.ntmps32
    go_wp2_with fail
    refine (valid_any _ _ _ _ hs).mono ?_
    rintro e w' ⟨rfl, rfl⟩
    go_wp2_with fail
    refine bodyPost_ret (v := .agg #[.int .i64 0, .int .i64 0, .string ⟨#[]⟩]) (by simp [results, Tryz.results32, go_sem]) rfl ⟨0, 0, ⟨#[]⟩, rfl, by simp [cleanV, vB, hv, V.zero], ?_⟩
    exact (((Below.refl _ _).alloc (by simp) _).alloc (by simp) _).alloc (by simp; omega) _
  · go_enter Tryz.func32, Tryz.ntmps32
    go_wp2_with fail
    refine (valid_any _ _ _ _ hs).mono ?_
    rintro e w' ⟨rfl, rfl⟩
    go_wp2_with fail
    refine bodyPost_ret (v := .agg #[.int .i64 k, .int .i64 n, .string s]) (by simp [results, Tryz.results32, go_sem]) rfl ⟨k, n, s, rfl, by simp [cleanV, vB, hv], ?_⟩
    exact (((Below.refl _ _).alloc (by simp) _).alloc (by simp) _).alloc (by simp; omega) _

theorem rclean_any (k n : Int) (s : ByteArray) (w : World) (hs : s.size ≤ maxLen) :
    Calls Tryz.prog 61 #[.agg #[.int .i64 k, .int .i64 n, .string s]] w (CleanPost ⟨k, n, s⟩ w) := by
  cases hv : validB k n s
  · go_enter Tryz.func61, Tryz.ntmps61
    go_wp2_with fail
    refine (rvalid_any _ _ _ _ hs).mono ?_
    rintro e w' ⟨rfl, rfl⟩
    go_wp2_with fail
    refine bodyPost_ret (v := .agg #[.int .i64 0, .int .i64 0, .string ⟨#[]⟩]) (by simp [results, Tryz.results61, go_sem]) rfl ⟨0, 0, ⟨#[]⟩, rfl, by simp [cleanV, vB, hv, V.zero], ?_⟩
    exact (((Below.refl _ _).alloc (by simp) _).alloc (by simp) _).alloc (by simp; omega) _
  · go_enter Tryz.func61, Tryz.ntmps61
    go_wp2_with fail
    refine (rvalid_any _ _ _ _ hs).mono ?_
    rintro e w' ⟨rfl, rfl⟩
    go_wp2_with fail
    refine bodyPost_ret (v := .agg #[.int .i64 k, .int .i64 n, .string s]) (by simp [results, Tryz.results61, go_sem]) rfl ⟨k, n, s, rfl, by simp [cleanV, vB, hv], ?_⟩
    exact (((Below.refl _ _).alloc (by simp) _).alloc (by simp) _).alloc (by simp; omega) _

end Go.Proofs.YtmikeifkmjhioaaGreatDoor
