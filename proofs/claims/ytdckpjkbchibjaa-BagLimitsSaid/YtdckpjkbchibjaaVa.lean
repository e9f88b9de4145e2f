/- Contracts of the functions Valid, Clean, ValidRow of package value and of its reference, and of long: what each returns, as plain functions of the values; old memory is not changed. -/
import Derived.Test.YtdckpjkbchibjaaEb
import Derived.Test.YtdckpjkbchibjaaChecked
namespace Go.Proofs.Ytdckpjkbchibjaa
open Go.RowKit

def validB (k n : Int) (s : ByteArray) : Bool :=
  if k = 0 then (n == 0) && s.toList.isEmpty
  else if k = 1 then s.toList.isEmpty && (decide (-4294967296 ≤ n) && decide (n ≤ 4294967296))
  else if k = 2 then (n == 0) && decide (s.size ≤ 32)
  else false

structure V where
  k : Int
  n : Int
  s : ByteArray
def V.ok (v : V) : Prop := (-9223372036854775808 ≤ v.k ∧ v.k ≤ 9223372036854775807) ∧ (-9223372036854775808 ≤ v.n ∧ v.n ≤ 9223372036854775807) ∧ v.s.size ≤ maxLen
def V.zero : V := ⟨0, 0, ⟨#[]⟩⟩
def V.val (v : V) : Value := .agg #[.int .i64 v.k, .int .i64 v.n, .string v.s]
def vB (v : V) : Bool := validB v.k v.n v.s
def cleanV (v : V) : V := if vB v = true then v else V.zero
def VCells (w : World) (b o : Nat) (v : V) : Prop :=
  w.cell? ⟨b, o, none⟩ = some (.int .i64 v.k) ∧ w.cell? ⟨b, o + 1, none⟩ = some (.int .i64 v.n) ∧ w.cell? ⟨b, o + 2, none⟩ = some (.string v.s)
def RowAt (w : World) (B : Nat) (ao : Option Addr) (l : List V) : Prop :=
  (∀ v ∈ l, v.ok) ∧ (l = [] ∨ ∃ b off, ao = some ⟨b, off, none⟩ ∧ b < B ∧ ∀ i (h : i < l.length), VCells w b (off + i * 3) l[i])
theorem VCells.below {B : Nat} {w w' : World} {b o : Nat} {v : V} (h : VCells w b o v) (hb : Below B w w') (hlt : b < B) : VCells w' b o v :=
  ⟨(hb.cell hlt).trans h.1, (hb.cell hlt).trans h.2.1, (hb.cell hlt).trans h.2.2⟩
theorem RowAt.below {B : Nat} {w w' : World} {ao : Option Addr} {l : List V} (h : RowAt w B ao l) (hb : Below B w w') : RowAt w' B ao l := by
  refine ⟨h.1, ?_⟩
  rcases h.2 with h0 | ⟨b, off, ha, hlt, hc⟩
  · exact .inl h0
  · exact .inr ⟨b, off, ha, hlt, fun i hi => (hc i hi).below hb hlt⟩
theorem RowAt.mono {B B' : Nat} {w : World} {ao : Option Addr} {l : List V} (h : RowAt w B ao l) (hB : B ≤ B') : RowAt w B' ao l := by
  refine ⟨h.1, ?_⟩
  rcases h.2 with h0 | ⟨b, off, ha, hlt, hc⟩
  · exact .inl h0
  · exact .inr ⟨b, off, ha, by omega, hc⟩
theorem RowAt.at {B : Nat} {w : World} {ao : Option Addr} {l : List V} (h : RowAt w B ao l) {i : Nat} (hi : i < l.length) :
    ∃ b off k n s, ao = some ⟨b, off, none⟩ ∧ b < B ∧ l[i] = ⟨k, n, s⟩ ∧ (⟨k, n, s⟩ : V).ok ∧ w.cell? ⟨b, off + i * 3, none⟩ = some (.int .i64 k) ∧ w.cell? ⟨b, off + i * 3 + 1, none⟩ = some (.int .i64 n) ∧ w.cell? ⟨b, off + i * 3 + 2, none⟩ = some (.string s) := by
  rcases h.2 with h0 | ⟨b, off, ha, hlt, hc⟩
  · subst h0; simp at hi
  · obtain ⟨c1, c2, c3⟩ := hc i hi
    exact ⟨b, off, _, _, _, ha, hlt, rfl, h.1 _ (List.getElem_mem hi), c1, c2, c3⟩

theorem cleanV_ok {v : V} (h : v.ok) : (cleanV v).ok := by
  unfold cleanV; split
  · exact h
  · exact ⟨by simp [V.zero], by simp [V.zero], by simp [V.zero, maxLen, ByteArray.size]⟩
theorem cleanV_valid (v : V) : vB (cleanV v) = true := by
  unfold cleanV; split
  · assumption
  · simp [vB, validB, V.zero]
theorem cleanV_idem {v : V} (h : vB v = true) : cleanV v = v := by simp [cleanV, h]

theorem len_below {w w' : World} (h : Below w.heap.size w w') : w.heap.size ≤ w'.heap.size := h.size
set_option maxHeartbeats 400000
theorem valid_any (k n : Int) (s : ByteArray) (w : World) (hs : s.size ≤ maxLen) :
    Calls Try.prog 73 #[.agg #[.int .i64 k, .int .i64 n, .string s]] w fun e w' => e = .returned (.bool (validB k n s)) ∧ w' = w.alloc (.cells #[.int .i64 k, .int .i64 n, .string s] 42) := by
  unfold maxLen at hs
  go_enter Try.func73, Try.ntmps73
  go_wp2
  all_goals go_ret
  all_goals (simp only [beq_iff_eq, beq_eq_false_iff_ne, ne_eq] at *; simp [validB, *]; try omega)

theorem rvalid_any (k n : Int) (s : ByteArray) (w : World) (hs : s.size ≤ maxLen) :
    Calls Try.prog 64 #[.agg #[.int .i64 k, .int .i64 n, .string s]] w fun e w' => e = .returned (.bool (validB k n s)) ∧ w' = w.alloc (.cells #[.int .i64 k, .int .i64 n, .string s] 42) := by
  unfold maxLen at hs
  go_enter Try.func64, Try.ntmps64
  go_wp2
  all_goals go_ret
  all_goals (simp only [beq_iff_eq, beq_eq_false_iff_ne, ne_eq] at *; simp [validB, *]; try omega)

/-- What a call of Clean leaves: the clean value. -/
def CleanPost (v : V) (w : World) (e : Ending) (w' : World) : Prop := ∃ k n s, e = .returned (.agg #[.int .i64 k, .int .i64 n, .string s]) ∧ (⟨k, n, s⟩ : V) = cleanV v ∧ Below w.heap.size w w'

theorem clean_any (k n : Int) (s : ByteArray) (w : World) (hs : s.size ≤ maxLen) :
    Calls Try.prog 77 #[.agg #[.int .i64 k, .int .i64 n, .string s]] w (CleanPost ⟨k, n, s⟩ w) := by
  cases hv : validB k n s
  · go_enter Try.func77, Try.ntmps77
    go_wp2_with fail
    refine (valid_any _ _ _ _ hs).mono ?_
    rintro e w' ⟨rfl, rfl⟩
    go_wp2_with fail
    refine bodyPost_ret (v := .agg #[.int .i64 0, .int .i64 0, .string ⟨#[]⟩]) (by simp [results, Try.results77, go_sem]) rfl ⟨0, 0, ⟨#[]⟩, rfl, by simp [cleanV, vB, hv, V.zero], ?_⟩
    exact (((Below.refl _ _).alloc (by simp) _).alloc (by simp) _).alloc (by simp; omega) _
  · go_enter Try.func77, Try.ntmps77
    go_wp2_with fail
    refine (valid_any _ _ _ _ hs).mono ?_
    rintro e w' ⟨rfl, rfl⟩
    go_wp2_with fail
    refine bodyPost_ret (v := .agg #[.int .i64 k, .int .i64 n, .string s]) (by simp [results, Try.results77, go_sem]) rfl ⟨k, n, s, rfl, by simp [cleanV, vB, hv], ?_⟩
    exact (((Below.refl _ _).alloc (by simp) _).alloc (by simp) _).alloc (by simp; omega) _

theorem rclean_any (k n : Int) (s : ByteArray) (w : World) (hs : s.size ≤ maxLen) :
    Calls Try.prog 50 #[.agg #[.int .i64 k, .int .i64 n, .string s]] w (CleanPost ⟨k, n, s⟩ w) := by
  cases hv : validB k n s
  · go_enter Try.func50, Try.ntmps50
    go_wp2_with fail
    refine (rvalid_any _ _ _ _ hs).mono ?_
    rintro e w' ⟨rfl, rfl⟩
    go_wp2_with fail
    refine bodyPost_ret (v := .agg #[.int .i64 0, .int .i64 0, .string ⟨#[]⟩]) (by simp [results, Try.results50, go_sem]) rfl ⟨0, 0, ⟨#[]⟩, rfl, by simp [cleanV, vB, hv, V.zero], ?_⟩
    exact (((Below.refl _ _).alloc (by simp) _).alloc (by simp) _).alloc (by simp; omega) _
  · go_enter Try.func50, Try.ntmps50
    go_wp2_with fail
    refine (rvalid_any _ _ _ _ hs).mono ?_
    rintro e w' ⟨rfl, rfl⟩
    go_wp2_with fail
    refine bodyPost_ret (v := .agg #[.int .i64 k, .int .i64 n, .string s]) (by simp [results, Try.results50, go_sem]) rfl ⟨k, n, s, rfl, by simp [cleanV, vB, hv], ?_⟩
    exact (((Below.refl _ _).alloc (by simp) _).alloc (by simp) _).alloc (by simp; omega) _

def rowB (l : List V) : Bool := decide (l.length ≤ 16) && l.all vB
theorem validRow_any (ao : Option Addr) (cap : Nat) (l : List V) (w : World) (hl : l.length ≤ maxLen) (hr : RowAt w w.heap.size ao l) :
    Calls Try.prog 61 #[.slice ao l.length cap] w fun e w' => e = .returned (.bool (rowB l)) ∧ Below w.heap.size w w' := by
  unfold maxLen at hl
  by_cases h16 : l.length ≤ 16
  · go_enter Try.func61, Try.ntmps61
    go_wp2_with fail
    go_loopw [10] (fun i wr => ∃ k : Nat, k ≤ l.length ∧ i = .int .i64 k ∧ Below w.heap.size w wr ∧ Hid (∀ j (h : j < l.length), j < k → vB l[j] = true)) (fun i _ => l.length - (intOf i).toNat)
    case atStart => exact ⟨0, Nat.zero_le _, rfl, Below.refl _ _, fun j _ h => absurd h (by omega)⟩
    case round =>
      obtain ⟨i, hi, rfl, hb, hall⟩ := hrel
      by_cases hlt : i < l.length
      · obtain ⟨b, off, k, n, s, rfl, hbB, hv, hok, c1, c2, c3⟩ := (hr.below hb).at hlt
        have Hv := Lib.hid hv
        clear hv
        have Hok := Lib.hid hok
        clear hok
        have hsz := hb.size
        cases hvb : validB k n s
        all_goals
          go_wp2_with fail
          refine (valid_any _ _ _ _ Hok.out.2.2).mono ?_
          rintro e w' ⟨rfl, rfl⟩
          go_wp2_with fail
        · go_ret
          refine ⟨?_, ?_⟩
          · simp [rowB]
            intro _
            exact ⟨l[i], List.getElem_mem hlt, by rw [Hv.out]; exact hvb⟩
          · first | exact ((hb.alloc hsz _).alloc (by simp; omega) _) | exact (hb.alloc hsz _)
        · go_roundw
          case rel =>
            refine ⟨i + 1, by omega, by go_num, ?_, ?_⟩
            · first | exact ((hb.alloc hsz _).alloc (by simp; omega) _) | exact (hb.alloc hsz _)
            · intro j hj hji
              by_cases hje : j < i
              · exact hall.out j hj hje
              · obtain rfl : j = i := by omega
                rw [Hv.out]; exact hvb
          case measure => simp [intOf]; omega
      · go_wp2_with fail
        go_ret
        refine ⟨?_, hb⟩
        have e1 : i = l.length := by omega
        subst e1
        have hal : l.all vB = true := by
          rw [List.all_eq_true]
          intro x hx
          obtain ⟨j, hj, rfl⟩ := List.mem_iff_getElem.1 hx
          exact hall.out j hj hj
        exact congrArg (fun b => Ending.returned (Value.bool b)) (show true = rowB l by simp [rowB, hal, h16])
  · go_enter Try.func61, Try.ntmps61
    go_wp2_with fail
    go_ret
    refine ⟨?_, Below.refl _ _⟩
    simp [rowB, h16]

theorem rvalidRow_any (ao : Option Addr) (cap : Nat) (l : List V) (w : World) (hl : l.length ≤ maxLen) (hr : RowAt w w.heap.size ao l) :
    Calls Try.prog 41 #[.slice ao l.length cap] w fun e w' => e = .returned (.bool (rowB l)) ∧ Below w.heap.size w w' := by
  unfold maxLen at hl
  by_cases h16 : l.length ≤ 16
  · go_enter Try.func41, Try.ntmps41
    go_wp2_with fail
    go_loopw [3] (fun i wr => ∃ k : Nat, k ≤ l.length ∧ i = .int .i64 k ∧ Below w.heap.size w wr ∧ Hid (∀ j (h : j < l.length), j < k → vB l[j] = true)) (fun i _ => l.length - (intOf i).toNat)
    case atStart => exact ⟨0, Nat.zero_le _, rfl, Below.refl _ _, fun j _ h => absurd h (by omega)⟩
    case round =>
      obtain ⟨i, hi, rfl, hb, hall⟩ := hrel
      by_cases hlt : i < l.length
      · obtain ⟨b, off, k, n, s, rfl, hbB, hv, hok, c1, c2, c3⟩ := (hr.below hb).at hlt
        have Hv := Lib.hid hv
        clear hv
        have Hok := Lib.hid hok
        clear hok
        have hsz := hb.size
        cases hvb : validB k n s
        all_goals
          go_wp2_with fail
          refine (rvalid_any _ _ _ _ Hok.out.2.2).mono ?_
          rintro e w' ⟨rfl, rfl⟩
          go_wp2_with fail
        · go_ret
          refine ⟨?_, ?_⟩
          · simp [rowB]
            intro _
            exact ⟨l[i], List.getElem_mem hlt, by rw [Hv.out]; exact hvb⟩
          · first | exact ((hb.alloc hsz _).alloc (by simp; omega) _) | exact (hb.alloc hsz _)
        · go_roundw
          case rel =>
            refine ⟨i + 1, by omega, by go_num, ?_, ?_⟩
            · first | exact ((hb.alloc hsz _).alloc (by simp; omega) _) | exact (hb.alloc hsz _)
            · intro j hj hji
              by_cases hje : j < i
              · exact hall.out j hj hje
              · obtain rfl : j = i := by omega
                rw [Hv.out]; exact hvb
          case measure => simp [intOf]; omega
      · go_wp2_with fail
        go_ret
        refine ⟨?_, hb⟩
        have e1 : i = l.length := by omega
        subst e1
        have hal : l.all vB = true := by
          rw [List.all_eq_true]
          intro x hx
          obtain ⟨j, hj, rfl⟩ := List.mem_iff_getElem.1 hx
          exact hall.out j hj hj
        exact congrArg (fun b => Ending.returned (Value.bool b)) (show true = rowB l by simp [rowB, hal, h16])
  · go_enter Try.func41, Try.ntmps41
    go_wp2_with fail
    go_ret
    refine ⟨?_, Below.refl _ _⟩
    simp [rowB, h16]

end Go.Proofs.Ytdckpjkbchibjaa
