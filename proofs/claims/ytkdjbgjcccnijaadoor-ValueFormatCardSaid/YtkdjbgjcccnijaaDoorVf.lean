/- Equality of values (the struct api.Value). -/
import Derived.Test.YtkdjbgjcccnijaaDoorVe
import Derived.Laws.StructEq
namespace Go.Proofs.YtkdjbgjcccnijaaDoor
open Go.RowKit Go.Proofs.EB
theorem eqlV (k n k' n' : Int) (s s' : ByteArray) (w : World) : (binOp .eql 27 (.agg #[.int .i64 k, .int .i64 n, .string s]) (.agg #[.int .i64 k', .int .i64 n', .string s'])).run Tryd.prog w = .ok (.bool (k == k' && (n == n' && s.toList == s'.toList))) w := by
  have hS : Tryd.prog.underlying 27 = some (.struct (Tryd.prog.fieldsOf 27)) := by kernel_rfl
  have hp : Tryd.prog.stoodInHeld 27 = false := by kernel_rfl
  rw [run_eql_struct, show (10000 : Nat) = 9999 + 1 from rfl, run_equalIn_agg w 9999 27 _ _ hS hp]
  simp only [Program.fieldsOf, Tryd.underlying27]
  have u3 := Tryd.underlying3
  have a3 := Tryd.isAgg3
  have z3 := Tryd.sizeOf3
  have u2 := Tryd.underlying2
  have a2 := Tryd.isAgg2
  have z2 := Tryd.sizeOf2
  have u9 := Tryd.underlying9
  have a9 := Tryd.isAgg9
  have z9 := Tryd.sizeOf9
  go_simp
  by_cases h1 : k = k' <;> by_cases h2 : n = n' <;> by_cases h3 : s.toList = s'.toList <;> simp [h1, h2, h3]
theorem guardV : Tryd.prog.eqGuardType Tryd.prog.depth 27 = false := by kernel_rfl
theorem structV : Tryd.prog.underlying 27 = some (.struct (Tryd.prog.fieldsOf 27)) := by kernel_rfl
theorem stoodV : Tryd.prog.stoodInHeld 27 = false := by kernel_rfl
theorem neqlV (k n k' n' : Int) (s s' : ByteArray) (w : World) : (binOp .neq 27 (.agg #[.int .i64 k, .int .i64 n, .string s]) (.agg #[.int .i64 k', .int .i64 n', .string s'])).run Tryd.prog w = .ok (.bool (!(k == k' && (n == n' && s.toList == s'.toList)))) w := by
  have h := eqlV k n k' n' s s' w
  rw [run_eql_struct] at h
  rw [run_neq_struct]
  generalize (Op.equalIn 10000 27 (.agg #[.int .i64 k, .int .i64 n, .string s]) (.agg #[.int .i64 k', .int .i64 n', .string s'])).run Tryd.prog w = r at h ⊢
  cases r with
  | ok b w1 => simp [Result.andThen] at h ⊢; obtain ⟨h1, h2⟩ := h; exact ⟨by rw [h1], h2⟩
  | halt x w1 => simp [Result.andThen] at h
theorem neqlV_same (k n : Int) (s : ByteArray) (w : World) : (binOp .neq 27 (.agg #[.int .i64 k, .int .i64 n, .string s]) (.agg #[.int .i64 k, .int .i64 n, .string s])).run Tryd.prog w = .ok (.bool false) w := by
  rw [neqlV]; simp
/-- Clean, where the clean value is known. -/
theorem clean_is {k n kc nc : Int} {s sc : ByteArray} (w : World) (hs : s.size ≤ maxLen) (h : cleanV ⟨k, n, s⟩ = ⟨kc, nc, sc⟩) :
    Calls Tryd.prog 18 #[.agg #[.int .i64 k, .int .i64 n, .string s]] w fun e w' => e = .returned (.agg #[.int .i64 kc, .int .i64 nc, .string sc]) ∧ Below w.heap.size w w' := by
  refine (clean_any _ _ _ _ hs).mono ?_
  rintro e w' ⟨k1, n1, s1, rfl, hc, hb⟩
  rw [h] at hc
  simp only [V.mk.injEq] at hc
  obtain ⟨rfl, rfl, rfl⟩ := hc
  exact ⟨rfl, hb⟩
theorem rclean_is {k n kc nc : Int} {s sc : ByteArray} (w : World) (hs : s.size ≤ maxLen) (h : cleanV ⟨k, n, s⟩ = ⟨kc, nc, sc⟩) :
    Calls Tryd.prog 19 #[.agg #[.int .i64 k, .int .i64 n, .string s]] w fun e w' => e = .returned (.agg #[.int .i64 kc, .int .i64 nc, .string sc]) ∧ Below w.heap.size w w' := by
  refine (rclean_any _ _ _ _ hs).mono ?_
  rintro e w' ⟨k1, n1, s1, rfl, hc, hb⟩
  rw [h] at hc
  simp only [V.mk.injEq] at hc
  obtain ⟨rfl, rfl, rfl⟩ := hc
  exact ⟨rfl, hb⟩

theorem valid_b (k n : Int) (s : ByteArray) (w : World) (hs : s.size ≤ maxLen) :
    Calls Tryd.prog 16 #[.agg #[.int .i64 k, .int .i64 n, .string s]] w fun e w' => e = .returned (.bool (validB k n s)) ∧ Below w.heap.size w w' :=
  (valid_any k n s w hs).mono fun _ _ h => ⟨h.1, by rw [h.2]; exact (Below.refl _ _).alloc (Nat.le_refl _) _⟩
theorem rvalid_b (k n : Int) (s : ByteArray) (w : World) (hs : s.size ≤ maxLen) :
    Calls Tryd.prog 17 #[.agg #[.int .i64 k, .int .i64 n, .string s]] w fun e w' => e = .returned (.bool (validB k n s)) ∧ Below w.heap.size w w' :=
  (rvalid_any k n s w hs).mono fun _ _ h => ⟨h.1, by rw [h.2]; exact (Below.refl _ _).alloc (Nat.le_refl _) _⟩
theorem heldV_step {w0 wc w1 : World} {b o : Nat} {k n : Int} {s : ByteArray} (hb : Below wc.heap.size wc w1)
    (h : wc.cell? ⟨b, o, none⟩ = some (.int .i64 k) ∧ wc.cell? ⟨b, o + 1, none⟩ = some (.int .i64 n) ∧ wc.cell? ⟨b, o + 2, none⟩ = some (.string s) ∧ Below w0.heap.size w0 wc) :
    w1.cell? ⟨b, o, none⟩ = some (.int .i64 k) ∧ w1.cell? ⟨b, o + 1, none⟩ = some (.int .i64 n) ∧ w1.cell? ⟨b, o + 2, none⟩ = some (.string s) ∧ Below w0.heap.size w0 w1 := by
  obtain ⟨c0, c1, c2, h0⟩ := h
  have hlt := World.block_lt_of_cell? wc _ c0
  exact ⟨(hb.cell (p := ⟨b, o, none⟩) hlt).trans c0, (hb.cell (p := ⟨b, o + 1, none⟩) hlt).trans c1, (hb.cell (p := ⟨b, o + 2, none⟩) hlt).trans c2, h0.trans (hb.mono h0.size)⟩

def longB (l : List V) : Bool := decide (40 < l.length) || l.any fun x => decide (200 < x.s.size)
set_option maxHeartbeats 400000 in
theorem long_any (ao : Option Addr) (cap : Nat) (l : List V) (w : World) (hl : l.length ≤ maxLen) (hr : RowAt w w.heap.size ao l) :
    Calls Tryd.prog 14 #[.slice ao l.length cap] w fun e w' => e = .returned (.bool (longB l)) ∧ w' = w := by
  unfold maxLen at hl
  by_cases h16 : 40 < l.length
  · go_enter Tryd.func14, Tryd.ntmps14
    go_wp2_with fail
    go_ret
    exact ⟨by simp [longB, h16], rfl⟩
  · go_enter Tryd.func14, Tryd.ntmps14
    go_wp2_with fail
    go_loop [3] (fun i => ∃ k : Nat, k ≤ l.length ∧ i = .int .i64 k ∧ Hid (∀ j (h : j < l.length), j < k → l[j].s.size ≤ 200)) (fun i => l.length - (intOf i).toNat)
    case atStart => exact ⟨0, Nat.zero_le _, rfl, fun j _ h => absurd h (by omega)⟩
    case round =>
      obtain ⟨i, hi, rfl, hall⟩ := hrel
      by_cases hlt : i < l.length
      · obtain ⟨b, off, k, n, s, rfl, hbB, hv, hok, c1, c2, c3⟩ := hr.at hlt
        have Hv := Lib.hid hv
        have hs := hok.2.2
        unfold maxLen at hs
        simp only at hs
        clear hv hok
        by_cases hsz : 200 < s.size
        · go_wp2_with fail
          go_ret
          refine ⟨?_, rfl⟩
          exact congrArg (fun b => Ending.returned (Value.bool b)) (show true = longB l from by
            simp only [longB, Bool.true_eq, Bool.or_eq_true, List.any_eq_true]
            exact .inr ⟨l[i], List.getElem_mem hlt, by rw [Hv.out]; simpa using hsz⟩)
        · go_wp2_with fail
          go_round
          case rel =>
            refine ⟨i + 1, by omega, by go_num, ?_⟩
            intro j hj hji
            by_cases hje : j < i
            · exact hall.out j hj hje
            · obtain rfl : j = i := by omega
              rw [Hv.out]; simp; omega
          case measure => simp [intOf]; omega
      · go_wp2_with fail
        go_ret
        refine ⟨?_, rfl⟩
        have e1 : i = l.length := by omega
        subst e1
        exact congrArg (fun b => Ending.returned (Value.bool b)) (show false = longB l from by
          simp only [longB, h16, decide_false, Bool.false_or]
          symm
          rw [List.any_eq_false]
          intro x hx
          obtain ⟨j, hj, rfl⟩ := List.mem_iff_getElem.1 hx
          have := hall.out j hj hj
          simp; omega)
end Go.Proofs.YtkdjbgjcccnijaaDoor
