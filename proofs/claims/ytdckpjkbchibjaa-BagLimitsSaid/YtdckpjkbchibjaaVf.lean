/- Equality of values (the struct api.Value). -/
import Derived.Test.YtdckpjkbchibjaaVe
import Derived.Laws.StructEq
namespace Go.Proofs.Ytdckpjkbchibjaa
open Go.RowKit Go.Proofs.EB
theorem eqlV (k n k' n' : Int) (s s' : ByteArray) (w : World) : (binOp .eql 42 (.agg #[.int .i64 k, .int .i64 n, .string s]) (.agg #[.int .i64 k', .int .i64 n', .string s'])).run Try.prog w = .ok (.bool (k == k' && (n == n' && s.toList == s'.toList))) w := by
  have hS : Try.prog.underlying 42 = some (.struct (Try.prog.fieldsOf 42)) := by kernel_rfl
  have hp : Try.prog.stoodInHeld 42 = false := by kernel_rfl
  rw [run_eql_struct, show (10000 : Nat) = 9999 + 1 from rfl, run_equalIn_agg w 9999 42 _ _ hS hp]
  simp only [Program.fieldsOf, Try.underlying42]
  have u3 := Try.underlying3
  have a3 := Try.isAgg3
  have z3 := Try.sizeOf3
  have u2 := Try.underlying2
  have a2 := Try.isAgg2
  have z2 := Try.sizeOf2
  have u9 := Try.underlying9
  have a9 := Try.isAgg9
  have z9 := Try.sizeOf9
  go_simp
  by_cases h1 : k = k' <;> by_cases h2 : n = n' <;> by_cases h3 : s.toList = s'.toList <;> simp [h1, h2, h3]
theorem guardV : Try.prog.eqGuardType Try.prog.depth 42 = false := by kernel_rfl
theorem structV : Try.prog.underlying 42 = some (.struct (Try.prog.fieldsOf 42)) := by kernel_rfl
theorem stoodV : Try.prog.stoodInHeld 42 = false := by kernel_rfl
theorem neqlV (k n k' n' : Int) (s s' : ByteArray) (w : World) : (binOp .neq 42 (.agg #[.int .i64 k, .int .i64 n, .string s]) (.agg #[.int .i64 k', .int .i64 n', .string s'])).run Try.prog w = .ok (.bool (!(k == k' && (n == n' && s.toList == s'.toList)))) w := by
  have h := eqlV k n k' n' s s' w
  rw [run_eql_struct] at h
  rw [run_neq_struct]
  generalize (Op.equalIn 10000 42 (.agg #[.int .i64 k, .int .i64 n, .string s]) (.agg #[.int .i64 k', .int .i64 n', .string s'])).run Try.prog w = r at h ⊢
  cases r with
  | ok b w1 => simp [Result.andThen] at h ⊢; obtain ⟨h1, h2⟩ := h; exact ⟨by rw [h1], h2⟩
  | halt x w1 => simp [Result.andThen] at h
theorem neqlV_same (k n : Int) (s : ByteArray) (w : World) : (binOp .neq 42 (.agg #[.int .i64 k, .int .i64 n, .string s]) (.agg #[.int .i64 k, .int .i64 n, .string s])).run Try.prog w = .ok (.bool false) w := by
  rw [neqlV]; simp
/-- Clean, where the clean value is known. -/
theorem clean_is {k n kc nc : Int} {s sc : ByteArray} (w : World) (hs : s.size ≤ maxLen) (h : cleanV ⟨k, n, s⟩ = ⟨kc, nc, sc⟩) :
    Calls Try.prog 77 #[.agg #[.int .i64 k, .int .i64 n, .string s]] w fun e w' => e = .returned (.agg #[.int .i64 kc, .int .i64 nc, .string sc]) ∧ Below w.heap.size w w' := by
  refine (clean_any _ _ _ _ hs).mono ?_
  rintro e w' ⟨k1, n1, s1, rfl, hc, hb⟩
  rw [h] at hc
  simp only [V.mk.injEq] at hc
  obtain ⟨rfl, rfl, rfl⟩ := hc
  exact ⟨rfl, hb⟩
theorem rclean_is {k n kc nc : Int} {s sc : ByteArray} (w : World) (hs : s.size ≤ maxLen) (h : cleanV ⟨k, n, s⟩ = ⟨kc, nc, sc⟩) :
    Calls Try.prog 50 #[.agg #[.int .i64 k, .int .i64 n, .string s]] w fun e w' => e = .returned (.agg #[.int .i64 kc, .int .i64 nc, .string sc]) ∧ Below w.heap.size w w' := by
  refine (rclean_any _ _ _ _ hs).mono ?_
  rintro e w' ⟨k1, n1, s1, rfl, hc, hb⟩
  rw [h] at hc
  simp only [V.mk.injEq] at hc
  obtain ⟨rfl, rfl, rfl⟩ := hc
  exact ⟨rfl, hb⟩

theorem valid_b (k n : Int) (s : ByteArray) (w : World) (hs : s.size ≤ maxLen) :
    Calls Try.prog 73 #[.agg #[.int .i64 k, .int .i64 n, .string s]] w fun e w' => e = .returned (.bool (validB k n s)) ∧ Below w.heap.size w w' :=
  (valid_any k n s w hs).mono fun _ _ h => ⟨h.1, by rw [h.2]; exact (Below.refl _ _).alloc (Nat.le_refl _) _⟩
theorem rvalid_b (k n : Int) (s : ByteArray) (w : World) (hs : s.size ≤ maxLen) :
    Calls Try.prog 64 #[.agg #[.int .i64 k, .int .i64 n, .string s]] w fun e w' => e = .returned (.bool (validB k n s)) ∧ Below w.heap.size w w' :=
  (rvalid_any k n s w hs).mono fun _ _ h => ⟨h.1, by rw [h.2]; exact (Below.refl _ _).alloc (Nat.le_refl _) _⟩
theorem heldV_step {w0 wc w1 : World} {b o : Nat} {k n : Int} {s : ByteArray} (hb : Below wc.heap.size wc w1)
    (h : wc.cell? ⟨b, o, none⟩ = some (.int .i64 k) ∧ wc.cell? ⟨b, o + 1, none⟩ = some (.int .i64 n) ∧ wc.cell? ⟨b, o + 2, none⟩ = some (.string s) ∧ Below w0.heap.size w0 wc) :
    w1.cell? ⟨b, o, none⟩ = some (.int .i64 k) ∧ w1.cell? ⟨b, o + 1, none⟩ = some (.int .i64 n) ∧ w1.cell? ⟨b, o + 2, none⟩ = some (.string s) ∧ Below w0.heap.size w0 w1 := by
  obtain ⟨c0, c1, c2, h0⟩ := h
  have hlt := World.block_lt_of_cell? wc _ c0
  exact ⟨(hb.cell (p := ⟨b, o, none⟩) hlt).trans c0, (hb.cell (p := ⟨b, o + 1, none⟩) hlt).trans c1, (hb.cell (p := ⟨b, o + 2, none⟩) hlt).trans c2, h0.trans (hb.mono h0.size)⟩

theorem empty_of {s : ByteArray} (h : s.toList.isEmpty = true) : s = ⟨#[]⟩ := by
  rw [ByteArray.toList_eq] at h
  obtain ⟨⟨l⟩⟩ := s
  simp at h
  subst h
  rfl
theorem clean_shape (v : V) : cleanV v = ⟨0, 0, ⟨#[]⟩⟩ ∨ (∃ n, cleanV v = ⟨1, n, ⟨#[]⟩⟩) ∨ ∃ s, cleanV v = ⟨2, 0, s⟩ := by
  have h := cleanV_valid v
  generalize cleanV v = x at h
  obtain ⟨k, n, s⟩ := x
  simp only [vB, validB] at h
  by_cases h0 : k = 0
  · simp [h0] at h
    left
    rw [h0, h.1, empty_of (s := s) (by simp [h.2])]
  · by_cases h1 : k = 1
    · simp [h1] at h
      right; left
      exact ⟨n, by rw [h1, empty_of (s := s) (by simp [h.1])]⟩
    · by_cases h2 : k = 2
      · simp [h2] at h
        right; right
        exact ⟨s, by rw [h2, h.1]⟩
      · simp [h0, h1, h2] at h
theorem byteArray_ne {s t : ByteArray} (h : s ≠ t) : (s.toList == t.toList) = false := by
  rw [ByteArray.toList_eq, ByteArray.toList_eq]
  obtain ⟨⟨a⟩⟩ := s
  obtain ⟨⟨b⟩⟩ := t
  simp at h ⊢
  exact h
end Go.Proofs.Ytdckpjkbchibjaa
