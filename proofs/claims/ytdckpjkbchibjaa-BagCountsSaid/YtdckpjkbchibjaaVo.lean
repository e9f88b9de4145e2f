/- The reference's DecodeRow. -/
import Derived.Test.YtdckpjkbchibjaaVm
import Derived.Test.YtdckpjkbchibjaaVn
namespace Go.Proofs.Ytdckpjkbchibjaa
open Go.RowKit Go.Proofs.EB
open Go.Lib (byteCells)
set_option maxHeartbeats 1000000
attribute [local go_sem] World.cell?_alloc_some

theorem decV_size {l : List UInt8} {v : V} {r : List UInt8} (h : decV l = some (v, r)) : v.s.size ≤ l.length := by
  match l, h with
  | [], h => simp [decV] at h
  | m :: l, h =>
    simp only [decV] at h
    split at h
    · simp at h; obtain ⟨rfl, rfl⟩ := h; simp [ByteArray.size]
    · split at h
      · split at h
        · simp at h
        · simp at h; obtain ⟨rfl, rfl⟩ := h; simp [ByteArray.size]
      · split at h
        · simp only [Option.map_eq_some_iff, Prod.mk.injEq] at h
          obtain ⟨⟨t', r'⟩, h1, rfl, rfl⟩ := h
          have := decT_app _ l (Nat.le_refl _) t' r' h1
          simp [ByteArray.size]; omega
        · simp at h
theorem decVC_cases {u : ByteArray} {w w' : World} {e : Ending} (h : decVC u w e w') : Below w.heap.size w w' ∧
    ((∃ v : V, e = .returned (.tuple #[.agg #[.int .i64 v.k, .int .i64 v.n, .string v.s], .int .i64 0]) ∧ Hid (∀ n acc, 0 < u.size → decR (n + 1) u.data.toList acc = none)) ∨
     (∃ (v : V) (k : Nat), e = .returned (.tuple #[.agg #[.int .i64 v.k, .int .i64 v.n, .string v.s], .int .i64 (k : Nat)]) ∧ 0 < k ∧ k ≤ u.size ∧ v.s.size ≤ u.size ∧ Hid (∀ n acc, 0 < u.size → decR (n + 1) u.data.toList acc = if vB v = true ∧ acc.length ≠ 16 then decR n (u.data.toList.drop k) (acc ++ [v]) else none))) := by
  unfold decVC at h
  have hd : ∀ n acc, 0 < u.size → decR (n + 1) u.data.toList acc = match decV u.data.toList with
      | some (v, r) => if vB v = true ∧ acc.length ≠ 16 then decR n r (acc ++ [v]) else none
      | none => none := by
    intro n acc hu
    rw [head_eq hu, decR]
    cases decV (u[0] :: u.data.toList.drop 1) <;> rfl
  cases hx : decV u.data.toList with
  | none =>
    rw [hx] at h
    refine ⟨h.2, .inl ⟨V.zero, h.1, fun n acc hu => ?_⟩⟩
    rw [hd n acc hu]
    first | rfl | (rw [hx])
  | some x =>
    obtain ⟨v, r⟩ := x
    rw [hx] at h
    simp only at h
    obtain ⟨k, hk0, hk, rfl⟩ := decV_suffix hx
    have hlen : u.data.toList.length = u.size := by simp
    have e1 : u.size - (u.data.toList.drop k).length = k := by rw [List.length_drop]; omega
    rw [e1] at h
    refine ⟨h.2, .inr ⟨v, k, h.1, hk0, by omega, ?_, fun n acc hu => ?_⟩⟩
    · have := decV_size hx; omega
    · rw [hd n acc hu, hx]
end Go.Proofs.Ytdckpjkbchibjaa
