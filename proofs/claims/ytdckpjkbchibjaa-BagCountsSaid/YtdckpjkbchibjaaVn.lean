/- Contract of the reference's decode. -/
import Derived.Test.YtdckpjkbchibjaaVl
namespace Go.Proofs.Ytdckpjkbchibjaa
open Go.RowKit Go.Proofs.EB
open Go.Lib (byteCells)
set_option maxHeartbeats 1000000
attribute [local go_sem] World.cell?_alloc_some

/-- What the reference's decode returns for the bytes s: a value, valid or not. -/
def decVC (s : ByteArray) (w : World) (e : Ending) (w' : World) : Prop :=
  match decV s.data.toList with
  | some (v, r) => Pair w v (s.size - r.length) e w'
  | none => Pair w V.zero 0 e w'
theorem decVC_1 {s : ByteArray} {w w' : World} {e : Ending} (h : 0 < s.size) (h1 : s[0].toNat = 1) (hp : Pair w V.zero 1 e w') : decVC s w e w' := by
  unfold decVC
  rw [head_eq h]
  simp only [decV, h1, if_true]
  have e1 : s.size - (s.data.toList.drop 1).length = 1 := by simp; omega
  rw [e1]
  exact hp
theorem decVC_2a {s : ByteArray} {w w' : World} {e : Ending} (h : 0 < s.size) (h1 : s[0].toNat = 2) (h6 : s.size < 6) (hp : Pair w V.zero 0 e w') : decVC s w e w' := by
  unfold decVC
  rw [head_eq h]
  have n1 : ¬ (2 : Nat) = 1 := by decide
  simp only [decV, h1, n1, if_true, if_false]
  rw [if_pos (by simp; omega)]
  exact hp
theorem decVC_2b {s : ByteArray} {w w' : World} {e : Ending} (h : 0 < s.size) (h1 : s[0].toNat = 2) (h6 : 6 ≤ s.size) (hp : Pair w ⟨1, be5 ((s.data.toList.drop 1).take 5) - 4294967296, ⟨#[]⟩⟩ 6 e w') : decVC s w e w' := by
  unfold decVC
  rw [head_eq h]
  have n1 : ¬ (2 : Nat) = 1 := by decide
  simp only [decV, h1, n1, if_true, if_false]
  rw [if_neg (by simp; omega)]
  simp only
  have e1 : s.size - ((s.data.toList.drop 1).drop 5).length = 6 := by simp; omega
  rw [e1]
  exact hp
theorem decVC_3n {s : ByteArray} {w w' : World} {e : Ending} (h : 0 < s.size) (h1 : s[0].toNat = 3) (hd : decT (s.data.toList.drop 1) = none) (hp : Pair w V.zero 0 e w') : decVC s w e w' := by
  unfold decVC
  rw [head_eq h]
  have n1 : ¬ (3 : Nat) = 1 := by decide
  have n2 : ¬ (3 : Nat) = 2 := by decide
  simp only [decV, h1, n1, n2, if_true, if_false, hd]
  exact hp
theorem decVC_3s {s : ByteArray} {w w' : World} {e : Ending} {t r : List UInt8} (h : 0 < s.size) (h1 : s[0].toNat = 3) (hd : decT (s.data.toList.drop 1) = some (t, r)) (hp : Pair w ⟨2, 0, ⟨t.toArray⟩⟩ (s.size - r.length) e w') : decVC s w e w' := by
  unfold decVC
  rw [head_eq h]
  have n1 : ¬ (3 : Nat) = 1 := by decide
  have n2 : ¬ (3 : Nat) = 2 := by decide
  simp only [decV, h1, n1, n2, if_true, if_false, hd]
  exact hp
theorem decVC_x {s : ByteArray} {w w' : World} {e : Ending} (h : 0 < s.size) (h1 : s[0].toNat ≠ 1) (h2 : s[0].toNat ≠ 2) (h3 : s[0].toNat ≠ 3) (hp : Pair w V.zero 0 e w') : decVC s w e w' := by
  unfold decVC
  rw [head_eq h]
  simp only [decV, h1, h2, h3, if_false]
  exact hp
theorem decT_char {s : ByteArray} {k : Nat} (h : k < s.size) (hz : s[k].toNat ≠ 0) : decT (s.data.toList.drop k) = (decT (s.data.toList.drop (k + 1))).map fun x => (s[k] :: x.1, x.2) := by
  have h0 : k < s.data.toList.length := by simpa using h
  by_cases h2 : k + 1 < s.size
  · have e1 : s.data.toList.drop (k + 1) = s[k + 1] :: s.data.toList.drop (k + 2) := by
      rw [List.drop_eq_getElem_cons (show k + 1 < s.data.toList.length by simpa using h2)]
      rfl
    rw [decT_step h2, e1]; simp [decT, hz]
  · have e1 : s.data.toList.drop (k + 1) = [] := List.drop_eq_nil_of_le (by simp; omega)
    rw [List.drop_eq_getElem_cons h0, e1]
    rfl
theorem decT_end {s : ByteArray} {k : Nat} (h : s.size ≤ k + 1) : decT (s.data.toList.drop k) = none := by
  have hln : (s.data.toList.drop k).length ≤ 1 := by simp; omega
  match hx : s.data.toList.drop k, hln with
  | [], _ => rfl
  | [_], _ => rfl
  | _ :: _ :: _, h => simp at h
theorem decT_map_none {s : ByteArray} {k : Nat} {l : List UInt8} (hd : decT (s.data.toList.drop 1) = (decT (s.data.toList.drop k)).map fun x => (l ++ x.1, x.2)) (h : decT (s.data.toList.drop k) = none) : decT (s.data.toList.drop 1) = none := by rw [hd, h]; rfl
theorem decT_map_some {s : ByteArray} {k : Nat} {l : List UInt8} (hd : decT (s.data.toList.drop 1) = (decT (s.data.toList.drop k)).map fun x => (l ++ x.1, x.2)) (h : decT (s.data.toList.drop k) = some ([], s.data.toList.drop (k + 2))) : decT (s.data.toList.drop 1) = some (l, s.data.toList.drop (k + 2)) := by rw [hd, h]; simp

end Go.Proofs.Ytdckpjkbchibjaa
