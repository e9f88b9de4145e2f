/- What is decoded is what was encoded; CleanRow. -/
import Derived.Test.YtdckpjkbchibjaaVo
import Derived.Test.YtdckpjkbchibjaaMb
namespace Go.Proofs.Ytdckpjkbchibjaa
open Go.RowKit Go.Proofs.EB
open Go.Lib (byteCells)
set_option maxHeartbeats 1000000
attribute [local go_sem] World.cell?_alloc_some

theorem decT_esc (t r : List UInt8) : decT (escL t ++ ([0, 0] ++ r)) = some (t, r) := by
  induction t with
  | nil => simp [escL, decT]
  | cons b t ih =>
    have e1 : escL (b :: t) = esc1 b ++ escL t := by simp [escL]
    rw [e1, List.append_assoc]
    unfold esc1
    by_cases hb : b.toNat = 0
    · rw [if_pos hb]
      have hb0 : b = 0 := UInt8.toNat_inj.1 (by simpa using hb)
      have h255 : (255 : UInt8).toNat = 255 := rfl
      have h0 : (0 : UInt8).toNat = 0 := rfl
      simp only [List.cons_append, List.nil_append, decT, h0, h255, if_true]
      rw [if_neg (by decide)]
      simp only [List.cons_append, List.nil_append] at ih
      rw [ih, hb0]
      rfl
    · rw [if_neg hb]
      cases hx : escL t ++ ([0, 0] ++ r) with
      | nil => simp at hx
      | cons c m =>
        rw [hx] at ih
        simp only [List.cons_append, List.nil_append, decT]
        rw [if_neg hb, ih]
        rfl
theorem byteAt_nat (m : Int) (i : Nat) (h : 0 ≤ m) : ((byteAt m i).toNat : Int) = m / 256 ^ i % 256 := by
  have h1 : 0 ≤ m / 256 ^ i := Int.ediv_nonneg h (by exact Int.pow_nonneg (by decide))
  have h2 : (byteAt m i).toNat = (m / 256 ^ i).toNat % 256 := by
    unfold byteAt
    rw [UInt8.toNat_ofNat']
    omega
  rw [h2]
  omega
theorem be5_int5 (m : Int) (h : 0 ≤ m) (h2 : m < 1099511627776) : be5 (int5 m) = m := by
  have h4 := byteAt_nat m 4 h
  have h3 := byteAt_nat m 3 h
  have h2' := byteAt_nat m 2 h
  have h1 := byteAt_nat m 1 h
  have h0 := byteAt_nat m 0 h
  simp only [be5, int5, List.foldl_cons, List.foldl_nil]
  rw [h4, h3, h2', h1, h0]
  omega
theorem decV_encV (x : V) (r : List UInt8) : decV (encV (cleanV x) ++ r) = some (cleanV x, r) := by
  have hv := cleanV_valid x
  rcases clean_shape x with h | ⟨n, h⟩ | ⟨s, h⟩
  · rw [h]; simp [encV, decV]
  · rw [h] at hv ⊢
    have hr : -4294967296 ≤ n ∧ n ≤ 4294967296 := by simp [vB, validB] at hv; omega
    have e1 : encV ⟨1, n, ⟨#[]⟩⟩ = 2 :: int5 (n + 4294967296) := by simp [encV]
    have e2 := be5_int5 (n + 4294967296) (by omega) (by omega)
    have e3 : (int5 (n + 4294967296)).length = 5 := rfl
    rw [e1, List.cons_append]
    have h1 : ¬ (2 : UInt8).toNat = 1 := by decide
    have h2 : (2 : UInt8).toNat = 2 := rfl
    simp only [decV, h2, if_true]
    rw [if_neg (by simp)]
    have e4 : (int5 (n + 4294967296) ++ r).take 5 = int5 (n + 4294967296) := List.take_left' e3
    have e5 : (int5 (n + 4294967296) ++ r).drop 5 = r := List.drop_left' e3
    rw [e4, e5, e2]
    simp
    omega
  · rw [h]
    have e1 : encV ⟨2, 0, s⟩ = 3 :: (escL s.data.toList ++ [0, 0]) := by simp [encV]
    rw [e1, List.cons_append, List.append_assoc]
    have h1 : ¬ (3 : UInt8).toNat = 1 := by decide
    have h2 : ¬ (3 : UInt8).toNat = 2 := by decide
    have h3 : (3 : UInt8).toNat = 3 := rfl
    simp only [decV, h3, if_true]
    rw [decT_esc]
    rfl
theorem decR_encRow : ∀ (l : List V) (n : Nat) (acc : List V), l.length ≤ n → acc.length ≤ 16 →
    decR n (encRow l) acc = if acc.length + l.length ≤ 16 then some (acc ++ l.map cleanV) else none := by
  intro l
  induction l with
  | nil => intro n acc _ h; rw [if_pos (by simpa using h)]; cases n <;> simp [encRow, decR]
  | cons x l ih =>
    intro n acc hn ha
    obtain ⟨m, rfl⟩ : ∃ m, n = m + 1 := ⟨n - 1, by simp at hn; omega⟩
    have e1 : encRow (x :: l) = encV (cleanV x) ++ encRow l := by simp [encRow]
    obtain ⟨b, t, hb⟩ := encV_ne x
    have hd := decV_encV x (encRow l)
    rw [e1]
    rw [hb] at hd ⊢
    rw [List.cons_append] at hd ⊢
    rw [decR, hd]
    simp only [cleanV_valid, true_and]
    by_cases h16 : acc.length = 16
    · rw [if_neg (by simpa using h16), if_neg (by simp; omega)]
    · rw [if_pos h16, ih m _ (by simpa using hn) (by simp; omega)]
      simp only [List.length_append, List.length_cons, List.length_nil, List.map_cons, List.append_assoc, List.cons_append, List.nil_append]
      have e2 : (acc.length + (0 + 1) + l.length ≤ 16) = (acc.length + (l.length + 1) ≤ 16) := by apply propext; omega
      simp only [e2]
theorem encRow_big (l : List V) : l.length ≤ (encRow l).length := by
  induction l with
  | nil => simp
  | cons x l ih =>
    have e1 : encRow (x :: l) = encV (cleanV x) ++ encRow l := by simp [encRow]
    obtain ⟨b, t, hb⟩ := encV_ne x
    rw [e1, hb]
    simp; omega

/-- A call that gives a new row. -/
def GivesRow (w : World) (l : List V) (e : Ending) (w' : World) : Prop := ∃ ao cap n, n = l.length ∧ e = .returned (.slice ao n cap) ∧ RowAt w' w'.heap.size ao l ∧ Below w.heap.size w w'
end Go.Proofs.Ytdckpjkbchibjaa
