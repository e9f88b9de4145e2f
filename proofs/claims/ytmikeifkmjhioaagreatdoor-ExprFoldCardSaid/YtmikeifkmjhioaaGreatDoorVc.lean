/- Contracts of appendInt, appendText, appendValue, EncodeRow of package value and of EncodeRow of its reference: the byte form of a row. -/
import Derived.Test.YtmikeifkmjhioaaGreatDoorVb
namespace Go.Proofs.YtmikeifkmjhioaaGreatDoor
open Go.RowKit Go.Proofs.EB
open Go.Lib (byteCells)
set_option maxHeartbeats 400000

/-- A call that gives back an owned row of bytes. -/
def GaveB (w : World) (B : Nat) (l : List UInt8) (e : Ending) (w' : World) : Prop := ∃ v', e = .returned v' ∧ OwnsB w' B 5 v' l ∧ Below B w w'
def byteAt (m : Int) (i : Nat) : UInt8 := UInt8.ofNat ((m / 256 ^ i).toNat % 256)
def int5 (m : Int) : List UInt8 := [byteAt m 4, byteAt m 3, byteAt m 2, byteAt m 1, byteAt m 0]

theorem byteAt_cell (m : Int) (i : Nat) (x : Int) (h0 : 0 ≤ m) (h : x = m / 256 ^ i % 256) : [Value.int .u8 x] = byteCells [byteAt m i] := by
  have h1 : 0 ≤ m / 256 ^ i := Int.ediv_nonneg h0 (by exact Int.pow_nonneg (by decide))
  have : ((byteAt m i).toNat : Int) = x := by
    rw [h]
    unfold byteAt
    simp only [UInt8.toNat_ofNat']
    omega
  simp [byteCells, this]

def esc1 (b : UInt8) : List UInt8 := if b.toNat = 0 then [0, 255] else [b]
def escL (l : List UInt8) : List UInt8 := l.flatMap esc1
theorem escL_len (l : List UInt8) : (escL l).length ≤ 2 * l.length := by
  unfold escL
  induction l with
  | nil => simp
  | cons a l ih =>
    have : (esc1 a).length ≤ 2 := by unfold esc1; split <;> simp
    simp only [List.flatMap_cons, List.length_append, List.length_cons]; omega
theorem escL_snoc (l : List UInt8) (b : UInt8) : escL (l ++ [b]) = escL l ++ esc1 b := by simp [escL]
theorem own_ne {v : Value} {n1 c1 g0 g1 Z : Nat} (hat : v.ownBlock = some g1 ∨ Z ≤ g1) (hg : Hid (v.ownBlock ≠ some g0)) (hlt : g0 < Z) : Hid ((Value.slice (some ⟨g1, 0, none⟩) n1 c1).ownBlock ≠ some g0) := by
  unfold Hid
  simp only [Value.ownBlock, ne_eq, Option.some.injEq]
  rcases hat with h | h
  · intro h2; subst h2; exact hg.out h
  · omega
theorem own_lt {w : World} {B : Nat} {e : TypeId} {v : Value} {l : List UInt8} (h : OwnsB w B e v l) : v.ownBlock ≠ some w.heap.size := fun hk => by have := (World.ownsRow.lt h _ hk).2; omega
theorem away_of_below {w w' : World} (h : Below w.heap.size w w') : Away none w w' := ⟨h.os, h.tape, h.output, h.size, fun k hk _ => h.block k hk⟩
theorem ownsB_below {w w' : World} {B : Nat} {e : TypeId} {v : Value} {l : List UInt8} (h : OwnsB w B e v l) (hb : Below w.heap.size w w') : OwnsB w' B e v l := (away_of_below hb).ownsB h (by cases hv : v.ownBlock <;> simp)

def encV (x : V) : List UInt8 := if x.k = 1 then 2 :: int5 (x.n + 4294967296) else if x.k = 2 then 3 :: (escL x.s.data.toList ++ [0, 0]) else [1]
end Go.Proofs.YtmikeifkmjhioaaGreatDoor
