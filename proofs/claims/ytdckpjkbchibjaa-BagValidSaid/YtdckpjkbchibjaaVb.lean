/- Contracts of needsEscape and quote of package value. -/
import Derived.Test.YtdckpjkbchibjaaVa
import Derived.Deep.DeepCutAuto
namespace Go.Proofs.Ytdckpjkbchibjaa
open Go.RowKit Go.Proofs.EB
open Go.Lib (byteCells)
set_option maxHeartbeats 400000
theorem infoU8 : (Try.prog.info? 5).map (fun i => (i.zero, i.size, i.bytes)) = some (some (.int .u8 0), 1, 1) := by kernel_rfl

def needI (b : Int) : Bool := decide (b = 34 ∨ b = 92 ∨ b < 32 ∨ 126 < b)

def hexD : List UInt8 := [48, 49, 50, 51, 52, 53, 54, 55, 56, 57, 97, 98, 99, 100, 101, 102]
def quote1 (b : UInt8) : List UInt8 := if needI b.toNat = true then [92, hexD.getD (b.toNat / 16) 0, hexD.getD (b.toNat % 16) 0] else [b]
def quoteL (l : List UInt8) : List UInt8 := 34 :: l.flatMap quote1
theorem quote1_len (b : UInt8) : (quote1 b).length ≤ 3 := by unfold quote1; split <;> simp
theorem quoteL_len (l : List UInt8) : (quoteL l).length ≤ 1 + 3 * l.length := by
  have : (l.flatMap quote1).length ≤ 3 * l.length := by
    induction l with
    | nil => simp
    | cons a l ih => simp only [List.flatMap_cons, List.length_append, List.length_cons]; have := quote1_len a; omega
  simp only [quoteL, List.length_cons]; omega
theorem quoteL_snoc (l : List UInt8) (b : UInt8) : quoteL (l ++ [b]) = quoteL l ++ quote1 b := by simp [quoteL]
theorem take_snoc (s : ByteArray) (k : Nat) (h : k < s.size) : s.data.toList.take (k + 1) = s.data.toList.take k ++ [s[k]] := by
  rw [List.take_succ_eq_append_getElem (by simpa using h)]; rfl

theorem hexAt (i : Nat) (h : i < 16) (h' : i < (⟨#[48, 49, 50, 51, 52, 53, 54, 55, 56, 57, 97, 98, 99, 100, 101, 102]⟩ : ByteArray).size) : (⟨#[48, 49, 50, 51, 52, 53, 54, 55, 56, 57, 97, 98, 99, 100, 101, 102]⟩ : ByteArray)[i] = hexD.getD i 0 := by
  have : ∀ j : Fin 16, (⟨#[48, 49, 50, 51, 52, 53, 54, 55, 56, 57, 97, 98, 99, 100, 101, 102]⟩ : ByteArray)[j.val]'(j.isLt) = hexD.getD j.val 0 := by decide
  exact this ⟨i, h⟩
theorem and15 (n : Nat) (h : n < 256) : bits BinOp.and IntKind.u8 (n : Int) 15 = (n : Int) % 16 := by
  have : ∀ j : Fin 256, bits BinOp.and IntKind.u8 (j.val : Int) 15 = (j.val : Int) % 16 := by decide +kernel
  exact this ⟨n, h⟩

theorem quote_ne {n1 c1 g g1 W Z : Nat} (hat : (Value.slice (some ⟨g, 0, none⟩) n1 c1).ownBlock = some g1 ∨ Z ≤ g1) (hg : Hid (g ≠ W + 1)) (hlt : W + 1 < Z) : Hid (g1 ≠ W + 1) := by
  rcases hat with h | h
  · simp only [Value.ownBlock, Option.some.injEq] at h
    subst h; exact hg
  · unfold Hid; omega
theorem hexNews (b : UInt8) (hb : b.toNat < 256) (h1 : ((b.toNat : Int) / 16).toNat < (⟨#[48, 49, 50, 51, 52, 53, 54, 55, 56, 57, 97, 98, 99, 100, 101, 102]⟩ : ByteArray).size) (h2 : ((b.toNat : Int) % 16).toNat < (⟨#[48, 49, 50, 51, 52, 53, 54, 55, 56, 57, 97, 98, 99, 100, 101, 102]⟩ : ByteArray).size) :
    (#[.int .u8 92, .int .u8 ((⟨#[48, 49, 50, 51, 52, 53, 54, 55, 56, 57, 97, 98, 99, 100, 101, 102]⟩ : ByteArray)[((b.toNat : Int) / 16).toNat]).toNat, .int .u8 ((⟨#[48, 49, 50, 51, 52, 53, 54, 55, 56, 57, 97, 98, 99, 100, 101, 102]⟩ : ByteArray)[((b.toNat : Int) % 16).toNat]).toNat] : Array Value).toList =
      byteCells [92, hexD.getD (b.toNat / 16) 0, hexD.getD (b.toNat % 16) 0] := by
  have e1 : ((b.toNat : Int) / 16).toNat = b.toNat / 16 := by omega
  have e2 : ((b.toNat : Int) % 16).toNat = b.toNat % 16 := by omega
  have k1 := hexAt _ (by omega : ((b.toNat : Int) / 16).toNat < 16) h1
  have k2 := hexAt _ (by omega : ((b.toNat : Int) % 16).toNat < 16) h2
  rw [k1, k2, e1, e2]
  rfl

end Go.Proofs.Ytdckpjkbchibjaa
