/- Slices with what they read as, and small words about memory. Nothing of a program in it. -/
import Derived.Test.YtdckpjkbchibjaaGa
namespace Go.Proofs.EB
open Go.RowKit

/-- A slice with what it reads as. -/
structure SL (α : Type) where
  ao : Option Addr
  cap : Nat
  l : List α
/-- A slice that reads as its list, each element with what P says. -/
structure RdS {α : Type} (enc : α → List Value) (m : Nat) (P : World → Nat → α → Prop) (w : World) (B : Nat) (s : SL α) : Prop where
  row : RAt enc m w B s.ao s.l
  nil : s.ao = none → s.cap = 0
  cap : s.l.length ≤ s.cap
  len : s.l.length ≤ maxLen
  each : ∀ a ∈ s.l, P w B a
theorem RdS.below {α : Type} {enc : α → List Value} {m : Nat} {P : World → Nat → α → Prop} {w w' : World} {B B' : Nat} {s : SL α} (h : RdS enc m P w B s) (hb : Below B w w') (hB : B ≤ B') (hP : ∀ a, P w B a → P w' B' a) : RdS enc m P w' B' s :=
  ⟨(h.row.below hb).mono hB, h.nil, h.cap, h.len, fun a ha => hP a (h.each a ha)⟩
/-- A part of a slice's list. -/
theorem RdS.take {α : Type} {enc : α → List Value} {m : Nat} {P : World → Nat → α → Prop} {w : World} {B : Nat} {ao : Option Addr} {cap : Nat} {l : List α} (h : RdS enc m P w B ⟨ao, cap, l⟩) (k : Nat) : RdS enc m P w B ⟨ao, cap, l.take k⟩ :=
  ⟨h.row.take k, h.nil, Nat.le_trans (List.length_take_le' _ _) h.cap, Nat.le_trans (List.length_take_le' _ _) h.len, fun a ha => h.each a (List.mem_of_mem_take ha)⟩
theorem below1 (w : World) (o : Obj) : Below w.heap.size w (w.alloc o) := (Below.refl _ _).alloc (Nat.le_refl _) _
theorem belowT {w w0 w1 : World} (h0 : Below w.heap.size w w0) (hb : Below w0.heap.size w0 w1) : Below w.heap.size w w1 := h0.trans (hb.mono h0.size)
theorem bcells {W w1 : World} (hb : Below W.heap.size W w1) : (∀ b o, b < W.heap.size → w1.cell? ⟨b, o, none⟩ = W.cell? ⟨b, o, none⟩) ∧ (∀ b o, b < W.heap.size → w1.frozen? ⟨b, o, none⟩ = W.frozen? ⟨b, o, none⟩) :=
  ⟨fun b o h => hb.cell (p := ⟨b, o, none⟩) h, fun b o h => hb.frozen (p := ⟨b, o, none⟩) h⟩
/-- A call that gives v and leaves old memory as it was. -/
def YieldsV (v : Value) (w : World) (e : Ending) (w' : World) : Prop := e = .returned v ∧ Below w.heap.size w w'
theorem yields_int {a b : Int} (h : a = b) : Ending.returned (.int .i64 a) = .returned (.int .i64 b) := by rw [h]
theorem yields_bool {a b : Bool} (h : a = b) : Ending.returned (.bool a) = .returned (.bool b) := by rw [h]
theorem box_cell {w : World} {g i : Nat} {C : Array Value} {T : TypeId} {u : Value} (h : w.heap[g]? = some (.cells C T (0, 0))) (hi : C[i]? = some u) : w.cell? ⟨g, i, none⟩ = some u := by simp [World.cell?, h, hi]
theorem box_keep {w w' : World} {g : Nat} {o : Obj} (hb : Below w.heap.size w w') (h : w.heap[g]? = some o) : w'.heap[g]? = some o := (hb.block _ (Array.getElem?_eq_some_iff.1 h).1).trans h
/-- What a held region keeps: the cells that it loads, and that old memory is as it was. -/
theorem keep1 {w0 wc w1 : World} {b1 o1 : Nat} {x1 : Value} (hb : Below wc.heap.size wc w1) (h : wc.cell? ⟨b1, o1, none⟩ = some x1 ∧ Below w0.heap.size w0 wc) : w1.cell? ⟨b1, o1, none⟩ = some x1 ∧ Below w0.heap.size w0 w1 :=
  ⟨(hb.cell (p := ⟨b1, o1, none⟩) (World.block_lt_of_cell? wc _ h.1)).trans h.1, belowT h.2 hb⟩
theorem keep2 {w0 wc w1 : World} {b1 o1 b2 o2 : Nat} {x1 x2 : Value} (hb : Below wc.heap.size wc w1) (h : wc.cell? ⟨b1, o1, none⟩ = some x1 ∧ wc.cell? ⟨b2, o2, none⟩ = some x2 ∧ Below w0.heap.size w0 wc) : w1.cell? ⟨b1, o1, none⟩ = some x1 ∧ w1.cell? ⟨b2, o2, none⟩ = some x2 ∧ Below w0.heap.size w0 w1 :=
  ⟨(hb.cell (p := ⟨b1, o1, none⟩) (World.block_lt_of_cell? wc _ h.1)).trans h.1, keep1 hb h.2⟩
theorem keep3 {w0 wc w1 : World} {b1 o1 b2 o2 b3 o3 : Nat} {x1 x2 x3 : Value} (hb : Below wc.heap.size wc w1) (h : wc.cell? ⟨b1, o1, none⟩ = some x1 ∧ wc.cell? ⟨b2, o2, none⟩ = some x2 ∧ wc.cell? ⟨b3, o3, none⟩ = some x3 ∧ Below w0.heap.size w0 wc) : w1.cell? ⟨b1, o1, none⟩ = some x1 ∧ w1.cell? ⟨b2, o2, none⟩ = some x2 ∧ w1.cell? ⟨b3, o3, none⟩ = some x3 ∧ Below w0.heap.size w0 w1 :=
  ⟨(hb.cell (p := ⟨b1, o1, none⟩) (World.block_lt_of_cell? wc _ h.1)).trans h.1, keep2 hb h.2⟩
theorem keep4 {w0 wc w1 : World} {b1 o1 b2 o2 b3 o3 b4 o4 : Nat} {x1 x2 x3 x4 : Value} (hb : Below wc.heap.size wc w1) (h : wc.cell? ⟨b1, o1, none⟩ = some x1 ∧ wc.cell? ⟨b2, o2, none⟩ = some x2 ∧ wc.cell? ⟨b3, o3, none⟩ = some x3 ∧ wc.cell? ⟨b4, o4, none⟩ = some x4 ∧ Below w0.heap.size w0 wc) : w1.cell? ⟨b1, o1, none⟩ = some x1 ∧ w1.cell? ⟨b2, o2, none⟩ = some x2 ∧ w1.cell? ⟨b3, o3, none⟩ = some x3 ∧ w1.cell? ⟨b4, o4, none⟩ = some x4 ∧ Below w0.heap.size w0 w1 :=
  ⟨(hb.cell (p := ⟨b1, o1, none⟩) (World.block_lt_of_cell? wc _ h.1)).trans h.1, keep3 hb h.2⟩
theorem kept1 {w0 wc : World} {A : Prop} (h : A ∧ Below w0.heap.size w0 wc) : Below w0.heap.size w0 wc := h.2
theorem kept2 {w0 wc : World} {A B : Prop} (h : A ∧ B ∧ Below w0.heap.size w0 wc) : Below w0.heap.size w0 wc := h.2.2
theorem kept3 {w0 wc : World} {A B C : Prop} (h : A ∧ B ∧ C ∧ Below w0.heap.size w0 wc) : Below w0.heap.size w0 wc := h.2.2.2
theorem kept4 {w0 wc : World} {A B C D : Prop} (h : A ∧ B ∧ C ∧ D ∧ Below w0.heap.size w0 wc) : Below w0.heap.size w0 wc := h.2.2.2.2
end Go.Proofs.EB
