/- Rows of any elements in memory, by the list of cells of one element: what reads as a list, what the call owns, appends of one element and of a row. Nothing of a program in it. -/
import Derived.WalkKit
import Derived.WalkLawsBesides
import Derived.WalkSpells
import Derived.Deep.QuietTactic
import Derived.BigQuiet
import Derived.Outline
import Derived.OwnWalk
import Derived.Deep.RegionHeld3
import Derived.Deep.AppendLies
import Derived.Deep.RegionLaw
import Derived.Lib.Hide
import Derived.Lib.UnsafeStr
import Derived.Laws.IdiomStrings
import Derived.Lib.ConvBytes
import Derived.Lib.BufferRead
import Derived.Lib.AtoiErrMem
import Derived.Laws.AppendOwnNone
import Derived.Maps.AppendAt
import Derived.Test.YtenonljnldbkiaaGreatDoorChecked
import Derived.Deep.DeepCutAuto
import Derived.Laws.StructEq
namespace Go.Proofs.EB
open Go.RowKit
open Go.Lib (byteCells)

theorem byteCells_append (a b : List UInt8) : byteCells (a ++ b) = byteCells a ++ byteCells b := by simp [byteCells]
theorem byteCells_length (a : List UInt8) : (byteCells a).length = a.length := by simp [byteCells]
theorem byteCells_one (a : List UInt8) : ∀ u ∈ byteCells a, u.oneCell' = true := by
  intro u hu
  simp only [byteCells, List.mem_map] at hu
  obtain ⟨b, _, rfl⟩ := hu
  rfl

/-- A row that is a block of its own, known whole. -/
theorem owns_of_block {w : World} {B g : Nat} {e : TypeId} {C : Array Value} (l : List UInt8) (hg : w.heap[g]? = some (.cells C e (0, 0))) (hB : B ≤ g) (hC : C.toList = byteCells l) (hl : l.length ≤ maxLen) :
    w.ownsRow B e 1 (.slice (some ⟨g, 0, none⟩) l.length l.length) l.length (byteCells l) := by
  refine ⟨by simp [byteCells], .inr ⟨g, l.length, C, rfl, hB, hg, Nat.le_refl _, hl, ?_, ?_⟩⟩
  · have := congrArg List.length hC
    simp [byteCells] at this
    omega
  · rw [hC, Nat.mul_one]
    exact List.take_of_length_le (by simp [byteCells])
theorem below_new {w w1 : World} {o : Obj} (h : Below (w.heap.size + 1) (w.alloc o) w1) : w1.heap[w.heap.size]? = some o :=
  (h.block _ (by omega)).trans (heap_alloc_new w o)
theorem below_old {w w1 : World} {o : Obj} (h : Below (w.heap.size + 1) (w.alloc o) w1) : Below w.heap.size w w1 :=
  ((Below.refl _ _).alloc (Nat.le_refl _) o).trans (h.mono (by omega))
theorem below_old2 {w w1 : World} {o : Obj} (h : Below (w.alloc o).heap.size (w.alloc o) w1) : Below w.heap.size w w1 :=
  ((Below.refl _ _).alloc (Nat.le_refl _) o).trans (h.mono (by simp))
/-- A slice of ints that came in: nil; or a row of 'cap' cells, the numbers 'zs' (the first 'len' are its elements). -/
def IntsAt (w : World) (a : Option Addr) (len cap : Nat) (zs : List Int) : Prop :=
  (a = none ∧ len = 0 ∧ cap = 0 ∧ zs = []) ∨
  ∃ x, a = some x ∧ len ≤ cap ∧ cap * 8 ≤ 140737488351232 ∧ zs.length = cap ∧ (∀ i, i < zs.length → w.cell? (x.add i) = some (.int .i64 (zs.getD i 0))) ∧ ∀ n ∈ zs, (Lit.int .i64 n).wf = true
/-- A boxed struct of three cells. -/
theorem box3 {w : World} {g : Nat} {T : TypeId} {a b c : Value} (h : w.heap[g]? = some (.cells #[a, b, c] T (0, 0))) :
    w.cell? ⟨g, 0, none⟩ = some a ∧ w.cell? ⟨g, 1, none⟩ = some b ∧ w.cell? ⟨g, 2, none⟩ = some c ∧ w.frozen? ⟨g, 0, none⟩ = false ∧ w.frozen? ⟨g, 1, none⟩ = false ∧ w.frozen? ⟨g, 2, none⟩ = false := by
  simp [World.cell?, World.frozen?, h]
/-- All old blocks but r are as they were. -/
structure Away (r : Option Nat) (w w' : World) : Prop where
  os : w'.os = w.os
  tape : w'.tape = w.tape
  output : w'.output = w.output
  size : w.heap.size ≤ w'.heap.size
  block : ∀ k, k < w.heap.size → some k ≠ r → w'.heap[k]? = w.heap[k]?
theorem Away.below {r : Option Nat} {w w' : World} {B : Nat} (h : Away r w w') (hB : B ≤ w.heap.size) (hr : ∀ k, r = some k → B ≤ k) : Below B w w' :=
  ⟨h.os, h.tape, h.output, h.size, fun k hk => h.block k (by omega) fun e => by have := hr k e.symm; omega⟩
theorem Away.cell {r : Option Nat} {w w' : World} (h : Away r w w') {a : Addr} (ha : a.block < w.heap.size) (hr : some a.block ≠ r) : w'.cell? a = w.cell? a :=
  World.cell?_of_block (h.block a.block ha hr)
theorem Away.frozen {r : Option Nat} {w w' : World} (h : Away r w w') {a : Addr} (ha : a.block < w.heap.size) (hr : some a.block ≠ r) : w'.frozen? a = w.frozen? a :=
  World.frozen?_of_block (h.block a.block ha hr)
theorem Away.owns {r : Option Nat} {w w' : World} (h : Away r w w') {B : Nat} {e : TypeId} {size : Nat} {v : Value} {n : Nat} {xs : List Value} (ho : w.ownsRow B e size v n xs) (hne : v.ownBlock = none ∨ v.ownBlock ≠ r) : w'.ownsRow B e size v n xs :=
  ho.kept ⟨h.os, h.tape, h.output, h.size, h.block⟩ hne

section
variable {P : Program} {t e : TypeId}
/-- What an append leaves: SOME owned row with the new elements, in the old block or in a new one; all other old blocks are as they were. -/
def Appended (w0 : World) (B : Nat) (e : TypeId) (size : Nat) (v : Value) (n : Nat) (xs : List Value) (K : Value → World → Prop) : Prop :=
  ∀ g' cap w', w'.ownsRow B e size (.slice (some ⟨g', 0, none⟩) n cap) n xs → Away v.ownBlock w0 w' → Below B w0 w' → (v.ownBlock = some g' ∨ w0.heap.size ≤ g') → g' < w'.heap.size →
    K (.slice (some ⟨g', 0, none⟩) n cap) w'

/-- append(x, c1, .., cm): the new elements have been laid in a new block; xs, C: cells. -/
theorem run_appendx (ht : P.underlying t = some (.slice e)) {z : Value} {size bytes : Nat} (hinfo : (P.info? e).map (fun i => (i.zero, i.size, i.bytes)) = some (some z, size, bytes)) (hzs : z.cells.size = size) (hs0 : 0 < size) (w w0 : World) (ty : TypeId)
    (B : Nat) (v : Value) (n : Nat) (xs : List Value) (hown : w0.ownsRow B e size v n xs) (m c : Nat) (C : Array Value) (hw : w.heap = w0.heap.push (.cells C e)) (hw1 : w.os = w0.os) (hw2 : w.tape = w0.tape) (hw3 : w.output = w0.output)
    (hm : C.size = m * size) (hone : ∀ u ∈ C.toList, u.oneCell' = true) (hm0 : 0 < m) (hsz : (n + m) * bytes ≤ 140737488355328) (h63 : n + m ≤ maxLen) (hB : B ≤ w0.heap.size) (K : Value → World → Prop)
    (h : Appended w0 B e size v (n + m) (xs ++ C.toList) K) :
    ∃ v' w', (Builtin.append_ #[t, t] ty #[v, .slice (some ⟨w0.heap.size, 0, none⟩) m c]).run P w = .ok v' w' ∧ K v' w' := by
  obtain ⟨i0, hi, hz0, hz1, hz2⟩ := info_parts hinfo
  have hA : Away none w0 w := ⟨hw1, hw2, hw3, by rw [hw]; simp, fun k hk _ => by rw [hw, Array.getElem?_push, if_neg (by omega)]⟩
  have hown' : w.ownsRow B e size v n xs := hA.owns hown (by cases hv : v.ownBlock <;> simp)
  have hC : w.heap[w0.heap.size]? = some (.cells C e (0, 0)) := by rw [hw]; simp
  obtain ⟨g', cap, w', hr, h1, h2, h3, h4⟩ := run_append_lies (P := P) w t ty B e i0 _ size bytes ht hi hz0 hz1 hz2 hzs hs0 v n xs hown' ⟨w0.heap.size, 0, none⟩ m c C.toList (by simpa using hm) (World.news_of_block (cs := C) (t := e) (fr := (0, 0)) hC) hone hm0 h63 hsz (by rw [hw]; simp; omega) _ rfl
  have hA2 : Away v.ownBlock w0 w' := ⟨h2.os.trans hw1, h2.tape.trans hw2, h2.output.trans hw3, Nat.le_trans hA.size h2.size, fun k hk hne => (h2.block k (by have := hA.size; omega) hne).trans (hA.block k hk (by simp))⟩
  refine ⟨_, w', hr, h g' cap w' h1 hA2 (hA2.below hB fun k hk => (hown.lt k hk).1) ?_ h4⟩
  rcases h3 with h3 | h3
  · exact .inl h3
  · right; rw [h3, hw]; simp

/-- The same at the list of a plain region's operations. -/
theorem wpList_appendx (ht : P.underlying t = some (.slice e)) {z : Value} {size bytes : Nat} (hinfo : (P.info? e).map (fun i => (i.zero, i.size, i.bytes)) = some (some z, size, bytes)) (hzs : z.cells.size = size) (hs0 : 0 < size) (w w0 : World)
    {ops : Array Oper} {rest : List Oper} {o : Oper} {a : Act} {Q : Exit → Act → World → Prop} (hgd : o.guard = none) (s x : Operand)
    (ho : o.op = .call { callee := .builtin .append, args := #[s, x], argTypes := #[t, t] })
    (B : Nat) (v : Value) (n : Nat) (xs : List Value) (hs : a.eval s = v) (hown : w0.ownsRow B e size v n xs) (m c : Nat) (C : Array Value) (hx : a.eval x = .slice (some ⟨w0.heap.size, 0, none⟩) m c)
    (hw : w.heap = w0.heap.push (.cells C e)) (hw1 : w.os = w0.os) (hw2 : w.tape = w0.tape) (hw3 : w.output = w0.output)
    (hm : C.size = m * size) (hone : ∀ u ∈ C.toList, u.oneCell' = true) (hm0 : 0 < m) (hsz : (n + m) * bytes ≤ 140737488355328) (h63 : n + m ≤ maxLen) (hB : B ≤ w0.heap.size)
    (h : Appended w0 B e size v (n + m) (xs ++ C.toList) fun v' w' => wpList P ops Q rest (a.put o.dst v') w') : wpList P ops Q (o :: rest) a w := by
  obtain ⟨v', w', hr, hK⟩ := run_appendx ht hinfo hzs hs0 w w0 o.type B v n xs hown m c C hw hw1 hw2 hw3 hm hone hm0 hsz h63 hB _ h
  refine wpList_plain hgd fun _ hK' => ?_
  unfold Oper.wp execOp
  simp only [ho, resolve, invoke, builtin, Sem.run_bind, Sem.run_pure, Result.andThen_ok, List.map_toArray, List.map_cons, List.map_nil, hs, hx, hr]
  exact hK' _ _ hK

/-- The same at a step of a region that draws its order. -/
theorem step_appendx (ht : P.underlying t = some (.slice e)) {z : Value} {size bytes : Nat} (hinfo : (P.info? e).map (fun i => (i.zero, i.size, i.bytes)) = some (some z, size, bytes)) (hzs : z.cells.size = size) (hs0 : 0 < size) (w w0 : World)
    {ops : Array Oper} {o : Oper} {a : Act} {K : Act → World → Prop} {Q : Exit → Act → World → Prop} {E : Prop} (hgd : o.guard = none) (s x : Operand)
    (ho : o.op = .call { callee := .builtin .append, args := #[s, x], argTypes := #[t, t] })
    (B : Nat) (v : Value) (n : Nat) (xs : List Value) (hs : a.eval s = v) (hown : w0.ownsRow B e size v n xs) (m c : Nat) (C : Array Value) (hx : a.eval x = .slice (some ⟨w0.heap.size, 0, none⟩) m c)
    (hw : w.heap = w0.heap.push (.cells C e)) (hw1 : w.os = w0.os) (hw2 : w.tape = w0.tape) (hw3 : w.output = w0.output)
    (hm : C.size = m * size) (hone : ∀ u ∈ C.toList, u.oneCell' = true) (hm0 : 0 < m) (hsz : (n + m) * bytes ≤ 140737488355328) (h63 : n + m ≤ maxLen) (hB : B ≤ w0.heap.size)
    (h : Appended w0 B e size v (n + m) (xs ++ C.toList) fun v' w' => K (a.put o.dst v') w') : if Region.wanted o (yielded ops a.tmps) = true then Oper.wp P o a w K Q else E := by
  have hwt : Region.wanted o (yielded ops a.tmps) = true := by simp [Region.wanted, hgd]
  rw [if_pos hwt]
  obtain ⟨v', w', hr, hK⟩ := run_appendx ht hinfo hzs hs0 w w0 o.type B v n xs hown m c C hw hw1 hw2 hw3 hm hone hm0 hsz h63 hB _ h
  unfold Oper.wp execOp
  simp only [ho, resolve, invoke, builtin, Sem.run_bind, Sem.run_pure, Result.andThen_ok, List.map_toArray, List.map_cons, List.map_nil, hs, hx, hr]
  exact hK

/-- A guard: the step's operation writes slot n. -/
theorem at_slot (n : Nat) {op : Op} {ty : TypeId} {p : String} {af : Array Edge} {g : Option (Nat × Bool)} {y : Nat → Option Bool} {A E : Prop} (h : if Region.wanted ⟨some n, op, ty, p, af, g⟩ y = true then A else E) :
    if Region.wanted ⟨some n, op, ty, p, af, g⟩ y = true then A else E := h

/-- BYTES: an owned row that reads as a list of bytes. -/
def OwnsB (w : World) (B : Nat) (e : TypeId) (v : Value) (l : List UInt8) : Prop := w.ownsRow B e 1 v l.length (byteCells l)
theorem Away.ownsB {r : Option Nat} {w w' : World} (h : Away r w w') {B : Nat} {v : Value} {l : List UInt8} (ho : OwnsB w B e v l) (hne : v.ownBlock = none ∨ v.ownBlock ≠ r) : OwnsB w' B e v l := h.owns ho hne
theorem OwnsB.nil (w : World) (B : Nat) : OwnsB w B e (.slice none 0 0) [] := World.ownsRow_nil _ _ _ _
/-- What an append of bytes leaves. -/
def AppB (w0 : World) (B : Nat) (e : TypeId) (v : Value) (l : List UInt8) (K : Value → World → Prop) : Prop :=
  ∀ l' g' cap w', Hid (l' = l) → OwnsB w' B e (.slice (some ⟨g', 0, none⟩) l'.length cap) l' → Away v.ownBlock w0 w' → Below B w0 w' → (v.ownBlock = some g' ∨ w0.heap.size ≤ g') → g' < w'.heap.size →
    K (.slice (some ⟨g', 0, none⟩) l'.length cap) w'
theorem AppB.to {w0 : World} {B : Nat} {v : Value} {l nl : List UInt8} {C : Array Value} {m : Nat} (hC : C.toList = byteCells nl) (hm : nl.length = m) {K : Value → World → Prop} (h : AppB w0 B e v (l ++ nl) K) :
    Appended w0 B e 1 v (l.length + m) (byteCells l ++ C.toList) K := by
  intro g' cap w' h1 h2 h3 h4 h5
  have e1 : l.length + m = (l ++ nl).length := by simp [hm]
  rw [e1] at h1 ⊢
  exact h _ g' cap w' rfl (by unfold OwnsB; rw [byteCells_append, ← hC]; exact h1) h2 h3 h4 h5
theorem wpList_app (ht : P.underlying t = some (.slice e)) (hinfo : (P.info? e).map (fun i => (i.zero, i.size, i.bytes)) = some (some (.int .u8 0), 1, 1)) (w w0 : World)
    {ops : Array Oper} {rest : List Oper} {o : Oper} {a : Act} {Q : Exit → Act → World → Prop} (hgd : o.guard = none) (s x : Operand)
    (ho : o.op = .call { callee := .builtin .append, args := #[s, x], argTypes := #[t, t] })
    (B : Nat) (v : Value) (l : List UInt8) (hs : a.eval s = v) (hown : OwnsB w0 B e v l) (nl : List UInt8) (m c : Nat) (C : Array Value) (hx : a.eval x = .slice (some ⟨w0.heap.size, 0, none⟩) m c)
    (hw : w.heap = w0.heap.push (.cells C e)) (hw1 : w.os = w0.os) (hw2 : w.tape = w0.tape) (hw3 : w.output = w0.output)
    (hC : C.toList = byteCells nl) (hm : nl.length = m) (hm0 : 0 < m) (hsz : l.length + m ≤ 1099511627776) (hB : B ≤ w0.heap.size)
    (h : AppB w0 B e v (l ++ nl) fun v' w' => wpList P ops Q rest (a.put o.dst v') w') : wpList P ops Q (o :: rest) a w :=
  wpList_appendx ht hinfo rfl (by decide) w w0 hgd s x ho B v _ _ hs hown m c C hx hw hw1 hw2 hw3 (by have := congrArg List.length hC; simp [byteCells] at this; omega) (by rw [hC]; exact byteCells_one _) hm0 (by omega) (by unfold maxLen; omega) hB (h.to hC hm)
theorem step_app (ht : P.underlying t = some (.slice e)) (hinfo : (P.info? e).map (fun i => (i.zero, i.size, i.bytes)) = some (some (.int .u8 0), 1, 1)) (w w0 : World)
    {ops : Array Oper} {o : Oper} {a : Act} {K : Act → World → Prop} {Q : Exit → Act → World → Prop} {E : Prop} (hgd : o.guard = none) (s x : Operand)
    (ho : o.op = .call { callee := .builtin .append, args := #[s, x], argTypes := #[t, t] })
    (B : Nat) (v : Value) (l : List UInt8) (hs : a.eval s = v) (hown : OwnsB w0 B e v l) (nl : List UInt8) (m c : Nat) (C : Array Value) (hx : a.eval x = .slice (some ⟨w0.heap.size, 0, none⟩) m c)
    (hw : w.heap = w0.heap.push (.cells C e)) (hw1 : w.os = w0.os) (hw2 : w.tape = w0.tape) (hw3 : w.output = w0.output)
    (hC : C.toList = byteCells nl) (hm : nl.length = m) (hm0 : 0 < m) (hsz : l.length + m ≤ 1099511627776) (hB : B ≤ w0.heap.size)
    (h : AppB w0 B e v (l ++ nl) fun v' w' => K (a.put o.dst v') w') : if Region.wanted o (yielded ops a.tmps) = true then Oper.wp P o a w K Q else E :=
  step_appendx ht hinfo rfl (by decide) w w0 hgd s x ho B v _ _ hs hown m c C hx hw hw1 hw2 hw3 (by have := congrArg List.length hC; simp [byteCells] at this; omega) (by rw [hC]; exact byteCells_one _) hm0 (by omega) (by unfold maxLen; omega) hB (h.to hC hm)

/-- '[]byte(s)': a new row in SOME world that has only new blocks. -/
theorem wpList_s2b {src : TypeId} (hsrc : P.underlying src = some .string) (ht : P.underlying t = some (.slice e)) (he : P.underlying e = some (.int .u8)) (w : World)
    {ops : Array Oper} {rest : List Oper} {o : Oper} {a : Act} {Q : Exit → Act → World → Prop} (hgd : o.guard = none) (x : Operand) (ho : o.op = .convert src t x) (s : ByteArray) (hx : a.eval x = .string s)
    (h : ∀ cap w1, Below w.heap.size w w1 → w.heap.size < w1.heap.size → (∀ j (hj : j < s.size), w1.cell? ⟨w.heap.size, j, none⟩ = some (.int .u8 ((s[j]).toNat : Int))) →
      wpList P ops Q rest (a.put o.dst (.slice (some ⟨w.heap.size, 0, none⟩) s.size cap)) w1) : wpList P ops Q (o :: rest) a w := by
  refine wpList_plain hgd fun _ hK => ?_
  unfold Oper.wp execOp
  simp only [ho, hx, Sem.run_bind, Lib.run_convert_string_bytes w src t e s hsrc ht he, Result.andThen_ok, Sem.run_pure]
  refine hK _ _ (h _ _ (Lib.bytesWorld_below _ _ _) (by rw [Lib.bytesWorld_size]; omega) fun j hj => ?_)
  rw [Lib.bytesWorld_cell w e s j hj]
  congr 3
  have : j < s.data.toList.length := by simpa using hj
  simp [List.getD_eq_getElem?_getD, List.getElem?_eq_getElem this]
  rfl

/-- 'string(b)' of a row that reads as the bytes l. -/
theorem wpList_b2s {dst : TypeId} (hd : P.underlying dst = some .string) (ht : P.underlying t = some (.slice e)) (he : P.underlying e = some (.int .u8)) (w : World)
    {ops : Array Oper} {rest : List Oper} {o : Oper} {a : Act} {Q : Exit → Act → World → Prop} (hgd : o.guard = none) (x : Operand) (ho : o.op = .convert t dst x) (B : Nat) (v : Value) (l : List UInt8)
    (hx : a.eval x = v) (hown : OwnsB w B e v l)
    (h : wpList P ops Q rest (a.put o.dst (.string ⟨l.toArray⟩)) w) : wpList P ops Q (o :: rest) a w := by
  refine wpList_plain hgd fun _ hK => ?_
  unfold Oper.wp execOp
  have hr : (convert t dst v).run P w = .ok (.string ⟨l.toArray⟩) w := by
    rcases hown.2 with ⟨rfl, hl⟩ | ⟨g, cap, cur, rfl, _, _⟩
    · have : l = [] := List.eq_nil_of_length_eq_zero hl
      subst this
      exact Lib.run_convert_nil_bytes w t dst e 0 ht he hd
    · refine run_convert_bytes_back w t dst e _ _ l ht he hd fun j hj => ?_
      refine hown.cells (g := g) rfl j _ ?_
      simp [byteCells, hj]
  simp only [ho, hx, Sem.run_bind, hr, Result.andThen_ok, Sem.run_pure]
  exact hK _ _ h
end
end Go.Proofs.EB
namespace Go.Proofs.EB
open Go.RowKit

section
variable {α : Type} (enc : α → List Value) (m : Nat)

/-- A slice that reads as a list. -/
def RAt (w : World) (B : Nat) (ao : Option Addr) (l : List α) : Prop :=
  l = [] ∨ ∃ b off, ao = some ⟨b, off, none⟩ ∧ b < B ∧ ∀ i (h : i < l.length) j u, (enc l[i])[j]? = some u → w.cell? ⟨b, off + i * m + j, none⟩ = some u
variable {enc m}
theorem RAt.nil {w : World} {B : Nat} {ao : Option Addr} : RAt enc m w B ao [] := .inl rfl
theorem RAt.below {B : Nat} {w w' : World} {ao : Option Addr} {l : List α} (h : RAt enc m w B ao l) (hb : Below B w w') : RAt enc m w' B ao l := by
  rcases h with h0 | ⟨b, off, ha, hlt, hc⟩
  · exact .inl h0
  · exact .inr ⟨b, off, ha, hlt, fun i hi j u hu => (hb.cell (p := ⟨b, off + i * m + j, none⟩) hlt).trans (hc i hi j u hu)⟩
theorem RAt.mono {B B' : Nat} {w : World} {ao : Option Addr} {l : List α} (h : RAt enc m w B ao l) (hB : B ≤ B') : RAt enc m w B' ao l := by
  rcases h with h0 | ⟨b, off, ha, hlt, hc⟩
  · exact .inl h0
  · exact .inr ⟨b, off, ha, by omega, hc⟩
theorem RAt.later {w w' : World} {ao : Option Addr} {l : List α} (h : RAt enc m w w.heap.size ao l) (hb : Below w.heap.size w w') : RAt enc m w' w'.heap.size ao l := (h.below hb).mono hb.size
theorem RAt.away {w w' : World} {B : Nat} {ao : Option Addr} {l : List α} {r : Option Nat} (h : RAt enc m w B ao l) (ha : Away r w w') (hB : B ≤ w.heap.size) (hr : ∀ b o, ao = some ⟨b, o, none⟩ → some b ≠ r) : RAt enc m w' B ao l := by
  rcases h with h0 | ⟨b, off, e, hlt, hc⟩
  · exact .inl h0
  · exact .inr ⟨b, off, e, hlt, fun i hi j u hu => (ha.cell (a := ⟨b, off + i * m + j, none⟩) (show b < w.heap.size by omega) (hr b off e)).trans (hc i hi j u hu)⟩
/-- A part of a row. -/
theorem RAt.drop {w : World} {B b off : Nat} {l : List α} (h : RAt enc m w B (some ⟨b, off, none⟩) l) (k : Nat) : RAt enc m w B (some ⟨b, off + k * m, none⟩) (l.drop k) := by
  rcases h with h0 | ⟨b', off', e, hlt, hc⟩
  · subst h0; left; simp
  · simp only [Option.some.injEq, Addr.mk.injEq] at e
    obtain ⟨rfl, rfl, _⟩ := e
    refine .inr ⟨b, _, rfl, hlt, fun i hi j u hu => ?_⟩
    rw [List.length_drop] at hi
    have h1 := hc (k + i) (by omega) j u (by simpa using hu)
    rw [show off + k * m + i * m + j = off + (k + i) * m + j by rw [Nat.add_mul]; omega]
    exact h1
theorem RAt.take {w : World} {B : Nat} {ao : Option Addr} {l : List α} (h : RAt enc m w B ao l) (k : Nat) : RAt enc m w B ao (l.take k) := by
  rcases h with h0 | ⟨b, off, e, hlt, hc⟩
  · subst h0; left; simp
  · refine .inr ⟨b, off, e, hlt, fun i hi j u hu => ?_⟩
    rw [List.length_take] at hi
    exact hc i (by omega) j u (by simpa using hu)
theorem RAt.form {w : World} {B : Nat} {ao : Option Addr} {l : List α} (h : RAt enc m w B ao l) (hl : 0 < l.length) : ∃ b off, ao = some ⟨b, off, none⟩ ∧ b < B := by
  rcases h with h0 | ⟨b, off, e, hlt, _⟩
  · subst h0; simp at hl
  · exact ⟨b, off, e, hlt⟩
theorem RAt.cell {w : World} {B b off : Nat} {l : List α} (h : RAt enc m w B (some ⟨b, off, none⟩) l) {i : Nat} (hi : i < l.length) {j : Nat} {u : Value} (hu : (enc l[i])[j]? = some u) : w.cell? ⟨b, off + i * m + j, none⟩ = some u := by
  rcases h with h0 | ⟨b', off', e, _, hc⟩
  · subst h0; simp at hi
  · simp only [Option.some.injEq, Addr.mk.injEq] at e
    obtain ⟨rfl, rfl, _⟩ := e
    exact hc i hi j u hu

/-- The cells of a list, one after the other. -/
def cellsL (enc : α → List Value) (l : List α) : List Value := l.flatMap enc
theorem cellsL_app (a b : List α) : cellsL enc (a ++ b) = cellsL enc a ++ cellsL enc b := by simp [cellsL]
theorem cellsL_one (a : α) : cellsL enc [a] = enc a := by simp [cellsL]
theorem cellsL_len (hm : ∀ a, (enc a).length = m) (l : List α) : (cellsL enc l).length = l.length * m := by
  unfold cellsL
  induction l with
  | nil => simp
  | cons a l ih => simp only [List.flatMap_cons, List.length_append, List.length_cons, ih, hm, Nat.add_mul]; omega
theorem cellsL_at (hm : ∀ a, (enc a).length = m) : ∀ (l : List α) (i : Nat) (h : i < l.length) (j : Nat) (u : Value), (enc l[i])[j]? = some u → (cellsL enc l)[i * m + j]? = some u
  | v :: l, 0, _, j, u, hu => by
    have hj := (List.getElem?_eq_some_iff.1 hu).1
    simp only [cellsL, List.flatMap_cons, Nat.zero_mul, Nat.zero_add]
    rw [List.getElem?_append_left (by simpa using hj)]
    exact hu
  | v :: l, i + 1, h, j, u, hu => by
    have ih := cellsL_at hm l i (by simpa using h) j u (by simpa using hu)
    simp only [cellsL, List.flatMap_cons] at ih ⊢
    rw [List.getElem?_append_right (by rw [hm, Nat.add_mul]; omega), hm, show (i + 1) * m + j - m = i * m + j by rw [Nat.add_mul]; omega]
    exact ih
theorem cellsL_get (hm : ∀ a, (enc a).length = m) (hm0 : 0 < m) {l : List α} {n : Nat} {u : Value} (h : (cellsL enc l)[n]? = some u) : ∃ i r, ∃ (hi : i < l.length), n = i * m + r ∧ (enc l[i])[r]? = some u := by
  have hlt := (List.getElem?_eq_some_iff.1 h).1
  rw [cellsL_len hm] at hlt
  have hi : n / m < l.length := Nat.div_lt_of_lt_mul (by rw [Nat.mul_comm]; exact hlt)
  refine ⟨n / m, n % m, hi, by rw [Nat.mul_comm]; exact (Nat.div_add_mod n m).symm, ?_⟩
  have hr : n % m < (enc l[n / m]).length := by rw [hm]; exact Nat.mod_lt _ hm0
  have h2 := cellsL_at hm l (n / m) hi (n % m) _ (List.getElem?_eq_getElem hr)
  rw [show n / m * m + n % m = n by rw [Nat.mul_comm]; exact Nat.div_add_mod n m, h] at h2
  rw [List.getElem?_eq_getElem hr, h2]

/-- An owned row. -/
def OwnsR (enc : α → List Value) (m : Nat) (w : World) (B : Nat) (e : TypeId) (v : Value) (l : List α) : Prop := w.ownsRow B e m v l.length (cellsL enc l)
theorem OwnsR.nil {w : World} {B : Nat} {e : TypeId} : OwnsR enc m w B e (.slice none 0 0) [] := World.ownsRow_nil _ _ _ _
theorem OwnsR.rAt (hm : ∀ a, (enc a).length = m) {w : World} {B : Nat} {e : TypeId} {v : Value} {l : List α} (h : OwnsR enc m w B e v l) : ∃ ao cap, v = .slice ao l.length cap ∧ RAt enc m w w.heap.size ao l ∧ (∀ b o, ao = some ⟨b, o, none⟩ → B ≤ b ∧ b < w.heap.size) ∧ (ao = none → cap = 0) ∧ l.length ≤ cap ∧ cap ≤ maxLen := by
  rcases h.2 with ⟨rfl, h0⟩ | ⟨g, cap, cur, rfl, hb, hg, hn, hx, hs, ht⟩
  · have : l = [] := List.eq_nil_of_length_eq_zero h0
    subst this
    exact ⟨none, 0, rfl, .inl rfl, fun _ _ h => by simp at h, fun _ => rfl, by simp, by simp [maxLen]⟩
  · have hgl := (Array.getElem?_eq_some_iff.1 hg).1
    refine ⟨_, _, rfl, .inr ⟨g, 0, rfl, hgl, fun i hi j u hu => ?_⟩, fun b o h => by simp at h; omega, fun h => by simp at h, hn, hx⟩
    have c0 := World.ownsRow.cells h (g := g) rfl _ _ (cellsL_at hm l i hi j u hu)
    rw [Go.WideShapes.add_plain] at c0
    rw [← c0]; congr 2; omega
theorem OwnsR.lt {w : World} {B : Nat} {e : TypeId} {v : Value} {l : List α} (h : OwnsR enc m w B e v l) : ∀ b, v.ownBlock = some b → B ≤ b ∧ b < w.heap.size := fun b hb => World.ownsRow.lt h b hb
theorem OwnsR.away {r : Option Nat} {w w' : World} {B : Nat} {e : TypeId} {v : Value} {l : List α} (ho : OwnsR enc m w B e v l) (h : Away r w w') (hne : v.ownBlock = none ∨ v.ownBlock ≠ r) : OwnsR enc m w' B e v l := h.owns ho hne
theorem OwnsR.below {w w' : World} {B : Nat} {e : TypeId} {v : Value} {l : List α} (ho : OwnsR enc m w B e v l) (h : Below w.heap.size w w') : OwnsR enc m w' B e v l :=
  ho.away (r := none) ⟨h.os, h.tape, h.output, h.size, fun k hk _ => h.block k hk⟩ (by cases hv : v.ownBlock <;> simp)
/-- A new block that the walk has laid, as an owned row. -/
theorem ownsR_new {w : World} {B g : Nat} {e : TypeId} {C : Array Value} {l : List α} (hm : ∀ a, (enc a).length = m) (hg : w.heap[g]? = some (.cells C e (0, 0))) (hB : B ≤ g) (hC : C.toList = cellsL enc l) (hl : l.length ≤ maxLen) :
    OwnsR enc m w B e (.slice (some ⟨g, 0, none⟩) l.length l.length) l := by
  refine ⟨cellsL_len hm l, .inr ⟨g, l.length, C, rfl, hB, hg, Nat.le_refl _, hl, ?_, ?_⟩⟩
  · have := congrArg List.length hC
    rw [cellsL_len hm] at this
    simpa using this
  · rw [hC]
    exact List.take_of_length_le (by rw [cellsL_len hm]; exact Nat.le_refl _)

variable {P : Program} {t e : TypeId}
/-- What an append leaves. -/
def AppR (enc : α → List Value) (m : Nat) (w0 : World) (B : Nat) (e : TypeId) (v : Value) (l : List α) (K : Value → World → Prop) : Prop :=
  ∀ l' g' cap w', Hid (l' = l) → OwnsR enc m w' B e (.slice (some ⟨g', 0, none⟩) l'.length cap) l' → Away v.ownBlock w0 w' → Below B w0 w' → (v.ownBlock = some g' ∨ w0.heap.size ≤ g') → g' < w'.heap.size →
    K (.slice (some ⟨g', 0, none⟩) l'.length cap) w'
theorem appR_to {w0 : World} {B : Nat} {v : Value} {l nl : List α} {C : Array Value} {K : Value → World → Prop} (hC : C.toList = cellsL enc nl) (h : AppR enc m w0 B e v (l ++ nl) K) :
    Appended w0 B e m v (l.length + nl.length) (cellsL enc l ++ C.toList) K := by
  intro g' cap w' h1 h2 h3 h4 h5
  rw [hC, ← cellsL_app, show l.length + nl.length = (l ++ nl).length by simp] at h1
  rw [show l.length + nl.length = (l ++ nl).length by simp]
  exact h _ g' cap w' rfl h1 h2 h3 h4 h5
/-- append(s, y1, .., yk): the new elements have been laid in a new block. -/
theorem wpList_appR (ht : P.underlying t = some (.slice e)) {z : Value} {bytes : Nat} (hinfo : (P.info? e).map (fun i => (i.zero, i.size, i.bytes)) = some (some z, m, bytes)) (hzs : z.cells.size = m) (hm0 : 0 < m) (hm : ∀ a, (enc a).length = m) (hone : ∀ a, ∀ u ∈ enc a, u.oneCell' = true)
    (w w0 : World) {ops : Array Oper} {rest : List Oper} {o : Oper} {a : Act} {Q : Exit → Act → World → Prop} (hgd : o.guard = none) (s x : Operand)
    (ho : o.op = .call { callee := .builtin .append, args := #[s, x], argTypes := #[t, t] })
    (B : Nat) (v : Value) (l : List α) (hs : a.eval s = v) (hown : OwnsR enc m w0 B e v l) (nl : List α) (k c : Nat) (C : Array Value) (hx : a.eval x = .slice (some ⟨w0.heap.size, 0, none⟩) k c)
    (hw : w.heap = w0.heap.push (.cells C e)) (hw1 : w.os = w0.os) (hw2 : w.tape = w0.tape) (hw3 : w.output = w0.output)
    (hC : C.toList = cellsL enc nl) (hk : nl.length = k) (hk0 : 0 < k) (hsz : (l.length + k) * bytes ≤ 140737488355328) (h63 : l.length + k ≤ maxLen) (hB : B ≤ w0.heap.size)
    (h : AppR enc m w0 B e v (l ++ nl) fun v' w' => wpList P ops Q rest (a.put o.dst v') w') : wpList P ops Q (o :: rest) a w := by
  subst hk
  refine wpList_appendx ht hinfo hzs hm0 w w0 hgd s x ho B v _ _ hs hown nl.length c C hx hw hw1 hw2 hw3 ?_ ?_ hk0 hsz h63 hB (appR_to hC h)
  · have := congrArg List.length hC
    rw [cellsL_len hm] at this
    simpa using this
  · rw [hC]
    intro u hu
    simp only [cellsL, List.mem_flatMap] at hu
    obtain ⟨y, _, hy⟩ := hu
    exact hone y u hy
theorem step_appR (ht : P.underlying t = some (.slice e)) {z : Value} {bytes : Nat} (hinfo : (P.info? e).map (fun i => (i.zero, i.size, i.bytes)) = some (some z, m, bytes)) (hzs : z.cells.size = m) (hm0 : 0 < m) (hm : ∀ a, (enc a).length = m) (hone : ∀ a, ∀ u ∈ enc a, u.oneCell' = true)
    (w w0 : World) {ops : Array Oper} {o : Oper} {a : Act} {K : Act → World → Prop} {Q : Exit → Act → World → Prop} {E : Prop} (hgd : o.guard = none) (s x : Operand)
    (ho : o.op = .call { callee := .builtin .append, args := #[s, x], argTypes := #[t, t] })
    (B : Nat) (v : Value) (l : List α) (hs : a.eval s = v) (hown : OwnsR enc m w0 B e v l) (nl : List α) (k c : Nat) (C : Array Value) (hx : a.eval x = .slice (some ⟨w0.heap.size, 0, none⟩) k c)
    (hw : w.heap = w0.heap.push (.cells C e)) (hw1 : w.os = w0.os) (hw2 : w.tape = w0.tape) (hw3 : w.output = w0.output)
    (hC : C.toList = cellsL enc nl) (hk : nl.length = k) (hk0 : 0 < k) (hsz : (l.length + k) * bytes ≤ 140737488355328) (h63 : l.length + k ≤ maxLen) (hB : B ≤ w0.heap.size)
    (h : AppR enc m w0 B e v (l ++ nl) fun v' w' => K (a.put o.dst v') w') : if Region.wanted o (yielded ops a.tmps) = true then Oper.wp P o a w K Q else E := by
  subst hk
  refine step_appendx ht hinfo hzs hm0 w w0 hgd s x ho B v _ _ hs hown nl.length c C hx hw hw1 hw2 hw3 ?_ ?_ hk0 hsz h63 hB (appR_to hC h)
  · have := congrArg List.length hC
    rw [cellsL_len hm] at this
    simpa using this
  · rw [hC]
    intro u hu
    simp only [cellsL, List.mem_flatMap] at hu
    obtain ⟨y, _, hy⟩ := hu
    exact hone y u hy
/-- append(s, x...): a row that reads as a list, behind a row of the call's own. -/
theorem wpList_copyR (ht : P.underlying t = some (.slice e)) {z : Value} {bytes : Nat} (hinfo : (P.info? e).map (fun i => (i.zero, i.size, i.bytes)) = some (some z, m, bytes)) (hzs : z.cells.size = m) (hm0 : 0 < m) (hm : ∀ a, (enc a).length = m) (hone : ∀ a, ∀ u ∈ enc a, u.oneCell' = true)
    (w : World) {ops : Array Oper} {rest : List Oper} {o : Oper} {a : Act} {Q : Exit → Act → World → Prop} (hgd : o.guard = none) (s x : Operand)
    (ho : o.op = .call { callee := .builtin .append, args := #[s, x], argTypes := #[t, t] })
    (B : Nat) (v : Value) (l : List α) (hs : a.eval s = v) (hown : OwnsR enc m w B e v l) (B' : Nat) (ao : Option Addr) (cap : Nat) (nl : List α) (hx : a.eval x = .slice ao nl.length cap)
    (hrow : RAt enc m w B' ao nl) (hnil : ao = none → cap = 0) (hsz : (l.length + nl.length) * bytes ≤ 140737488355328) (h63 : l.length + nl.length ≤ maxLen) (hB : B ≤ w.heap.size)
    (h : ∀ l' v' w', Hid (l' = l ++ nl) → OwnsR enc m w' B e v' l' → Away v.ownBlock w w' → Below B w w' → (v'.ownBlock = v.ownBlock ∨ v'.ownBlock = some w.heap.size) → (v' = .slice none 0 0 ↔ v = .slice none 0 0 ∧ nl = []) → wpList P ops Q rest (a.put o.dst v') w') :
    wpList P ops Q (o :: rest) a w := by
  obtain ⟨i0, hi, hz0, hz1, hz2⟩ := info_parts hinfo
  cases ao with
  | none =>
    have hl : nl = [] := by
      rcases hrow with h0 | ⟨b, off, e, _⟩
      · exact h0
      · simp at e
    subst hl
    rw [hnil rfl] at hx
    exact wpList_append_own_none hgd s x t ho B e i0 m ht hi _ _ _ hs hown hx (h l v w (by simp [Hid]) hown ⟨rfl, rfl, rfl, Nat.le_refl _, fun _ _ _ => rfl⟩ (Below.refl _ _) (.inl rfl) (by simp))
  | some ad =>
    have hnews : ∀ j u, (cellsL enc nl)[j]? = some u → w.cell? (ad.add j) = some u := by
      intro j u hj
      obtain ⟨i, r, hi, rfl, hu⟩ := cellsL_get hm hm0 hj
      rcases hrow with h0 | ⟨b, off, e, _, hc⟩
      · subst h0; simp at hi
      · simp only [Option.some.injEq] at e
        subst e
        rw [Go.WideShapes.add_plain, ← Nat.add_assoc]
        exact hc i hi _ _ hu
    have h1 : ∀ u ∈ cellsL enc nl, u.oneCell' = true := by
      intro u hu
      simp only [cellsL, List.mem_flatMap] at hu
      obtain ⟨y, _, hy⟩ := hu
      exact hone y u hy
    refine wpList_append_own_at (w := w) hgd s x t ho B e i0 z m bytes ht hi hz0 hz1 hz2 hzs hm0 _ _ _ hs hown ad nl.length cap (cellsL enc nl) hx (cellsL_len hm nl) hnews h1 h63 hsz hB ?_
    intro v' w' k1 k2 k3 k4
    have hA : Away v.ownBlock w w' := ⟨k2.os, k2.tape, k2.output, k2.size, k2.block⟩
    rw [← cellsL_app, show l.length + nl.length = (l ++ nl).length by simp] at k1
    exact h (l ++ nl) v' w' rfl k1 hA (hA.below hB (fun k hk => (hown.lt k hk).1)) k4 (by rw [k3, List.length_eq_zero_iff])
end
end Go.Proofs.EB
/- An append of a row that reads as a list, as a step of a region that draws its order; rows of ints. Nothing of a program in it. -/
namespace Go.Proofs.EB
open Go.RowKit
section
variable {α : Type} {enc : α → List Value} {m : Nat} {P : Program} {t e : TypeId}
theorem step_copyR (ht : P.underlying t = some (.slice e)) {z : Value} {bytes : Nat} (hinfo : (P.info? e).map (fun i => (i.zero, i.size, i.bytes)) = some (some z, m, bytes)) (hzs : z.cells.size = m) (hm0 : 0 < m) (hm : ∀ a, (enc a).length = m) (hone : ∀ a, ∀ u ∈ enc a, u.oneCell' = true)
    (w : World) {ops : Array Oper} {o : Oper} {a : Act} {K : Act → World → Prop} {Q : Exit → Act → World → Prop} {E : Prop} (hgd : o.guard = none) (s x : Operand)
    (ho : o.op = .call { callee := .builtin .append, args := #[s, x], argTypes := #[t, t] })
    (B : Nat) (v : Value) (l : List α) (hs : a.eval s = v) (hown : OwnsR enc m w B e v l) (B' : Nat) (ad : Addr) (cap : Nat) (nl : List α) (hx : a.eval x = .slice (some ad) nl.length cap)
    (hrow : RAt enc m w B' (some ad) nl) (hsz : (l.length + nl.length) * bytes ≤ 140737488355328) (h63 : l.length + nl.length ≤ maxLen) (hB : B ≤ w.heap.size)
    (h : ∀ l' v' w', Hid (l' = l ++ nl) → OwnsR enc m w' B e v' l' → Away v.ownBlock w w' → Below B w w' → (v'.ownBlock = v.ownBlock ∨ v'.ownBlock = some w.heap.size) → K (a.put o.dst v') w') :
    if Region.wanted o (yielded ops a.tmps) = true then Oper.wp P o a w K Q else E := by
  have hwt : Region.wanted o (yielded ops a.tmps) = true := by simp [Region.wanted, hgd]
  rw [if_pos hwt]
  obtain ⟨i0, hi, hz0, hz1, hz2⟩ := info_parts hinfo
  have hnews : ∀ j u, (cellsL enc nl)[j]? = some u → w.cell? (ad.add j) = some u := by
    intro j u hj
    obtain ⟨i, r, hi, rfl, hu⟩ := cellsL_get hm hm0 hj
    rcases hrow with h0 | ⟨b, off, e, _, hc⟩
    · subst h0; simp at hi
    · simp only [Option.some.injEq] at e
      subst e
      rw [Go.WideShapes.add_plain, ← Nat.add_assoc]
      exact hc i hi _ _ hu
  have h1 : ∀ u ∈ cellsL enc nl, u.oneCell' = true := by
    intro u hu
    simp only [cellsL, List.mem_flatMap] at hu
    obtain ⟨y, _, hy⟩ := hu
    exact hone y u hy
  obtain ⟨v', w', hr, k1, k2, _, k4⟩ := run_append_own_at (P := P) w B t o.type e i0 z m bytes ht hi hz0 hz1 hz2 hzs hm0 v l.length (cellsL enc l) hown ad nl.length cap (cellsL enc nl) (cellsL_len hm nl) hnews h1 h63 hsz hB
  have hA : Away v.ownBlock w w' := ⟨k2.os, k2.tape, k2.output, k2.size, k2.block⟩
  rw [← cellsL_app, show l.length + nl.length = (l ++ nl).length by simp] at k1
  unfold Oper.wp execOp
  simp only [ho, resolve, invoke, builtin, Sem.run_bind, Sem.run_pure, Result.andThen_ok, List.map_toArray, List.map_cons, List.map_nil, hs, hx, hr]
  exact h (l ++ nl) v' w' rfl k1 hA (hA.below hB (fun k hk => (hown.lt k hk).1)) k4
end
/-- Rows of ints. -/
def encInt (n : Int) : List Value := [.int .i64 n]
theorem encInt_len (n : Int) : (encInt n).length = 1 := rfl
theorem encInt_one (n : Int) : ∀ u ∈ encInt n, u.oneCell' = true := by intro u hu; simp [encInt] at hu; subst hu; rfl
theorem RAt.int {w : World} {B b off : Nat} {l : List Int} (h : RAt encInt 1 w B (some ⟨b, off, none⟩) l) {i : Nat} (hi : i < l.length) : w.cell? ⟨b, off + i, none⟩ = some (.int .i64 l[i]) := by
  have := RAt.cell h hi (j := 0) (u := .int .i64 l[i]) rfl
  simpa using this
end Go.Proofs.EB
/- Contracts of the functions Valid, Clean, ValidRow of package value and of its reference, and of long: what each returns, as plain functions of the values; old memory is not changed. -/
namespace Go.Proofs.YtenonljnldbkiaaGreatDoor
open Go.RowKit

def validB (k n : Int) (s : ByteArray) : Bool :=
  if k = 0 then (n == 0) && s.toList.isEmpty
  else if k = 1 then s.toList.isEmpty && (decide (-4294967296 ≤ n) && decide (n ≤ 4294967296))
  else if k = 2 then (n == 0) && decide (s.size ≤ 32)
  else false

structure V where
  k : Int
  n : Int
  s : ByteArray
def V.ok (v : V) : Prop := (-9223372036854775808 ≤ v.k ∧ v.k ≤ 9223372036854775807) ∧ (-9223372036854775808 ≤ v.n ∧ v.n ≤ 9223372036854775807) ∧ v.s.size ≤ maxLen
def V.zero : V := ⟨0, 0, ⟨#[]⟩⟩
def V.val (v : V) : Value := .agg #[.int .i64 v.k, .int .i64 v.n, .string v.s]
def vB (v : V) : Bool := validB v.k v.n v.s
def cleanV (v : V) : V := if vB v = true then v else V.zero
def VCells (w : World) (b o : Nat) (v : V) : Prop :=
  w.cell? ⟨b, o, none⟩ = some (.int .i64 v.k) ∧ w.cell? ⟨b, o + 1, none⟩ = some (.int .i64 v.n) ∧ w.cell? ⟨b, o + 2, none⟩ = some (.string v.s)
def RowAt (w : World) (B : Nat) (ao : Option Addr) (l : List V) : Prop :=
  (∀ v ∈ l, v.ok) ∧ (l = [] ∨ ∃ b off, ao = some ⟨b, off, none⟩ ∧ b < B ∧ ∀ i (h : i < l.length), VCells w b (off + i * 3) l[i])
theorem VCells.below {B : Nat} {w w' : World} {b o : Nat} {v : V} (h : VCells w b o v) (hb : Below B w w') (hlt : b < B) : VCells w' b o v :=
  ⟨(hb.cell hlt).trans h.1, (hb.cell hlt).trans h.2.1, (hb.cell hlt).trans h.2.2⟩
theorem RowAt.below {B : Nat} {w w' : World} {ao : Option Addr} {l : List V} (h : RowAt w B ao l) (hb : Below B w w') : RowAt w' B ao l := by
  refine ⟨h.1, ?_⟩
  rcases h.2 with h0 | ⟨b, off, ha, hlt, hc⟩
  · exact .inl h0
  · exact .inr ⟨b, off, ha, hlt, fun i hi => (hc i hi).below hb hlt⟩
theorem RowAt.mono {B B' : Nat} {w : World} {ao : Option Addr} {l : List V} (h : RowAt w B ao l) (hB : B ≤ B') : RowAt w B' ao l := by
  refine ⟨h.1, ?_⟩
  rcases h.2 with h0 | ⟨b, off, ha, hlt, hc⟩
  · exact .inl h0
  · exact .inr ⟨b, off, ha, by omega, hc⟩
theorem RowAt.at {B : Nat} {w : World} {ao : Option Addr} {l : List V} (h : RowAt w B ao l) {i : Nat} (hi : i < l.length) :
    ∃ b off k n s, ao = some ⟨b, off, none⟩ ∧ b < B ∧ l[i] = ⟨k, n, s⟩ ∧ (⟨k, n, s⟩ : V).ok ∧ w.cell? ⟨b, off + i * 3, none⟩ = some (.int .i64 k) ∧ w.cell? ⟨b, off + i * 3 + 1, none⟩ = some (.int .i64 n) ∧ w.cell? ⟨b, off + i * 3 + 2, none⟩ = some (.string s) := by
  rcases h.2 with h0 | ⟨b, off, ha, hlt, hc⟩
  · subst h0; simp at hi
  · obtain ⟨c1, c2, c3⟩ := hc i hi
    exact ⟨b, off, _, _, _, ha, hlt, rfl, h.1 _ (List.getElem_mem hi), c1, c2, c3⟩

theorem cleanV_ok {v : V} (h : v.ok) : (cleanV v).ok := by
  unfold cleanV; split
  · exact h
  · exact ⟨by simp [V.zero], by simp [V.zero], by simp [V.zero, maxLen, ByteArray.size]⟩
theorem cleanV_valid (v : V) : vB (cleanV v) = true := by
  unfold cleanV; split
  · assumption
  · simp [vB, validB, V.zero]
theorem cleanV_idem {v : V} (h : vB v = true) : cleanV v = v := by simp [cleanV, h]

theorem len_below {w w' : World} (h : Below w.heap.size w w') : w.heap.size ≤ w'.heap.size := h.size
set_option maxHeartbeats 400000
theorem valid_any (k n : Int) (s : ByteArray) (w : World) (hs : s.size ≤ maxLen) :
    Calls Tryz.prog 192 #[.agg #[.int .i64 k, .int .i64 n, .string s]] w fun e w' => e = .returned (.bool (validB k n s)) ∧ w' = w.alloc (.cells #[.int .i64 k, .int .i64 n, .string s] 142) := by
  unfold maxLen at hs
  go_enter Tryz.func192, Tryz.ntmps192
  go_wp2
  all_goals go_ret
  all_goals (simp only [beq_iff_eq, beq_eq_false_iff_ne, ne_eq] at *; simp [validB, *]; try omega)

theorem rvalid_any (k n : Int) (s : ByteArray) (w : World) (hs : s.size ≤ maxLen) :
    Calls Tryz.prog 182 #[.agg #[.int .i64 k, .int .i64 n, .string s]] w fun e w' => e = .returned (.bool (validB k n s)) ∧ w' = w.alloc (.cells #[.int .i64 k, .int .i64 n, .string s] 142) := by
  unfold maxLen at hs
  go_enter Tryz.func182, Tryz.ntmps182
  go_wp2
  all_goals go_ret
  all_goals (simp only [beq_iff_eq, beq_eq_false_iff_ne, ne_eq] at *; simp [validB, *]; try omega)

/-- What a call of Clean leaves: the clean value. -/
def CleanPost (v : V) (w : World) (e : Ending) (w' : World) : Prop := ∃ k n s, e = .returned (.agg #[.int .i64 k, .int .i64 n, .string s]) ∧ (⟨k, n, s⟩ : V) = cleanV v ∧ Below w.heap.size w w'


theorem rclean_any (k n : Int) (s : ByteArray) (w : World) (hs : s.size ≤ maxLen) :
    Calls Tryz.prog 179 #[.agg #[.int .i64 k, .int .i64 n, .string s]] w (CleanPost ⟨k, n, s⟩ w) := by
  cases hv : validB k n s
  · go_enter Tryz.func179, Tryz.ntmps179
    go_wp2_with fail
    refine (rvalid_any _ _ _ _ hs).mono ?_
    rintro e w' ⟨rfl, rfl⟩
    go_wp2_with fail
    refine bodyPost_ret (v := .agg #[.int .i64 0, .int .i64 0, .string ⟨#[]⟩]) (by simp [results, Tryz.results179, go_sem]) rfl ⟨0, 0, ⟨#[]⟩, rfl, by simp [cleanV, vB, hv, V.zero], ?_⟩
    exact (((Below.refl _ _).alloc (by simp) _).alloc (by simp) _).alloc (by simp; omega) _
  · go_enter Tryz.func179, Tryz.ntmps179
    go_wp2_with fail
    refine (rvalid_any _ _ _ _ hs).mono ?_
    rintro e w' ⟨rfl, rfl⟩
    go_wp2_with fail
    refine bodyPost_ret (v := .agg #[.int .i64 k, .int .i64 n, .string s]) (by simp [results, Tryz.results179, go_sem]) rfl ⟨k, n, s, rfl, by simp [cleanV, vB, hv], ?_⟩
    exact (((Below.refl _ _).alloc (by simp) _).alloc (by simp) _).alloc (by simp; omega) _

end Go.Proofs.YtenonljnldbkiaaGreatDoor
/- Expressions as trees (plain lists; for the laws of package expr): terms, their arity, the tree that a list of terms reads as, substitution, evaluation over an operator's value. -/
namespace Go.Proofs.YtenonljnldbkiaaGreatDoor
open Go.RowKit

/-- A term. -/
structure Tm where
  op : Int
  v : V
  c : Int
def arityI (op : Int) : Int := if op = 1 ∨ op = 2 then 0 else if op = 3 ∨ op = 9 ∨ op = 13 ∨ op = 16 then 1 else if op = 18 then 3 else if 1 ≤ op ∧ op ≤ 18 then 2 else -1
theorem arity_cases (op : Int) : arityI op = -1 ∨ arityI op = 0 ∨ arityI op = 1 ∨ arityI op = 2 ∨ arityI op = 3 := by
  unfold arityI
  repeat' split
  all_goals simp
def zeroB (v : V) : Bool := v.k == 0 && v.n == 0 && v.s.toList.isEmpty
def fieldsB (t : Tm) : Bool :=
  if t.op = 1 then vB t.v && !(t.v.k == 0) && t.c == 0
  else if t.op = 2 then zeroB t.v && decide (0 ≤ t.c)
  else zeroB t.v && t.c == 0
def termB (t : Tm) : Bool := decide (0 ≤ arityI t.op) && fieldsB t
/-- An expression as a tree. -/
inductive Ex where
  | x0 (t : Tm)
  | x1 (t : Tm) (a : Ex)
  | x2 (t : Tm) (a b : Ex)
  | x3 (t : Tm) (a b c : Ex)
def Ex.flat : Ex → List Tm
  | .x0 t => [t]
  | .x1 t a => t :: a.flat
  | .x2 t a b => t :: (a.flat ++ b.flat)
  | .x3 t a b c => t :: (a.flat ++ (b.flat ++ c.flat))
def Ex.depth : Ex → Nat
  | .x0 _ => 1
  | .x1 _ a => a.depth + 1
  | .x2 _ a b => max a.depth b.depth + 1
  | .x3 _ a b c => max a.depth (max b.depth c.depth) + 1
def Ex.ok : Ex → Prop
  | .x0 t => termB t = true ∧ arityI t.op = 0
  | .x1 t a => termB t = true ∧ arityI t.op = 1 ∧ a.ok
  | .x2 t a b => termB t = true ∧ arityI t.op = 2 ∧ a.ok ∧ b.ok
  | .x3 t a b c => termB t = true ∧ arityI t.op = 3 ∧ a.ok ∧ b.ok ∧ c.ok
theorem Ex.flat_pos (x : Ex) : 0 < x.flat.length := by cases x <;> simp [Ex.flat]
/-- The tree at the head of a list of terms, at most so deep, and what stands behind it. -/
def pEx : Nat → List Tm → Option (Ex × List Tm)
  | 0, _ => none
  | _ + 1, [] => none
  | d + 1, t :: l =>
    if termB t = true then
      if arityI t.op = 0 then some (.x0 t, l)
      else match pEx d l with
        | none => none
        | some (a, l1) =>
          if arityI t.op = 1 then some (.x1 t a, l1)
          else match pEx d l1 with
            | none => none
            | some (b, l2) =>
              if arityI t.op = 2 then some (.x2 t a b, l2)
              else match pEx d l2 with
                | none => none
                | some (c, l3) => some (.x3 t a b c, l3)
    else none
theorem pEx_sound : ∀ (d : Nat) (l : List Tm) (x : Ex) (r : List Tm), pEx d l = some (x, r) → l = x.flat ++ r ∧ x.ok ∧ x.depth ≤ d := by
  intro d
  induction d with
  | zero => intro l x r h; simp [pEx] at h
  | succ d ih =>
    intro l x r h
    cases l with
    | nil => simp [pEx] at h
    | cons t l =>
      rw [pEx] at h
      by_cases ht : termB t = true
      · rw [if_pos ht] at h
        by_cases h0 : arityI t.op = 0
        · rw [if_pos h0] at h
          simp only [Option.some.injEq, Prod.mk.injEq] at h
          obtain ⟨rfl, rfl⟩ := h
          exact ⟨rfl, ⟨ht, h0⟩, by simp [Ex.depth]⟩
        · rw [if_neg h0] at h
          cases ha : pEx d l with
          | none => rw [ha] at h; simp at h
          | some p =>
            obtain ⟨a, l1⟩ := p
            obtain ⟨ea, oa, da⟩ := ih _ _ _ ha
            rw [ha] at h
            simp only at h
            by_cases h1 : arityI t.op = 1
            · rw [if_pos h1] at h
              simp only [Option.some.injEq, Prod.mk.injEq] at h
              obtain ⟨rfl, rfl⟩ := h
              exact ⟨by rw [ea]; rfl, ⟨ht, h1, oa⟩, by simp [Ex.depth]; omega⟩
            · rw [if_neg h1] at h
              cases hb : pEx d l1 with
              | none => rw [hb] at h; simp at h
              | some p =>
                obtain ⟨b, l2⟩ := p
                obtain ⟨eb, ob, db⟩ := ih _ _ _ hb
                rw [hb] at h
                simp only at h
                by_cases h2 : arityI t.op = 2
                · rw [if_pos h2] at h
                  simp only [Option.some.injEq, Prod.mk.injEq] at h
                  obtain ⟨rfl, rfl⟩ := h
                  exact ⟨by rw [ea, eb]; simp [Ex.flat], ⟨ht, h2, oa, ob⟩, by simp [Ex.depth]; omega⟩
                · rw [if_neg h2] at h
                  cases hc : pEx d l2 with
                  | none => rw [hc] at h; simp at h
                  | some p =>
                    obtain ⟨c, l3⟩ := p
                    obtain ⟨ec, oc, dc⟩ := ih _ _ _ hc
                    rw [hc] at h
                    simp only [Option.some.injEq, Prod.mk.injEq] at h
                    obtain ⟨rfl, rfl⟩ := h
                    have h3 : arityI t.op = 3 := by
                      have h4 := arity_cases t.op
                      have h5 : 0 ≤ arityI t.op := by unfold termB at ht; simp at ht; exact ht.1
                      omega
                    exact ⟨by rw [ea, eb, ec]; simp [Ex.flat], ⟨ht, h3, oa, ob, oc⟩, by simp [Ex.depth]; omega⟩
      · rw [if_neg ht] at h; cases h
theorem pEx_comp : ∀ (x : Ex) (d : Nat) (r : List Tm), x.ok → x.depth ≤ d → pEx d (x.flat ++ r) = some (x, r) := by
  intro x
  induction x with
  | x0 t =>
    intro d r h hd
    obtain ⟨d, rfl⟩ : ∃ k, d = k + 1 := ⟨d - 1, by simp [Ex.depth] at hd; omega⟩
    show pEx (d + 1) (t :: r) = _
    rw [pEx, if_pos h.1, if_pos h.2]
  | x1 t a iha =>
    intro d r h hd
    simp only [Ex.depth] at hd
    obtain ⟨d, rfl⟩ : ∃ k, d = k + 1 := ⟨d - 1, by omega⟩
    obtain ⟨ht, h1, oa⟩ := h
    show pEx (d + 1) (t :: (a.flat ++ r)) = _
    rw [pEx, if_pos ht, if_neg (by omega), iha d r oa (by omega)]
    simp only
    rw [if_pos h1]
  | x2 t a b iha ihb =>
    intro d r h hd
    simp only [Ex.depth] at hd
    obtain ⟨d, rfl⟩ : ∃ k, d = k + 1 := ⟨d - 1, by omega⟩
    obtain ⟨ht, h2, oa, ob⟩ := h
    have e : (Ex.x2 t a b).flat ++ r = t :: (a.flat ++ (b.flat ++ r)) := by simp [Ex.flat]
    rw [e, pEx, if_pos ht, if_neg (by omega), iha d _ oa (by omega)]
    simp only
    rw [if_neg (by omega), ihb d r ob (by omega)]
    simp only
    rw [if_pos h2]
  | x3 t a b c iha ihb ihc =>
    intro d r h hd
    simp only [Ex.depth] at hd
    obtain ⟨d, rfl⟩ : ∃ k, d = k + 1 := ⟨d - 1, by omega⟩
    obtain ⟨ht, h3, oa, ob, oc⟩ := h
    have e : (Ex.x3 t a b c).flat ++ r = t :: (a.flat ++ (b.flat ++ (c.flat ++ r))) := by simp [Ex.flat]
    rw [e, pEx, if_pos ht, if_neg (by omega), iha d _ oa (by omega)]
    simp only
    rw [if_neg (by omega), ihb d _ ob (by omega)]
    simp only
    rw [if_neg (by omega), ihc d r oc (by omega)]
/-- A valid expression. -/
def ValidX (l : List Tm) (x : Ex) : Prop := l = x.flat ∧ x.ok ∧ x.depth ≤ 16 ∧ l.length ≤ 64
def validL (l : List Tm) : Bool := decide (1 ≤ l.length) && decide (l.length ≤ 64) && (match pEx 16 l with | some (_, []) => true | _ => false)
theorem validL_of {l : List Tm} {x : Ex} (h : ValidX l x) : validL l = true := by
  obtain ⟨rfl, ho, hd, hl⟩ := h
  have h1 := pEx_comp x 16 [] ho hd
  rw [List.append_nil] at h1
  have h2 := x.flat_pos
  unfold validL
  rw [h1]
  simp; omega
theorem validL_tree {l : List Tm} (h : validL l = true) : ∃ x, ValidX l x := by
  unfold validL at h
  simp only [Bool.and_eq_true, decide_eq_true_eq] at h
  obtain ⟨⟨_, hl⟩, h⟩ := h
  cases hp : pEx 16 l with
  | none => rw [hp] at h; simp at h
  | some p =>
    obtain ⟨x, r⟩ := p
    rw [hp] at h
    cases r with
    | nil =>
      obtain ⟨e, ho, hd⟩ := pEx_sound _ _ _ _ hp
      rw [List.append_nil] at e
      exact ⟨x, e, ho, hd, hl⟩
    | cons _ _ => simp at h
theorem flat_inj {x y : Ex} (hx : x.ok) (hy : y.ok) (r r' : List Tm) (h : x.flat ++ r = y.flat ++ r') : x = y ∧ r = r' := by
  have h1 := pEx_comp x (max x.depth y.depth) r hx (by omega)
  have h2 := pEx_comp y (max x.depth y.depth) r' hy (by omega)
  rw [h, h2] at h1
  simp only [Option.some.injEq, Prod.mk.injEq] at h1
  exact ⟨h1.1.symm, h1.2.symm⟩
/-- Where the expression at a position ends (the reference's measure), if it is at most so deep. -/
def endO (e : List Tm) (at_ d : Nat) : Int := match pEx d (e.drop at_) with | some (_, r) => ((e.length - r.length : Nat) : Int) | none => -1

/- Substitution. -/
def Ex.subst (it : Int → Ex) : Ex → Ex
  | .x0 t => if t.op = 2 then it t.c else .x0 t
  | .x1 t a => .x1 t (a.subst it)
  | .x2 t a b => .x2 t (a.subst it) (b.subst it)
  | .x3 t a b c => .x3 t (a.subst it) (b.subst it) (c.subst it)
/-- Every column of the tree satisfies p. -/
def Ex.cols (p : Int → Prop) : Ex → Prop
  | .x0 t => t.op = 2 → p t.c
  | .x1 _ a => a.cols p
  | .x2 _ a b => a.cols p ∧ b.cols p
  | .x3 _ a b c => a.cols p ∧ b.cols p ∧ c.cols p
theorem subst_ok {p : Int → Prop} {it : Int → Ex} (h : ∀ c, p c → (it c).ok) : ∀ x : Ex, x.ok → x.cols p → (x.subst it).ok := by
  intro x
  induction x with
  | x0 t =>
    intro ho hc
    unfold Ex.subst
    by_cases h2 : t.op = 2
    · rw [if_pos h2]; exact h _ (hc h2)
    · rw [if_neg h2]; exact ho
  | x1 t a ia => intro ho hc; exact ⟨ho.1, ho.2.1, ia ho.2.2 hc⟩
  | x2 t a b ia ib => intro ho hc; exact ⟨ho.1, ho.2.1, ia ho.2.2.1 hc.1, ib ho.2.2.2 hc.2⟩
  | x3 t a b c ia ib ic => intro ho hc; exact ⟨ho.1, ho.2.1, ia ho.2.2.1 hc.1, ib ho.2.2.2.1 hc.2.1, ic ho.2.2.2.2 hc.2.2⟩
/-- The terms of a substituted tree: each column's term replaced by its item's. -/
theorem subst_flat (it : Int → Ex) : ∀ x : Ex, x.ok → (x.subst it).flat = x.flat.flatMap fun t => if t.op = 2 then (it t.c).flat else [t] := by
  have inner : ∀ (t : Tm) (k : Int), arityI t.op = k → k ≠ 0 → t.op ≠ 2 := by
    intro t k h hk e
    rw [e] at h
    exact hk (h.symm.trans (by decide))
  intro x
  induction x with
  | x0 t =>
    intro _
    unfold Ex.subst
    by_cases h2 : t.op = 2
    · rw [if_pos h2]; simp [Ex.flat, h2]
    · rw [if_neg h2]; simp [Ex.flat, h2]
  | x1 t a ia =>
    intro ho
    have h2 := inner t 1 ho.2.1 (by decide)
    simp only [Ex.subst, Ex.flat, List.flatMap_cons, if_neg h2, ia ho.2.2, List.singleton_append]
  | x2 t a b ia ib =>
    intro ho
    have h2 := inner t 2 ho.2.1 (by decide)
    simp only [Ex.subst, Ex.flat, List.flatMap_cons, List.flatMap_append, if_neg h2, ia ho.2.2.1, ib ho.2.2.2, List.singleton_append]
  | x3 t a b c ia ib ic =>
    intro ho
    have h2 := inner t 3 ho.2.1 (by decide)
    simp only [Ex.subst, Ex.flat, List.flatMap_cons, List.flatMap_append, if_neg h2, ia ho.2.2.1, ib ho.2.2.2.1, ic ho.2.2.2.2, List.singleton_append]

/- Evaluation, over what an operator gives. -/
def colV (row : List V) (c : Int) : V := match row[c.toNat]? with | some v => cleanV v | none => V.zero
def Ex.eval (app : Int → List V → V) (row : List V) : Ex → V
  | .x0 t => if t.op = 1 then t.v else colV row t.c
  | .x1 t a => app t.op [a.eval app row]
  | .x2 t a b => app t.op [a.eval app row, b.eval app row]
  | .x3 t a b c => app t.op [a.eval app row, b.eval app row, c.eval app row]
theorem colV_valid (row : List V) (c : Int) : vB (colV row c) = true := by
  unfold colV
  split
  · exact cleanV_valid _
  · simp [vB, validB, V.zero]
theorem eval_valid {app : Int → List V → V} (happ : ∀ op l, (∀ v ∈ l, vB v = true) → vB (app op l) = true) (row : List V) : ∀ x : Ex, x.ok → vB (x.eval app row) = true := by
  intro x
  induction x with
  | x0 t =>
    intro ho
    unfold Ex.eval
    by_cases h1 : t.op = 1
    · rw [if_pos h1]
      have h2 := ho.1
      unfold termB fieldsB at h2
      rw [if_pos h1] at h2
      simp only [Bool.and_eq_true] at h2
      exact h2.2.1.1
    · rw [if_neg h1]; exact colV_valid _ _
  | x1 t a ia =>
    intro ho
    exact happ _ _ (fun v hv => by rw [List.mem_singleton.1 hv]; exact ia ho.2.2)
  | x2 t a b ia ib =>
    intro ho
    exact happ _ _ (fun v hv => by
      simp only [List.mem_cons, List.not_mem_nil, or_false] at hv
      rcases hv with rfl | rfl
      · exact ia ho.2.2.1
      · exact ib ho.2.2.2)
  | x3 t a b c ia ib ic =>
    intro ho
    exact happ _ _ (fun v hv => by
      simp only [List.mem_cons, List.not_mem_nil, or_false] at hv
      rcases hv with rfl | rfl | rfl
      · exact ia ho.2.2.1
      · exact ib ho.2.2.2.1
      · exact ic ho.2.2.2.2)
/-- Evaluating a substituted expression is evaluating its items first. -/
theorem eval_subst {app : Int → List V → V} (row vals : List V) (it : Int → Ex) (hit : ∀ c, 0 ≤ c → c.toNat < vals.length → vals[c.toNat]? = some ((it c).eval app row) ∧ vB ((it c).eval app row) = true) :
    ∀ x : Ex, x.ok → x.cols (fun c => 0 ≤ c ∧ c.toNat < vals.length) → (x.subst it).eval app row = x.eval app vals := by
  intro x
  induction x with
  | x0 t =>
    intro ho hc
    unfold Ex.subst
    by_cases h2 : t.op = 2
    · rw [if_pos h2]
      obtain ⟨h3, h4⟩ := hit t.c (hc h2).1 (hc h2).2
      have e : Ex.eval app vals (.x0 t) = colV vals t.c := by rw [Ex.eval, if_neg (by omega)]
      rw [e]
      unfold colV
      rw [h3]
      exact (cleanV_idem h4).symm
    · rw [if_neg h2]
      have h1 : t.op = 1 := by
        have h5 := ho.2
        unfold arityI at h5
        by_cases h1 : t.op = 1
        · exact h1
        · rw [if_neg (by omega)] at h5
          repeat' split at h5
          all_goals omega
      show Ex.eval app row (.x0 t) = Ex.eval app vals (.x0 t)
      unfold Ex.eval
      rw [if_pos h1, if_pos h1]
  | x1 t a ia => intro ho hc; simp only [Ex.subst, Ex.eval, ia ho.2.2 hc]
  | x2 t a b ia ib => intro ho hc; simp only [Ex.subst, Ex.eval, ia ho.2.2.1 hc.1, ib ho.2.2.2 hc.2]
  | x3 t a b c ia ib ic => intro ho hc; simp only [Ex.subst, Ex.eval, ia ho.2.2.1 hc.1, ib ho.2.2.2.1 hc.2.1, ic ho.2.2.2.2 hc.2.2]
end Go.Proofs.YtenonljnldbkiaaGreatDoor
/- What an operator gives for the values of its operands (plain; for the laws of package expr). -/
namespace Go.Proofs.YtenonljnldbkiaaGreatDoor
open Go.RowKit

def intVV (n : Int) : V := cleanV ⟨1, n, ⟨#[]⟩⟩
def textVV (s : ByteArray) : V := cleanV ⟨2, 0, s⟩
def bitV (b : Bool) : V := ⟨1, if b = true then 1 else 0, ⟨#[]⟩⟩
theorem bitV_int (b : Bool) : bitV b = intVV (if b = true then 1 else 0) := by
  unfold intVV cleanV
  rw [if_pos]
  · rfl
  · cases b <;> decide +kernel
theorem bitV_valid (b : Bool) : vB (bitV b) = true := by rw [bitV_int]; exact cleanV_valid _
theorem zero_valid : vB V.zero = true := by decide +kernel
/-- 1 for an integer that is not 0, 0 for 0, -1 for everything else. -/
def truthV (v : V) : Int := if v.k ≠ 1 then -1 else if v.n = 0 then 0 else 1
/-- and (14), or (15). -/
def threeV (op a b : Int) : V :=
  let d : Int := if op = 15 then 1 else 0
  if a = d ∨ b = d then bitV (d == 1) else if a < 0 ∨ b < 0 then V.zero else bitV (d == 0)
/-- Two integers: add, subtract, multiply, divide. -/
def numV (op a b : Int) : V :=
  if op = 4 then intVV (a + b) else if op = 5 then intVV (a - b) else if op = 6 then intVV (a * b)
  else if b = 0 then V.zero else intVV (Int.fdiv a b)
theorem numV_valid (op a b : Int) : vB (numV op a b) = true := by
  unfold numV
  repeat' split
  all_goals first | exact cleanV_valid _ | exact zero_valid
theorem threeV_valid (op a b : Int) : vB (threeV op a b) = true := by
  unfold threeV
  simp only
  repeat' split
  all_goals first | exact bitV_valid _ | exact zero_valid
/-- The same quotient by way of a truncated one, as a program reckons it. -/
theorem fdiv_tdiv (a b : Int) (hb : b ≠ 0) : Int.fdiv a b = if Int.tdiv a b * b ≠ a ∧ ((decide (a < 0)) != (decide (b < 0))) = true then Int.tdiv a b - 1 else Int.tdiv a b := by
  have hdvd : Int.tdiv a b * b = a ↔ b ∣ a := by
    constructor
    · intro h; exact ⟨Int.tdiv a b, by rw [Int.mul_comm]; exact h.symm⟩
    · intro h; exact Int.tdiv_mul_cancel h
  rw [Int.fdiv_eq_tdiv]
  by_cases hd : b ∣ a
  · rw [if_pos hd, if_neg (fun h => h.1 (hdvd.2 hd))]; omega
  · rw [if_neg hd]
    have hn : Int.tdiv a b * b ≠ a := fun h => hd (hdvd.1 h)
    by_cases h1 : 0 ≤ a
    · rw [if_pos h1]
      by_cases h2 : 0 ≤ b
      · rw [if_pos h2, if_neg (by intro h; have := h.2; simp at this; omega)]; omega
      · rw [if_neg h2, if_pos ⟨hn, by simp; omega⟩]
    · rw [if_neg h1]
      by_cases h2 : 0 ≤ b
      · rw [if_pos h2, if_pos ⟨hn, by simp; omega⟩, Int.sign_eq_one_of_pos (by omega)]
      · rw [if_neg h2, if_neg (by intro h; have := h.2; simp at this; omega), Int.sign_eq_neg_one_of_neg (by omega)]; omega
/-- An operator whose operands are not null, over the order of values (negate 3, not 13, length 9; add 4, subtract 5, multiply 6, divide 7, concat 8, prefix 10, equal 11, less 12). -/
def strictV (cmp : V → V → Int) (op : Int) (l : List V) : V :=
  match l with
  | [a] =>
    if op = 3 then (if a.k = 1 then intVV (-a.n) else V.zero)
    else if op = 13 then (if a.k = 1 then bitV (a.n == 0) else V.zero)
    else if op = 9 then (if a.k = 2 then intVV a.s.size else V.zero)
    else V.zero
  | [a, b] =>
    if op = 4 ∨ op = 5 ∨ op = 6 ∨ op = 7 then (if a.k = 1 ∧ b.k = 1 then numV op a.n b.n else V.zero)
    else if op = 8 then (if a.k = 2 ∧ b.k = 2 then textVV (a.s ++ b.s) else V.zero)
    else if op = 10 then (if a.k = 2 ∧ b.k = 1 ∧ 0 ≤ b.n then textVV (a.s.extract 0 (min b.n.toNat a.s.size)) else V.zero)
    else if op = 11 then (if a.k = b.k then bitV (a.k == b.k && (a.n == b.n && a.s.toList == b.s.toList)) else V.zero)
    else if op = 12 then (if a.k = b.k then bitV (decide (cmp a b < 0)) else V.zero)
    else V.zero
  | _ => V.zero
theorem strictV_valid (cmp : V → V → Int) (op : Int) (l : List V) : vB (strictV cmp op l) = true := by
  unfold strictV
  repeat' split
  all_goals first | exact cleanV_valid _ | exact zero_valid | exact bitV_valid _ | exact numV_valid _ _ _
/-- Null: the kind of a valid value says it. -/
def nullB (v : V) : Bool := zeroB v
theorem null_kind {v : V} (h : vB v = true) : nullB v = true ↔ v.k = 0 := by
  unfold nullB zeroB
  constructor
  · intro h1; simp at h1; exact h1.1.1
  · intro h1
    unfold vB validB at h
    rw [if_pos h1] at h
    simp only [Bool.and_eq_true] at h ⊢
    exact ⟨⟨by simp [h1], h.1⟩, h.2⟩
/-- The value of an operator for the values of its operands (and 14, or 15, isnull 16, coalesce 17, if 18; every other one gives null where an operand is null). -/
def appV (cmp : V → V → Int) (op : Int) (l : List V) : V :=
  match l with
  | [a] => if op = 16 then bitV (nullB a) else if nullB a = true then V.zero else strictV cmp op [a]
  | [a, b] =>
    if op = 14 ∨ op = 15 then threeV op (truthV a) (truthV b)
    else if op = 17 then (if nullB a = true then b else a)
    else if nullB a = true ∨ nullB b = true then V.zero
    else strictV cmp op [a, b]
  | [a, b, c] => if truthV a = 1 then b else c
  | _ => V.zero
theorem appV_valid (cmp : V → V → Int) (op : Int) (l : List V) (h : ∀ v ∈ l, vB v = true) : vB (appV cmp op l) = true := by
  unfold appV
  repeat' split
  all_goals first | exact bitV_valid _ | exact zero_valid | exact strictV_valid _ _ _ | exact threeV_valid _ _ _ | (apply h; simp)
/-- Evaluation of an expression. -/
def evalX (cmp : V → V → Int) (row : List V) (x : Ex) : V := x.eval (appV cmp) row
theorem evalX_valid (cmp : V → V → Int) (row : List V) (x : Ex) (h : x.ok) : vB (evalX cmp row x) = true := eval_valid (appV_valid cmp) row x h

/- Types. 0: none that fits. -/
def typI (op : Int) (l : List Int) : Int :=
  match l with
  | [a] => if op = 3 ∨ op = 13 then (if a = 1 then 1 else 0) else if op = 9 then (if a = 2 then 1 else 0) else if op = 16 then 1 else 0
  | [a, b] =>
    if op = 4 ∨ op = 5 ∨ op = 6 ∨ op = 7 ∨ op = 14 ∨ op = 15 then (if a = 1 ∧ b = 1 then 1 else 0)
    else if op = 8 then (if a = 2 ∧ b = 2 then 2 else 0)
    else if op = 10 then (if a = 2 ∧ b = 1 then 2 else 0)
    else if op = 11 ∨ op = 12 then (if a = b then 1 else 0)
    else if op = 17 then (if a = b then a else 0)
    else 0
  | [a, b, c] => if a = 1 ∧ b = c then b else 0
  | _ => 0
/-- An operator that fits the types of its operands, at values that have them or are null, gives a value that has its type or is null. -/
def HasT (v : V) (t : Int) : Prop := vB v = true ∧ (v.k = 0 ∨ v.k = t)
theorem intVV_k (n : Int) : (intVV n).k = 0 ∨ (intVV n).k = 1 := by
  unfold intVV cleanV; split
  · exact .inr rfl
  · exact .inl rfl
theorem textVV_k (s : ByteArray) : (textVV s).k = 0 ∨ (textVV s).k = 2 := by
  unfold textVV cleanV; split
  · exact .inr rfl
  · exact .inl rfl
theorem numV_k (op a b : Int) : (numV op a b).k = 0 ∨ (numV op a b).k = 1 := by
  unfold numV
  repeat' split
  all_goals first | exact intVV_k _ | exact .inl rfl
theorem threeV_k (op a b : Int) : (threeV op a b).k = 0 ∨ (threeV op a b).k = 1 := by
  unfold threeV
  simp only
  repeat' split
  all_goals first | exact .inr rfl | exact .inl rfl
theorem appV_typed1 (cmp : V → V → Int) (op : Int) (a : V) (ta : Int) (ha : HasT a ta) (h : typI op [ta] ≠ 0) : HasT (appV cmp op [a]) (typI op [ta]) := by
  refine ⟨appV_valid cmp op [a] (by simpa using ha.1), ?_⟩
  unfold appV strictV
  unfold typI at h ⊢
  simp only at h ⊢
  repeat' split
  all_goals first
    | exact .inl rfl | exact .inr rfl | exact intVV_k _
    | (exfalso; simp_all; done)
    | (simp_all; done)
end Go.Proofs.YtenonljnldbkiaaGreatDoor
/- Trees of terms seen uniformly: head and operands; lists of trees that stand one after the other; a value built from the operands' values. Plain. -/
namespace Go.Proofs.YtenonljnldbkiaaGreatDoor
open Go.RowKit

def Ex.head : Ex → Tm
  | .x0 t => t
  | .x1 t _ => t
  | .x2 t _ _ => t
  | .x3 t _ _ _ => t
def Ex.args : Ex → List Ex
  | .x0 _ => []
  | .x1 _ a => [a]
  | .x2 _ a b => [a, b]
  | .x3 _ a b c => [a, b, c]
def flats : List Ex → List Tm
  | [] => []
  | x :: l => x.flat ++ flats l
def depths : List Ex → Nat
  | [] => 0
  | x :: l => max x.depth (depths l)
def oks (l : List Ex) : Prop := ∀ x ∈ l, x.ok
theorem flats_app : ∀ a b : List Ex, flats (a ++ b) = flats a ++ flats b
  | [], _ => rfl
  | x :: a, b => by simp [flats, flats_app a b]
theorem depths_app : ∀ a b : List Ex, depths (a ++ b) = max (depths a) (depths b)
  | [], _ => by simp [depths]
  | x :: a, b => by simp only [List.cons_append, depths, depths_app a b]; omega
theorem Ex.flat_eq (x : Ex) : x.flat = x.head :: flats x.args := by cases x <;> simp [Ex.flat, Ex.head, Ex.args, flats]
theorem Ex.depth_eq (x : Ex) : x.depth = depths x.args + 1 := by cases x <;> simp [Ex.depth, Ex.args, depths]
theorem Ex.ok_iff (x : Ex) : x.ok ↔ termB x.head = true ∧ arityI x.head.op = x.args.length ∧ oks x.args := by cases x <;> simp [Ex.ok, Ex.head, Ex.args, oks]
theorem Ex.args_le (x : Ex) : x.args.length ≤ 3 := by cases x <;> simp [Ex.args]
def Ex.node (t : Tm) : List Ex → Ex
  | [] => .x0 t
  | [a] => .x1 t a
  | [a, b] => .x2 t a b
  | a :: b :: c :: _ => .x3 t a b c
theorem node_head (t : Tm) (l : List Ex) : (Ex.node t l).head = t := by
  unfold Ex.node; split <;> rfl
theorem node_args (t : Tm) : ∀ l : List Ex, l.length ≤ 3 → (Ex.node t l).args = l
  | [], _ => rfl
  | [_], _ => rfl
  | [_, _], _ => rfl
  | [_, _, _], _ => rfl
  | _ :: _ :: _ :: _ :: _, h => by simp at h
theorem Ex.ind {P : Ex → Prop} (h : ∀ x : Ex, (∀ a ∈ x.args, P a) → P x) : ∀ x, P x := by
  intro x
  induction x with
  | x0 t => exact h _ (by simp [Ex.args])
  | x1 t a ia => exact h _ (by simpa [Ex.args] using ia)
  | x2 t a b ia ib => exact h _ (by simp [Ex.args]; exact ⟨ia, ib⟩)
  | x3 t a b c ia ib ic => exact h _ (by simp [Ex.args]; exact ⟨ia, ib, ic⟩)
/-- What a list of terms begins with, and what stands behind it. -/
def Head (l : List Tm) (x : Ex) (r : List Tm) : Prop := l = x.flat ++ r ∧ x.ok
theorem Head.uniq {l : List Tm} {x y : Ex} {r r' : List Tm} (h : Head l x r) (k : Head l y r') : x = y ∧ r = r' :=
  flat_inj h.2 k.2 r r' (h.1.symm.trans k.1)
theorem seq_prefix : ∀ (xs ys : List Ex) (r r' : List Tm), oks xs → oks ys → flats xs ++ r = flats ys ++ r' → xs.length ≤ ys.length → ∃ zs, ys = xs ++ zs ∧ r = flats zs ++ r'
  | [], ys, r, r', _, _, h, _ => ⟨ys, rfl, by simpa [flats] using h⟩
  | x :: xs, [], _, _, _, _, _, hl => by simp at hl
  | x :: xs, y :: ys, r, r', hx, hy, h, hl => by
    simp only [flats, List.append_assoc] at h
    obtain ⟨rfl, h2⟩ := flat_inj (hx x (by simp)) (hy y (by simp)) _ _ h
    obtain ⟨zs, rfl, e⟩ := seq_prefix xs ys r r' (fun a ha => hx a (by simp [ha])) (fun a ha => hy a (by simp [ha])) h2 (by simpa using hl)
    exact ⟨zs, rfl, e⟩
/-- If an operand does not read, the whole does not. -/
theorem head_fail {t : Tm} {l r : List Tm} {xs : List Ex} {n : Nat} (hn : arityI t.op = n) (hx : oks xs) (hl : l = flats xs ++ r) (hk : xs.length < n) (hf : ∀ x r', ¬ Head r x r') : ∀ x r', ¬ Head (t :: l) x r' := by
  intro x r' ⟨e, ho⟩
  rw [Ex.flat_eq, List.cons_append] at e
  obtain ⟨h1, h2, h3⟩ := (Ex.ok_iff x).1 ho
  obtain ⟨rfl, e2⟩ := List.cons.inj e
  have h4 : x.args.length = n := by omega
  obtain ⟨zs, hz, hr⟩ := seq_prefix xs x.args r r' hx h3 (hl.symm.trans e2) (by omega)
  cases zs with
  | nil => rw [hz] at h4; simp at h4; omega
  | cons z zs =>
    refine hf z (flats zs ++ r') ⟨?_, h3 z (by rw [hz]; simp)⟩
    rw [hr, flats, List.append_assoc]
theorem head_node {t : Tm} {l r : List Tm} {xs : List Ex} (ht : termB t = true) (hn : arityI t.op = xs.length) (hx : oks xs) (hl : l = flats xs ++ r) (hk : xs.length ≤ 3) : Head (t :: l) (Ex.node t xs) r := by
  refine ⟨?_, (Ex.ok_iff _).2 ?_⟩
  · rw [Ex.flat_eq, node_head, node_args _ _ hk, hl]; rfl
  · rw [node_head, node_args _ _ hk]; exact ⟨ht, hn, hx⟩
theorem head_bad {t : Tm} {l : List Tm} (ht : termB t = false) : ∀ x r, ¬ Head (t :: l) x r := by
  intro x r ⟨e, ho⟩
  rw [Ex.flat_eq, List.cons_append] at e
  obtain ⟨rfl, _⟩ := List.cons.inj e
  have := ((Ex.ok_iff x).1 ho).1
  rw [ht] at this; cases this
theorem head_nil : ∀ x r, ¬ Head [] x r := by
  intro x r ⟨e, _⟩
  rw [Ex.flat_eq] at e; cases e
/-- A valid list of terms is the whole of one tree. -/
theorem validL_iff {l : List Tm} : validL l = true ↔ ∃ x, Head l x [] ∧ x.depth ≤ 16 ∧ l.length ≤ 64 := by
  constructor
  · intro h
    obtain ⟨x, e, ho, hd, hl⟩ := validL_tree h
    exact ⟨x, ⟨by simpa using e, ho⟩, hd, hl⟩
  · rintro ⟨x, ⟨e, ho⟩, hd, hl⟩
    exact validL_of ⟨by simpa using e, ho, hd, hl⟩
theorem flats_len (xs : List Ex) : xs.length ≤ (flats xs).length := by
  induction xs with
  | nil => simp
  | cons x xs ih => simp only [flats, List.length_append, List.length_cons]; have := x.flat_pos; omega
theorem Ex.depth_pos (x : Ex) : 0 < x.depth := by rw [Ex.depth_eq]; omega
theorem Ex.depth_le (x : Ex) : x.depth ≤ x.flat.length := by
  induction x using Ex.ind with
  | h x ih =>
    rw [Ex.depth_eq, Ex.flat_eq]
    have : ∀ l : List Ex, (∀ a ∈ l, a.depth ≤ a.flat.length) → depths l ≤ (flats l).length := by
      intro l
      induction l with
      | nil => intro _; simp [depths]
      | cons a l il =>
        intro h
        have h1 := h a (by simp)
        have h2 := il fun b hb => h b (by simp [hb])
        simp only [depths, flats, List.length_append]; omega
    have := this x.args ih
    simp only [List.length_cons]; omega
theorem depths_le {l : List Ex} {d : Nat} (h : ∀ x ∈ l, x.depth ≤ d) : depths l ≤ d := by
  induction l with
  | nil => simp [depths]
  | cons a l ih => simp only [depths]; have := h a (by simp); have := ih fun x hx => h x (by simp [hx]); omega
theorem le_depths {l : List Ex} {x : Ex} (h : x ∈ l) : x.depth ≤ depths l := by
  induction l with
  | nil => cases h
  | cons a l ih =>
    simp only [depths]
    rcases List.mem_cons.1 h with rfl | h
    · omega
    · have := ih h; omega
/-- A value built from the operands' values. -/
def Ex.fold {α : Type} (f : Tm → List α → α) : Ex → α
  | .x0 t => f t []
  | .x1 t a => f t [a.fold f]
  | .x2 t a b => f t [a.fold f, b.fold f]
  | .x3 t a b c => f t [a.fold f, b.fold f, c.fold f]
theorem Ex.fold_eq {α : Type} (f : Tm → List α → α) (x : Ex) : x.fold f = f x.head (x.args.map (Ex.fold f)) := by cases x <;> rfl
/-- Evaluation at one term. -/
def evT (cmp : V → V → Int) (row : List V) (t : Tm) (l : List V) : V := if t.op = 1 then t.v else if t.op = 2 then colV row t.c else appV cmp t.op l
theorem arity0 {op : Int} (h : arityI op = 0) : op = 1 ∨ op = 2 := by
  unfold arityI at h
  by_cases h1 : op = 1 ∨ op = 2
  · exact h1
  · rw [if_neg h1] at h
    repeat' split at h
    all_goals omega
theorem arity_ne {op : Int} (h : arityI op ≠ 0) : op ≠ 1 ∧ op ≠ 2 := by
  constructor <;> (intro e; subst e; exact h (by decide))
theorem evalX_fold (cmp : V → V → Int) (row : List V) (x : Ex) (ho : x.ok) : evalX cmp row x = x.fold (evT cmp row) := by
  unfold evalX
  induction x with
  | x0 t =>
    rcases arity0 ho.2 with h | h
    · simp [Ex.eval, Ex.fold, evT, h]
    · simp [Ex.eval, Ex.fold, evT, h]
  | x1 t a ia =>
    have h := arity_ne (op := t.op) (by rw [ho.2.1]; decide)
    simp only [Ex.eval, Ex.fold, evT, if_neg h.1, if_neg h.2, ia ho.2.2]
  | x2 t a b ia ib =>
    have h := arity_ne (op := t.op) (by rw [ho.2.1]; decide)
    simp only [Ex.eval, Ex.fold, evT, if_neg h.1, if_neg h.2, ia ho.2.2.1, ib ho.2.2.2]
  | x3 t a b c ia ib ic =>
    have h := arity_ne (op := t.op) (by rw [ho.2.1]; decide)
    simp only [Ex.eval, Ex.fold, evT, if_neg h.1, if_neg h.2, ia ho.2.2.1, ib ho.2.2.2.1, ic ho.2.2.2.2]
end Go.Proofs.YtenonljnldbkiaaGreatDoor
/- Types of expressions, plain: operators' types, and values that have them. -/
namespace Go.Proofs.YtenonljnldbkiaaGreatDoor
open Go.RowKit
set_option maxHeartbeats 4000000
/-- A type and an error: one of them is there. -/
def GoodP (p : Int × Int) : Prop := (p.2 = 0 ∧ (p.1 = 1 ∨ p.1 = 2)) ∨ (p.1 = 0 ∧ p.2 ≠ 0)
def tyOp (op : Int) (l : List (Int × Int)) : Int × Int := match l.find? (fun p => p.2 != 0) with
  | some p => (0, p.2)
  | none => if typI op (l.map (·.1)) = 0 then (0, 5) else (typI op (l.map (·.1)), 0)
def tyT (types : List Int) (t : Tm) (l : List (Int × Int)) : Int × Int :=
  if t.op = 1 then (t.v.k, 0) else if t.op = 2 then (match types[t.c.toNat]? with | some k => (k, 0) | none => (0, 3)) else tyOp t.op l
def noTy (k : Int) : Bool := k != 1 && k != 2
theorem typI_range (op : Int) (l : List Int) (h : ∀ k ∈ l, k = 1 ∨ k = 2) : typI op l = 0 ∨ typI op l = 1 ∨ typI op l = 2 := by
  unfold typI
  split
  · repeat' split
    all_goals simp
  · rename_i a b
    have ha := h a (by simp)
    repeat' split
    all_goals (first | simp; done | omega)
  · rename_i a b c
    have hb := h b (by simp)
    split
    · omega
    · simp
  · simp
theorem tyOp_good (op : Int) (l : List (Int × Int)) (h : ∀ p ∈ l, GoodP p) : GoodP (tyOp op l) := by
  unfold tyOp
  cases hf : l.find? (fun p => p.2 != 0) with
  | some p =>
    have := List.find?_some hf
    simp at this
    exact .inr ⟨rfl, this⟩
  | none =>
    have hk : ∀ k ∈ l.map (·.1), k = 1 ∨ k = 2 := by
      intro k hk
      obtain ⟨p, hp, rfl⟩ := List.mem_map.1 hk
      have h1 := List.find?_eq_none.1 hf p hp
      simp at h1
      rcases h p hp with h2 | h2
      · exact h2.2
      · exact absurd h1 h2.2
    have hr := typI_range op _ hk
    simp only
    split
    · exact .inr ⟨rfl, by simp⟩
    · exact .inl ⟨rfl, by simp only; omega⟩
theorem kind_of_valid {k n : Int} {s : ByteArray} (h : vB ⟨k, n, s⟩ = true) : k = 0 ∨ k = 1 ∨ k = 2 := by
  unfold vB validB at h
  by_cases h0 : k = 0
  · exact .inl h0
  · by_cases h1 : k = 1
    · exact .inr (.inl h1)
    · by_cases h2 : k = 2
      · exact .inr (.inr h2)
      · simp [h0, h1, h2] at h
theorem tyT_good (types : List Int) (t : Tm) (l : List (Int × Int)) (ht : termB t = true) (hT : ∀ k ∈ types, k = 1 ∨ k = 2) (h : ∀ p ∈ l, GoodP p) : GoodP (tyT types t l) := by
  unfold tyT
  by_cases h1 : t.op = 1
  · rw [if_pos h1]
    unfold termB fieldsB at ht
    rw [if_pos h1] at ht
    simp only [Bool.and_eq_true, Bool.not_eq_true', beq_eq_false_iff_ne] at ht
    have h2 := kind_of_valid (k := t.v.k) (n := t.v.n) (s := t.v.s) ht.2.1.1
    exact .inl ⟨rfl, by have := ht.2.1.2; simp only; omega⟩
  · rw [if_neg h1]
    by_cases h2 : t.op = 2
    · rw [if_pos h2]
      split
      · rename_i k hk
        exact .inl ⟨rfl, hT k (List.mem_of_getElem? hk)⟩
      · exact .inr ⟨rfl, by simp⟩
    · rw [if_neg h2]; exact tyOp_good _ _ h
theorem tyOp_err {op : Int} {l1 l2 : List (Int × Int)} {p : Int × Int} (h1 : ∀ q ∈ l1, q.2 = 0) (hp : p.2 ≠ 0) : tyOp op (l1 ++ p :: l2) = (0, p.2) := by
  unfold tyOp
  have : (l1 ++ p :: l2).find? (fun p => p.2 != 0) = some p := by
    rw [List.find?_append, List.find?_eq_none.2 (by intro q hq; simp [h1 q hq])]
    simp [hp]
  rw [this]
theorem tyOp_ok {op : Int} {l : List (Int × Int)} (h1 : ∀ q ∈ l, q.2 = 0) : tyOp op l = if typI op (l.map (·.1)) = 0 then (0, 5) else (typI op (l.map (·.1)), 0) := by
  unfold tyOp
  rw [List.find?_eq_none.2 (by intro q hq; simp [h1 q hq])]
theorem tyOp_inv {op k : Int} {l : List (Int × Int)} (h : tyOp op l = (k, 0)) : (∀ q ∈ l, q.2 = 0) ∧ typI op (l.map (·.1)) = k ∧ k ≠ 0 := by
  unfold tyOp at h
  cases hf : l.find? (fun p => p.2 != 0) with
  | some p =>
    rw [hf] at h
    have h1 := List.find?_some hf
    simp at h h1
    exact absurd h.2 h1
  | none =>
    rw [hf] at h
    simp only at h
    refine ⟨fun q hq => by simpa using List.find?_eq_none.1 hf q hq, ?_⟩
    split at h
    · simp at h
    · rename_i h2
      simp at h
      exact ⟨h, by rw [← h]; exact h2⟩
theorem iteBit_k (c : Prop) [Decidable c] (b : Bool) : (if c then bitV b else V.zero).k = 0 ∨ (if c then bitV b else V.zero).k = 1 := by
  split
  · exact .inr rfl
  · exact .inl rfl
theorem appV_typed2 (cmp : V → V → Int) (op : Int) (a b : V) (ta tb : Int) (ha : HasT a ta) (hb : HasT b tb) (h : typI op [ta, tb] ≠ 0) : HasT (appV cmp op [a, b]) (typI op [ta, tb]) := by
  refine ⟨appV_valid cmp op [a, b] (by
    intro v hv
    simp only [List.mem_cons, List.not_mem_nil, or_false] at hv
    rcases hv with rfl | rfl
    · exact ha.1
    · exact hb.1), ?_⟩
  have ka := ha.2
  have kb := hb.2
  unfold appV strictV
  unfold typI at h ⊢
  simp only at h ⊢
  by_cases h14 : op = 14 ∨ op = 15
  · rw [if_pos h14]
    have e : (op = 4 ∨ op = 5 ∨ op = 6 ∨ op = 7 ∨ op = 14 ∨ op = 15) := by omega
    rw [if_pos e] at h ⊢
    split at h
    · rename_i h2; rw [if_pos h2]; exact threeV_k _ _ _
    · exact absurd rfl h
  · rw [if_neg h14]
    by_cases h17 : op = 17
    · rw [if_pos h17]
      subst h17
      simp only [show ¬ ((17 : Int) = 4 ∨ (17 : Int) = 5 ∨ (17 : Int) = 6 ∨ (17 : Int) = 7 ∨ (17 : Int) = 14 ∨ (17 : Int) = 15) by decide, show ¬ (17 : Int) = 8 by decide, show ¬ (17 : Int) = 10 by decide, show ¬ ((17 : Int) = 11 ∨ (17 : Int) = 12) by decide, if_false, if_true] at h ⊢
      split at h
      · rename_i h2
        rw [if_pos h2]
        subst h2
        split
        · exact kb
        · exact ka
      · exact absurd rfl h
    · rw [if_neg h17]
      by_cases hn : nullB a = true ∨ nullB b = true
      · rw [if_pos hn]; exact .inl rfl
      · rw [if_neg hn]
        by_cases h4 : op = 4 ∨ op = 5 ∨ op = 6 ∨ op = 7
        · rw [if_pos h4]
          have e : (op = 4 ∨ op = 5 ∨ op = 6 ∨ op = 7 ∨ op = 14 ∨ op = 15) := by omega
          rw [if_pos e] at h ⊢
          split at h
          · rename_i h2
            rw [if_pos h2]
            split
            · exact numV_k _ _ _
            · exact .inl rfl
          · exact absurd rfl h
        · rw [if_neg h4]
          have e : ¬ (op = 4 ∨ op = 5 ∨ op = 6 ∨ op = 7 ∨ op = 14 ∨ op = 15) := by omega
          rw [if_neg e] at h ⊢
          by_cases h8 : op = 8
          · rw [if_pos h8]
            rw [if_pos h8] at h ⊢
            split at h
            · rename_i h2
              rw [if_pos h2]
              split
              · exact textVV_k _
              · exact .inl rfl
            · exact absurd rfl h
          · rw [if_neg h8]
            rw [if_neg h8] at h ⊢
            by_cases h10 : op = 10
            · rw [if_pos h10]
              rw [if_pos h10] at h ⊢
              split at h
              · rename_i h2
                rw [if_pos h2]
                split
                · exact textVV_k _
                · exact .inl rfl
              · exact absurd rfl h
            · rw [if_neg h10]
              rw [if_neg h10] at h ⊢
              by_cases h11 : op = 11
              · rw [if_pos h11]
                rw [if_pos (show op = 11 ∨ op = 12 from .inl h11)] at h ⊢
                split at h
                · rename_i h2
                  rw [show (if ta = tb then (1 : Int) else 0) = 1 from if_pos h2]
                  exact iteBit_k _ _
                · exact absurd rfl h
              · rw [if_neg h11]
                by_cases h12 : op = 12
                · rw [if_pos h12]
                  rw [if_pos (show op = 11 ∨ op = 12 from .inr h12)] at h ⊢
                  split at h
                  · rename_i h2
                    rw [show (if ta = tb then (1 : Int) else 0) = 1 from if_pos h2]
                    exact iteBit_k _ _
                  · exact absurd rfl h
                · rw [if_neg h12]
                  exact .inl rfl
theorem appV_typed3 (cmp : V → V → Int) (op : Int) (a b c : V) (ta tb tc : Int) (ha : HasT a ta) (hb : HasT b tb) (hc : HasT c tc) (h : typI op [ta, tb, tc] ≠ 0) : HasT (appV cmp op [a, b, c]) (typI op [ta, tb, tc]) := by
  refine ⟨appV_valid cmp op [a, b, c] (by
    intro v hv
    simp only [List.mem_cons, List.not_mem_nil, or_false] at hv
    rcases hv with rfl | rfl | rfl
    · exact ha.1
    · exact hb.1
    · exact hc.1), ?_⟩
  have kb := hb.2
  have kc := hc.2
  unfold appV
  unfold typI at h ⊢
  simp only at h ⊢
  split at h
  · rename_i h2
    rw [if_pos h2]
    split
    · exact kb
    · rw [h2.2]; exact kc
  · exact absurd rfl h
end Go.Proofs.YtenonljnldbkiaaGreatDoor
/- Contracts of needsEscape and quote of package value. -/
namespace Go.Proofs.YtenonljnldbkiaaGreatDoor
open Go.RowKit Go.Proofs.EB
open Go.Lib (byteCells)
set_option maxHeartbeats 400000
theorem infoU8 : (Tryz.prog.info? 5).map (fun i => (i.zero, i.size, i.bytes)) = some (some (.int .u8 0), 1, 1) := by kernel_rfl

def needI (b : Int) : Bool := decide (b = 34 ∨ b = 92 ∨ b < 32 ∨ 126 < b)

def hexD : List UInt8 := [48, 49, 50, 51, 52, 53, 54, 55, 56, 57, 97, 98, 99, 100, 101, 102]
def quote1 (b : UInt8) : List UInt8 := if needI b.toNat = true then [92, hexD.getD (b.toNat / 16) 0, hexD.getD (b.toNat % 16) 0] else [b]
def quoteL (l : List UInt8) : List UInt8 := 34 :: l.flatMap quote1
theorem quote1_len (b : UInt8) : (quote1 b).length ≤ 3 := by unfold quote1; split <;> simp
theorem quoteL_len (l : List UInt8) : (quoteL l).length ≤ 1 + 3 * l.length := by
  have : (l.flatMap quote1).length ≤ 3 * l.length := by
    induction l with
    | nil => simp
    | cons a l ih => simp only [List.flatMap_cons, List.length_append, List.length_cons]; have := quote1_len a; omega
  simp only [quoteL, List.length_cons]; omega
theorem quoteL_snoc (l : List UInt8) (b : UInt8) : quoteL (l ++ [b]) = quoteL l ++ quote1 b := by simp [quoteL]
theorem take_snoc (s : ByteArray) (k : Nat) (h : k < s.size) : s.data.toList.take (k + 1) = s.data.toList.take k ++ [s[k]] := by
  rw [List.take_succ_eq_append_getElem (by simpa using h)]; rfl

theorem hexAt (i : Nat) (h : i < 16) (h' : i < (⟨#[48, 49, 50, 51, 52, 53, 54, 55, 56, 57, 97, 98, 99, 100, 101, 102]⟩ : ByteArray).size) : (⟨#[48, 49, 50, 51, 52, 53, 54, 55, 56, 57, 97, 98, 99, 100, 101, 102]⟩ : ByteArray)[i] = hexD.getD i 0 := by
  have : ∀ j : Fin 16, (⟨#[48, 49, 50, 51, 52, 53, 54, 55, 56, 57, 97, 98, 99, 100, 101, 102]⟩ : ByteArray)[j.val]'(j.isLt) = hexD.getD j.val 0 := by decide
  exact this ⟨i, h⟩
theorem and15 (n : Nat) (h : n < 256) : bits BinOp.and IntKind.u8 (n : Int) 15 = (n : Int) % 16 := by
  have : ∀ j : Fin 256, bits BinOp.and IntKind.u8 (j.val : Int) 15 = (j.val : Int) % 16 := by decide +kernel
  exact this ⟨n, h⟩

theorem quote_ne {n1 c1 g g1 W Z : Nat} (hat : (Value.slice (some ⟨g, 0, none⟩) n1 c1).ownBlock = some g1 ∨ Z ≤ g1) (hg : Hid (g ≠ W + 1)) (hlt : W + 1 < Z) : Hid (g1 ≠ W + 1) := by
  rcases hat with h | h
  · simp only [Value.ownBlock, Option.some.injEq] at h
    subst h; exact hg
  · unfold Hid; omega
theorem hexNews (b : UInt8) (hb : b.toNat < 256) (h1 : ((b.toNat : Int) / 16).toNat < (⟨#[48, 49, 50, 51, 52, 53, 54, 55, 56, 57, 97, 98, 99, 100, 101, 102]⟩ : ByteArray).size) (h2 : ((b.toNat : Int) % 16).toNat < (⟨#[48, 49, 50, 51, 52, 53, 54, 55, 56, 57, 97, 98, 99, 100, 101, 102]⟩ : ByteArray).size) :
    (#[.int .u8 92, .int .u8 ((⟨#[48, 49, 50, 51, 52, 53, 54, 55, 56, 57, 97, 98, 99, 100, 101, 102]⟩ : ByteArray)[((b.toNat : Int) / 16).toNat]).toNat, .int .u8 ((⟨#[48, 49, 50, 51, 52, 53, 54, 55, 56, 57, 97, 98, 99, 100, 101, 102]⟩ : ByteArray)[((b.toNat : Int) % 16).toNat]).toNat] : Array Value).toList =
      byteCells [92, hexD.getD (b.toNat / 16) 0, hexD.getD (b.toNat % 16) 0] := by
  have e1 : ((b.toNat : Int) / 16).toNat = b.toNat / 16 := by omega
  have e2 : ((b.toNat : Int) % 16).toNat = b.toNat % 16 := by omega
  have k1 := hexAt _ (by omega : ((b.toNat : Int) / 16).toNat < 16) h1
  have k2 := hexAt _ (by omega : ((b.toNat : Int) % 16).toNat < 16) h2
  rw [k1, k2, e1, e2]
  rfl

end Go.Proofs.YtenonljnldbkiaaGreatDoor
/- Contracts of appendInt, appendText, appendValue, EncodeRow of package value and of EncodeRow of its reference: the byte form of a row. -/
namespace Go.Proofs.YtenonljnldbkiaaGreatDoor
open Go.RowKit Go.Proofs.EB
open Go.Lib (byteCells)
set_option maxHeartbeats 400000

/-- A call that gives back an owned row of bytes. -/
def GaveB (w : World) (B : Nat) (l : List UInt8) (e : Ending) (w' : World) : Prop := ∃ v', e = .returned v' ∧ OwnsB w' B 5 v' l ∧ Below B w w'
def byteAt (m : Int) (i : Nat) : UInt8 := UInt8.ofNat ((m / 256 ^ i).toNat % 256)
def int5 (m : Int) : List UInt8 := [byteAt m 4, byteAt m 3, byteAt m 2, byteAt m 1, byteAt m 0]

theorem byteAt_cell (m : Int) (i : Nat) (x : Int) (h0 : 0 ≤ m) (h : x = m / 256 ^ i % 256) : [Value.int .u8 x] = byteCells [byteAt m i] := by
  have h1 : 0 ≤ m / 256 ^ i := Int.ediv_nonneg h0 (by exact Int.pow_nonneg (by decide))
  have : ((byteAt m i).toNat : Int) = x := by
    rw [h]
    unfold byteAt
    simp only [UInt8.toNat_ofNat']
    omega
  simp [byteCells, this]

def esc1 (b : UInt8) : List UInt8 := if b.toNat = 0 then [0, 255] else [b]
def escL (l : List UInt8) : List UInt8 := l.flatMap esc1
theorem escL_len (l : List UInt8) : (escL l).length ≤ 2 * l.length := by
  unfold escL
  induction l with
  | nil => simp
  | cons a l ih =>
    have : (esc1 a).length ≤ 2 := by unfold esc1; split <;> simp
    simp only [List.flatMap_cons, List.length_append, List.length_cons]; omega
theorem escL_snoc (l : List UInt8) (b : UInt8) : escL (l ++ [b]) = escL l ++ esc1 b := by simp [escL]
theorem own_ne {v : Value} {n1 c1 g0 g1 Z : Nat} (hat : v.ownBlock = some g1 ∨ Z ≤ g1) (hg : Hid (v.ownBlock ≠ some g0)) (hlt : g0 < Z) : Hid ((Value.slice (some ⟨g1, 0, none⟩) n1 c1).ownBlock ≠ some g0) := by
  unfold Hid
  simp only [Value.ownBlock, ne_eq, Option.some.injEq]
  rcases hat with h | h
  · intro h2; subst h2; exact hg.out h
  · omega
theorem own_lt {w : World} {B : Nat} {e : TypeId} {v : Value} {l : List UInt8} (h : OwnsB w B e v l) : v.ownBlock ≠ some w.heap.size := fun hk => by have := (World.ownsRow.lt h _ hk).2; omega
theorem away_of_below {w w' : World} (h : Below w.heap.size w w') : Away none w w' := ⟨h.os, h.tape, h.output, h.size, fun k hk _ => h.block k hk⟩
theorem ownsB_below {w w' : World} {B : Nat} {e : TypeId} {v : Value} {l : List UInt8} (h : OwnsB w B e v l) (hb : Below w.heap.size w w') : OwnsB w' B e v l := (away_of_below hb).ownsB h (by cases hv : v.ownBlock <;> simp)

def encV (x : V) : List UInt8 := if x.k = 1 then 2 :: int5 (x.n + 4294967296) else if x.k = 2 then 3 :: (escL x.s.data.toList ++ [0, 0]) else [1]
end Go.Proofs.YtenonljnldbkiaaGreatDoor
/- Contracts of EncodeRow of package value and of its reference. -/
namespace Go.Proofs.YtenonljnldbkiaaGreatDoor
open Go.RowKit Go.Proofs.EB
open Go.Lib (byteCells)
set_option maxHeartbeats 400000

def encRow (l : List V) : List UInt8 := l.flatMap fun x => encV (cleanV x)
theorem int5_len (m : Int) : (int5 m).length = 5 := rfl
theorem encV_len (x : V) : (encV (cleanV x)).length ≤ 67 := by
  have h := cleanV_valid x
  generalize cleanV x = y at h
  obtain ⟨k, n, s⟩ := y
  unfold encV
  simp only
  by_cases h1 : k = 1
  · subst h1; simp [int5_len]
  · by_cases h2 : k = 2
    · subst h2
      have hr : s.size ≤ 32 := by simp [vB, validB] at h; omega
      have := escL_len s.data.toList
      have e : s.data.toList.length = s.size := by simp
      simp; omega
    · simp [h1, h2]
theorem encRow_snoc (l : List V) (x : V) : encRow (l ++ [x]) = encRow l ++ encV (cleanV x) := by simp [encRow]
theorem encRow_len (l : List V) : (encRow l).length ≤ 67 * l.length := by
  unfold encRow
  induction l with
  | nil => simp
  | cons a l ih => simp only [List.flatMap_cons, List.length_append, List.length_cons]; have := encV_len a; omega
theorem take_snocV (l : List V) (k : Nat) (h : k < l.length) : l.take (k + 1) = l.take k ++ [l[k]] := List.take_succ_eq_append_getElem h

end Go.Proofs.YtenonljnldbkiaaGreatDoor
/- Contracts of Format of package value at texts, and of awake: it returns true. -/
namespace Go.Proofs.YtenonljnldbkiaaGreatDoor
open Go.RowKit Go.Proofs.EB
open Go.Lib (byteCells)
set_option maxHeartbeats 400000


end Go.Proofs.YtenonljnldbkiaaGreatDoor
/- Equality of values (the struct api.Value). -/
namespace Go.Proofs.YtenonljnldbkiaaGreatDoor
open Go.RowKit Go.Proofs.EB
theorem eqlV (k n k' n' : Int) (s s' : ByteArray) (w : World) : (binOp .eql 142 (.agg #[.int .i64 k, .int .i64 n, .string s]) (.agg #[.int .i64 k', .int .i64 n', .string s'])).run Tryz.prog w = .ok (.bool (k == k' && (n == n' && s.toList == s'.toList))) w := by
  have hS : Tryz.prog.underlying 142 = some (.struct (Tryz.prog.fieldsOf 142)) := by kernel_rfl
  have hp : Tryz.prog.stoodInHeld 142 = false := by kernel_rfl
  rw [run_eql_struct, show (10000 : Nat) = 9999 + 1 from rfl, run_equalIn_agg w 9999 142 _ _ hS hp]
  simp only [Program.fieldsOf, Tryz.underlying142]
  have u3 := Tryz.underlying3
  have a3 := Tryz.isAgg3
  have z3 := Tryz.sizeOf3
  have u2 := Tryz.underlying2
  have a2 := Tryz.isAgg2
  have z2 := Tryz.sizeOf2
  have u9 := Tryz.underlying9
  have a9 := Tryz.isAgg9
  have z9 := Tryz.sizeOf9
  go_simp
  by_cases h1 : k = k' <;> by_cases h2 : n = n' <;> by_cases h3 : s.toList = s'.toList <;> simp [h1, h2, h3]
theorem guardV : Tryz.prog.eqGuardType Tryz.prog.depth 142 = false := by kernel_rfl
theorem structV : Tryz.prog.underlying 142 = some (.struct (Tryz.prog.fieldsOf 142)) := by kernel_rfl
theorem stoodV : Tryz.prog.stoodInHeld 142 = false := by kernel_rfl
theorem neqlV (k n k' n' : Int) (s s' : ByteArray) (w : World) : (binOp .neq 142 (.agg #[.int .i64 k, .int .i64 n, .string s]) (.agg #[.int .i64 k', .int .i64 n', .string s'])).run Tryz.prog w = .ok (.bool (!(k == k' && (n == n' && s.toList == s'.toList)))) w := by
  have h := eqlV k n k' n' s s' w
  rw [run_eql_struct] at h
  rw [run_neq_struct]
  generalize (Op.equalIn 10000 142 (.agg #[.int .i64 k, .int .i64 n, .string s]) (.agg #[.int .i64 k', .int .i64 n', .string s'])).run Tryz.prog w = r at h ⊢
  cases r with
  | ok b w1 => simp [Result.andThen] at h ⊢; obtain ⟨h1, h2⟩ := h; exact ⟨by rw [h1], h2⟩
  | halt x w1 => simp [Result.andThen] at h
theorem neqlV_same (k n : Int) (s : ByteArray) (w : World) : (binOp .neq 142 (.agg #[.int .i64 k, .int .i64 n, .string s]) (.agg #[.int .i64 k, .int .i64 n, .string s])).run Tryz.prog w = .ok (.bool false) w := by
  rw [neqlV]; simp
theorem rclean_is {k n kc nc : Int} {s sc : ByteArray} (w : World) (hs : s.size ≤ maxLen) (h : cleanV ⟨k, n, s⟩ = ⟨kc, nc, sc⟩) :
    Calls Tryz.prog 179 #[.agg #[.int .i64 k, .int .i64 n, .string s]] w fun e w' => e = .returned (.agg #[.int .i64 kc, .int .i64 nc, .string sc]) ∧ Below w.heap.size w w' := by
  refine (rclean_any _ _ _ _ hs).mono ?_
  rintro e w' ⟨k1, n1, s1, rfl, hc, hb⟩
  rw [h] at hc
  simp only [V.mk.injEq] at hc
  obtain ⟨rfl, rfl, rfl⟩ := hc
  exact ⟨rfl, hb⟩

theorem valid_b (k n : Int) (s : ByteArray) (w : World) (hs : s.size ≤ maxLen) :
    Calls Tryz.prog 192 #[.agg #[.int .i64 k, .int .i64 n, .string s]] w fun e w' => e = .returned (.bool (validB k n s)) ∧ Below w.heap.size w w' :=
  (valid_any k n s w hs).mono fun _ _ h => ⟨h.1, by rw [h.2]; exact (Below.refl _ _).alloc (Nat.le_refl _) _⟩
theorem rvalid_b (k n : Int) (s : ByteArray) (w : World) (hs : s.size ≤ maxLen) :
    Calls Tryz.prog 182 #[.agg #[.int .i64 k, .int .i64 n, .string s]] w fun e w' => e = .returned (.bool (validB k n s)) ∧ Below w.heap.size w w' :=
  (rvalid_any k n s w hs).mono fun _ _ h => ⟨h.1, by rw [h.2]; exact (Below.refl _ _).alloc (Nat.le_refl _) _⟩
theorem heldV_step {w0 wc w1 : World} {b o : Nat} {k n : Int} {s : ByteArray} (hb : Below wc.heap.size wc w1)
    (h : wc.cell? ⟨b, o, none⟩ = some (.int .i64 k) ∧ wc.cell? ⟨b, o + 1, none⟩ = some (.int .i64 n) ∧ wc.cell? ⟨b, o + 2, none⟩ = some (.string s) ∧ Below w0.heap.size w0 wc) :
    w1.cell? ⟨b, o, none⟩ = some (.int .i64 k) ∧ w1.cell? ⟨b, o + 1, none⟩ = some (.int .i64 n) ∧ w1.cell? ⟨b, o + 2, none⟩ = some (.string s) ∧ Below w0.heap.size w0 w1 := by
  obtain ⟨c0, c1, c2, h0⟩ := h
  have hlt := World.block_lt_of_cell? wc _ c0
  exact ⟨(hb.cell (p := ⟨b, o, none⟩) hlt).trans c0, (hb.cell (p := ⟨b, o + 1, none⟩) hlt).trans c1, (hb.cell (p := ⟨b, o + 2, none⟩) hlt).trans c2, h0.trans (hb.mono h0.size)⟩

theorem empty_of {s : ByteArray} (h : s.toList.isEmpty = true) : s = ⟨#[]⟩ := by
  rw [ByteArray.toList_eq] at h
  obtain ⟨⟨l⟩⟩ := s
  simp at h
  subst h
  rfl
theorem clean_shape (v : V) : cleanV v = ⟨0, 0, ⟨#[]⟩⟩ ∨ (∃ n, cleanV v = ⟨1, n, ⟨#[]⟩⟩) ∨ ∃ s, cleanV v = ⟨2, 0, s⟩ := by
  have h := cleanV_valid v
  generalize cleanV v = x at h
  obtain ⟨k, n, s⟩ := x
  simp only [vB, validB] at h
  by_cases h0 : k = 0
  · simp [h0] at h
    left
    rw [h0, h.1, empty_of (s := s) (by simp [h.2])]
  · by_cases h1 : k = 1
    · simp [h1] at h
      right; left
      exact ⟨n, by rw [h1, empty_of (s := s) (by simp [h.1])]⟩
    · by_cases h2 : k = 2
      · simp [h2] at h
        right; right
        exact ⟨s, by rw [h2, h.1]⟩
      · simp [h0, h1, h2] at h
theorem byteArray_ne {s t : ByteArray} (h : s ≠ t) : (s.toList == t.toList) = false := by
  rw [ByteArray.toList_eq, ByteArray.toList_eq]
  obtain ⟨⟨a⟩⟩ := s
  obtain ⟨⟨b⟩⟩ := t
  simp at h ⊢
  exact h
end Go.Proofs.YtenonljnldbkiaaGreatDoor
/- Terms in memory; the table of operators; Arity of package expr. -/
namespace Go.Proofs.YtenonljnldbkiaaGreatDoor
open Go.RowKit Go.Proofs.EB
set_option maxHeartbeats 1000000
attribute [local go_sem] World.cell?_alloc_some

/-- The cells of a value, and of a term. -/
def encVal (v : V) : List Value := [.int .i64 v.k, .int .i64 v.n, .string v.s]
def encTm (t : Tm) : List Value := [.int .i64 t.op, .int .i64 t.v.k, .int .i64 t.v.n, .string t.v.s, .int .i64 t.c]
theorem encVal_len (v : V) : (encVal v).length = 3 := rfl
theorem encTm_len (t : Tm) : (encTm t).length = 5 := rfl
theorem encVal_one (v : V) : ∀ u ∈ encVal v, u.oneCell' = true := by intro u hu; simp [encVal] at hu; rcases hu with rfl | rfl | rfl <;> rfl
theorem encTm_one (v : Tm) : ∀ u ∈ encTm v, u.oneCell' = true := by intro u hu; simp [encTm] at hu; rcases hu with rfl | rfl | rfl | rfl | rfl <;> rfl
def i64B (n : Int) : Prop := -9223372036854775808 ≤ n ∧ n ≤ 9223372036854775807
def Tm.okT (t : Tm) : Prop := i64B t.op ∧ t.v.ok ∧ i64B t.c
/-- A slice of terms that reads as a list. -/
abbrev TmsAt (w : World) (B : Nat) (ao : Option Addr) (l : List Tm) : Prop := RAt encTm 5 w B ao l
abbrev OwnsTm (w : World) (B : Nat) (v : Value) (l : List Tm) : Prop := OwnsR encTm 5 w B 144 v l
theorem infoTm : (Tryz.prog.info? 144).map (fun i => (i.zero, i.size, i.bytes)) = some (some (.agg #[.int .i64 0, .int .i64 0, .int .i64 0, .string ⟨#[]⟩, .int .i64 0]), 5, 48) := by kernel_rfl
theorem RAt.tm {w : World} {B b off : Nat} {l : List Tm} (h : TmsAt w B (some ⟨b, off, none⟩) l) {i : Nat} (hi : i < l.length) :
    w.cell? ⟨b, off + i * 5, none⟩ = some (.int .i64 l[i].op) ∧ w.cell? ⟨b, off + i * 5 + 1, none⟩ = some (.int .i64 l[i].v.k) ∧ w.cell? ⟨b, off + i * 5 + 2, none⟩ = some (.int .i64 l[i].v.n) ∧ w.cell? ⟨b, off + i * 5 + 3, none⟩ = some (.string l[i].v.s) ∧ w.cell? ⟨b, off + i * 5 + 4, none⟩ = some (.int .i64 l[i].c) :=
  ⟨RAt.cell h hi (j := 0) rfl, RAt.cell h hi (j := 1) rfl, RAt.cell h hi (j := 2) rfl, RAt.cell h hi (j := 3) rfl, RAt.cell h hi (j := 4) rfl⟩
theorem RAt.val {w : World} {B b off : Nat} {l : List V} (h : RAt encVal 3 w B (some ⟨b, off, none⟩) l) {i : Nat} (hi : i < l.length) :
    w.cell? ⟨b, off + i * 3, none⟩ = some (.int .i64 l[i].k) ∧ w.cell? ⟨b, off + i * 3 + 1, none⟩ = some (.int .i64 l[i].n) ∧ w.cell? ⟨b, off + i * 3 + 2, none⟩ = some (.string l[i].s) :=
  ⟨RAt.cell h hi (j := 0) rfl, RAt.cell h hi (j := 1) rfl, RAt.cell h hi (j := 2) rfl⟩
theorem rowAt_rAt {w : World} {B : Nat} {ao : Option Addr} {l : List V} (h : RowAt w B ao l) : RAt encVal 3 w B ao l := by
  rcases h.2 with h0 | ⟨b, off, ha, hlt, hc⟩
  · exact .inl h0
  · refine .inr ⟨b, off, ha, hlt, fun i hi j u hu => ?_⟩
    obtain ⟨c0, c1, c2⟩ := hc i hi
    match j, hu with
    | 0, hu => simp [encVal] at hu; subst hu; exact c0
    | 1, hu => simp [encVal] at hu; subst hu; exact c1
    | 2, hu => simp [encVal] at hu; subst hu; exact c2
    | j + 3, hu => simp [encVal] at hu
theorem rAt_rowAt {w : World} {B : Nat} {ao : Option Addr} {l : List V} (h : RAt encVal 3 w B ao l) (hok : ∀ v ∈ l, v.ok) : RowAt w B ao l := by
  refine ⟨hok, ?_⟩
  rcases h with h0 | ⟨b, off, ha, hlt, hc⟩
  · exact .inl h0
  · exact .inr ⟨b, off, ha, hlt, fun i hi => ⟨hc i hi 0 _ rfl, hc i hi 1 _ rfl, hc i hi 2 _ rfl⟩⟩

/-- The operators by their numbers: name, types of the operands, type. -/
def opTab : List (List UInt8 × List Int × Int) := [([], [], 0), ([], [], 0), ([], [], 0), ([110, 101, 103, 97, 116, 101], [1], 1), ([97, 100, 100], [1, 1], 1), ([115, 117, 98, 116, 114, 97, 99, 116], [1, 1], 1), ([109, 117, 108, 116, 105, 112, 108, 121], [1, 1], 1), ([100, 105, 118, 105, 100, 101], [1, 1], 1),
  ([99, 111, 110, 99, 97, 116], [2, 2], 2), ([108, 101, 110, 103, 116, 104], [2], 1), ([112, 114, 101, 102, 105, 120], [2, 1], 2), ([101, 113, 117, 97, 108], [-1, -1], 1), ([108, 101, 115, 115], [-1, -1], 1), ([110, 111, 116], [1], 1), ([97, 110, 100], [1, 1], 1), ([111, 114], [1, 1], 1), ([105, 115, 110, 117, 108, 108], [-2], 1), ([99, 111, 97, 108, 101, 115, 99, 101], [-1, -1], -1), ([105, 102], [1, -1, -1], -1)]
def Ops (w : World) : Prop := ∀ (i : Nat) (nm : List UInt8) (asx : List Int) (k : Int), opTab[i]? = some (nm, asx, k) → ∃ ao cap, w.cell? ⟨0, i * 3, none⟩ = some (.string ⟨nm.toArray⟩) ∧ w.cell? ⟨0, i * 3 + 1, none⟩ = some (.slice ao asx.length cap) ∧ w.cell? ⟨0, i * 3 + 2, none⟩ = some (.int .i64 k) ∧
  (asx = [] ∨ ∃ b off, ao = some ⟨b, off, none⟩ ∧ ∀ j (h : j < asx.length), w.cell? ⟨b, off + j, none⟩ = some (.int .i64 asx[j]))
theorem Ops.below {w w' : World} (h : Ops w) (hb : Below w.heap.size w w') : Ops w' := by
  intro i nm asx k hi
  obtain ⟨ao, cap, c0, c1, c2, hz⟩ := h i nm asx k hi
  have e : ∀ a v, w.cell? a = some v → w'.cell? a = some v := fun a v hc => (hb.cell (World.block_lt_of_cell? w _ hc)).trans hc
  refine ⟨ao, cap, e _ _ c0, e _ _ c1, e _ _ c2, ?_⟩
  rcases hz with hz | ⟨b, off, ha, hc⟩
  · exact .inl hz
  · exact .inr ⟨b, off, ha, fun j hj => e _ _ (hc j hj)⟩
theorem opTab_arity : ∀ i : Nat, i < 19 → 1 ≤ i → ∃ nm asx k, opTab[i]? = some (nm, asx, k) ∧ arityI i = asx.length := by
  intro i h h1
  have : ∀ j : Fin 19, 1 ≤ j.1 → arityI j.1 = (((opTab[j.1]?).getD ([], [], 0)).2.1.length : Int) ∧ (opTab[j.1]?).isSome = true := by decide +kernel
  obtain ⟨h2, h3⟩ := this ⟨i, h⟩ h1
  obtain ⟨⟨nm, asx, k⟩, h4⟩ := Option.isSome_iff_exists.1 h3
  simp only at h4
  rw [h4] at h2
  exact ⟨nm, asx, k, h4, h2⟩
theorem arity_out {op : Int} (h : op < 1 ∨ 19 ≤ op) : arityI op = -1 := by
  unfold arityI
  rw [if_neg (by omega), if_neg (by omega), if_neg (by omega), if_neg (by omega)]
theorem arity_in {op : Int} (h : 0 ≤ arityI op) : 1 ≤ op ∧ op ≤ 18 := by
  by_cases h1 : op < 1 ∨ 19 ≤ op
  · rw [arity_out h1] at h; omega
  · omega
/-- What the table says of one operator that there is. -/
theorem Ops.at {w : World} (h : Ops w) {op : Int} (h0 : 1 ≤ op) (h1 : op ≤ 18) : ∃ (nm : List UInt8) (asx : List Int) (k : Int) (ao : Option Addr) (cap : Nat), opTab[op.toNat]? = some (nm, asx, k) ∧ arityI op = asx.length ∧
    w.cell? ⟨0, op.toNat * 3, none⟩ = some (.string ⟨nm.toArray⟩) ∧ w.cell? ⟨0, op.toNat * 3 + 1, none⟩ = some (.slice ao asx.length cap) ∧ w.cell? ⟨0, op.toNat * 3 + 2, none⟩ = some (.int .i64 k) ∧
    (asx = [] ∨ ∃ b off, ao = some ⟨b, off, none⟩ ∧ ∀ j (h : j < asx.length), w.cell? ⟨b, off + j, none⟩ = some (.int .i64 asx[j])) := by
  obtain ⟨nm, asx, k, e, ha⟩ := opTab_arity op.toNat (by omega) (by omega)
  obtain ⟨ao, cap, c0, c1, c2, hz⟩ := h _ _ _ _ e
  exact ⟨nm, asx, k, ao, cap, e, by rw [← ha]; congr 1; omega, c0, c1, c2, hz⟩
theorem arity_any (op : Int) (w : World) (h : Ops w) : Calls Tryz.prog 189 #[.int .i64 op] w fun e w' => e = .returned (.int .i64 (arityI op)) ∧ w' = w := by
  by_cases h0 : op < 1
  · have ha := Lib.hid (arity_out (op := op) (.inl h0))
    clear h
    go_enter Tryz.func189, Tryz.ntmps189
    go_wp2
    go_ret
    exact ⟨by rw [ha.out]; rfl, rfl⟩
  · by_cases h1 : 19 ≤ op
    · have ha := Lib.hid (arity_out (op := op) (.inr h1))
      clear h
      go_enter Tryz.func189, Tryz.ntmps189
      go_wp2
      go_ret
      exact ⟨by rw [ha.out]; rfl, rfl⟩
    · obtain ⟨nm, asx, k, ao, cap, _, ha, _, c1, _, _⟩ := h.at (op := op) (by omega) (by omega)
      have Ha := Lib.hid ha
      clear h ha
      have z0 : (0 : Int) ≤ op := by omega
      have z1 : op < 19 := by omega
      have z2 : 1 ≤ op := by omega
      go_enter Tryz.func189, Tryz.ntmps189
      go_wp2
      go_ret
      exact ⟨by rw [Ha.out]; rfl, rfl⟩
end Go.Proofs.YtenonljnldbkiaaGreatDoor
/- validTerm, measure and Valid of package expr. -/
namespace Go.Proofs.YtenonljnldbkiaaGreatDoor
open Go.RowKit Go.Proofs.EB
set_option maxHeartbeats 1000000
attribute [local go_sem] World.cell?_alloc_some

theorem eqlTm (o k n c o' k' n' c' : Int) (s s' : ByteArray) (w : World) : (binOp .eql 144 (.agg #[.int .i64 o, .int .i64 k, .int .i64 n, .string s, .int .i64 c]) (.agg #[.int .i64 o', .int .i64 k', .int .i64 n', .string s', .int .i64 c'])).run Tryz.prog w = .ok (.bool (o == o' && ((k == k' && (n == n' && s.toList == s'.toList)) && c == c'))) w := by
  have hS : Tryz.prog.underlying 144 = some (.struct (Tryz.prog.fieldsOf 144)) := by kernel_rfl
  have hp : Tryz.prog.stoodInHeld 144 = false := by kernel_rfl
  rw [run_eql_struct, show (10000 : Nat) = 9998 + 1 + 1 from rfl, run_equalIn_agg w (9998 + 1) 144 _ _ hS hp]
  simp only [Program.fieldsOf, Tryz.underlying144]
  have u3 := Tryz.underlying3
  have a3 := Tryz.isAgg3
  have z3 := Tryz.sizeOf3
  have u2 := Tryz.underlying2
  have a2 := Tryz.isAgg2
  have z2 := Tryz.sizeOf2
  have u9 := Tryz.underlying9
  have a9 := Tryz.isAgg9
  have z9 := Tryz.sizeOf9
  have u34 := Tryz.underlying142
  have a34 := Tryz.isAgg142
  have z34 := Tryz.sizeOf142
  go_simp
  by_cases h1 : o = o' <;> by_cases h2 : k = k' <;> by_cases h3 : n = n' <;> by_cases h4 : s.toList = s'.toList <;> by_cases h5 : c = c' <;> simp [h1, h2, h3, h4, h5]
theorem guardTm : Tryz.prog.eqGuardType Tryz.prog.depth 144 = false := by kernel_rfl
theorem structTm : Tryz.prog.underlying 144 = some (.struct (Tryz.prog.fieldsOf 144)) := by kernel_rfl
theorem stoodTm : Tryz.prog.stoodInHeld 144 = false := by kernel_rfl
theorem toList_nil : (ByteArray.toList ⟨#[]⟩ : List UInt8) = [] := by rw [ByteArray.toList_eq]
theorem isEmpty_eq (l : List UInt8) : (l == []) = l.isEmpty := by cases l <;> rfl
/-- What a call leaves that gives one value and makes memory. -/
def Gives (v : Value) (w : World) (e : Ending) (w' : World) : Prop := e = .returned v ∧ Below w.heap.size w w'
theorem zeroB_eq (k n : Int) (s : ByteArray) : (k == 0 && (n == 0 && s.toList == (⟨#[]⟩ : ByteArray).toList)) = zeroB ⟨k, n, s⟩ := by
  rw [toList_nil, isEmpty_eq, ← Bool.and_assoc]; rfl
theorem termB_const (k n c : Int) (s : ByteArray) : termB ⟨1, ⟨k, n, s⟩, c⟩ = (validB k n s && !(k == 0) && c == 0) := by
  unfold termB fieldsB vB; simp [arityI]
theorem termB_col (k n c : Int) (s : ByteArray) : termB ⟨2, ⟨k, n, s⟩, c⟩ = (zeroB ⟨k, n, s⟩ && decide (0 ≤ c)) := by
  unfold termB fieldsB; simp [arityI]
theorem termB_op {o k n c : Int} {s : ByteArray} (h0 : 0 ≤ arityI o) (h1 : o ≠ 1) (h2 : o ≠ 2) : termB ⟨o, ⟨k, n, s⟩, c⟩ = (zeroB ⟨k, n, s⟩ && c == 0) := by
  unfold termB fieldsB; simp [h0, h1, h2]
theorem ret_b {a b : Bool} (h : a = b) : Ending.returned (.bool a) = .returned (.bool b) := by rw [h]
theorem validTerm_any (o k n c : Int) (s : ByteArray) (w : World) (hs : s.size ≤ maxLen) (hO : Ops w) :
    Calls Tryz.prog 191 #[.agg #[.int .i64 o, .int .i64 k, .int .i64 n, .string s, .int .i64 c]] w (Gives (.bool (termB ⟨o, ⟨k, n, s⟩, c⟩)) w) := by
  have hb1 : Below w.heap.size w (w.alloc (.cells #[.int .i64 o, .int .i64 k, .int .i64 n, .string s, .int .i64 c] 144)) := (Below.refl _ _).alloc (Nat.le_refl _) _
  have hA := Lib.hid (arity_any o _ (hO.below hb1))
  have hbq := (Lib.hid hb1)
  clear hb1 hO
  by_cases h0 : arityI o < 0
  · have z0 : decide (arityI o < 0) = true := by simpa using h0
    have ht : termB ⟨o, ⟨k, n, s⟩, c⟩ = false := by unfold termB; simp; intro h; omega
    rw [ht]
    clear ht
    go_enter Tryz.func191, Tryz.ntmps191
    go_wp2_with fail
    refine hA.out.mono ?_
    rintro e w' ⟨rfl, rfl⟩
    go_wp2_with fail
    go_ret
    exact ⟨rfl, hbq.out⟩
  · have z0 : decide (arityI o < 0) = false := by simpa using h0
    by_cases h1 : o = 1
    · subst h1
      rw [termB_const]
      have hV := fun w => valid_b k n s w hs
      generalize validB k n s = vb at *
      have HV := Lib.hid hV
      clear hV h0
      cases vb
      · go_enter Tryz.func191, Tryz.ntmps191
        go_wp2_with fail
        refine hA.out.mono ?_
        rintro e w' ⟨rfl, rfl⟩
        go_wp2_with fail
        refine (HV.out _).mono ?_
        rintro e w' ⟨rfl, hb2⟩
        go_wp2_with fail
        go_ret
        exact ⟨rfl, hbq.out.trans (hb2.mono hbq.out.size)⟩
      · by_cases hk : k = 0
        · subst hk
          go_enter Tryz.func191, Tryz.ntmps191
          go_wp2_with fail
          refine hA.out.mono ?_
          rintro e w' ⟨rfl, rfl⟩
          go_wp2_with fail
          refine (HV.out _).mono ?_
          rintro e w' ⟨rfl, hb2⟩
          have hc0 := hb2.cell (p := ⟨w.heap.size, 1, none⟩) (by simp)
          go_wp2_with fail
          go_ret
          exact ⟨rfl, hbq.out.trans (hb2.mono hbq.out.size)⟩
        · have z1 : (k != 0) = true := by simpa using hk
          have z2 : (k == 0) = false := by simpa using hk
          rw [z2]
          clear hk
          go_enter Tryz.func191, Tryz.ntmps191
          go_wp2_with fail
          refine hA.out.mono ?_
          rintro e w' ⟨rfl, rfl⟩
          go_wp2_with fail
          refine (HV.out _).mono ?_
          rintro e w' ⟨rfl, hb2⟩
          have hc0 := hb2.cell (p := ⟨w.heap.size, 1, none⟩) (by simp)
          have hc1 := hb2.cell (p := ⟨w.heap.size, 4, none⟩) (by simp)
          go_wp2_with fail
          go_ret
          exact ⟨rfl, hbq.out.trans (hb2.mono hbq.out.size)⟩
    · have y1 : (o == 1) = false := by simpa using h1
      by_cases h2 : o = 2
      · subst h2
        rw [termB_col]
        have heq : ∀ w, (binOp .eql 142 (.agg #[.int .i64 k, .int .i64 n, .string s]) (.agg #[.int .i64 0, .int .i64 0, .string ⟨#[]⟩])).run Tryz.prog w = .ok (.bool (zeroB ⟨k, n, s⟩)) w := fun w => by rw [eqlV, zeroB_eq]
        generalize zeroB ⟨k, n, s⟩ = zb at *
        have hg := guardV
        clear h0
        cases zb
        all_goals
          go_enter Tryz.func191, Tryz.ntmps191
          go_wp2_with fail
          refine hA.out.mono ?_
          rintro e w' ⟨rfl, rfl⟩
          go_wp2_with fail
          go_ret
          exact ⟨rfl, hbq.out⟩
      · have y2 : (o == 2) = false := by simpa using h2
        rw [termB_op (by omega) h1 h2]
        have heq : ∀ w, (binOp .eql 144 (.agg #[.int .i64 o, .int .i64 k, .int .i64 n, .string s, .int .i64 c]) (.agg #[.int .i64 o, .int .i64 0, .int .i64 0, .string ⟨#[]⟩, .int .i64 0])).run Tryz.prog w = .ok (.bool (zeroB ⟨k, n, s⟩ && c == 0)) w := fun w => by rw [eqlTm, zeroB_eq, beq_self_eq_true, Bool.true_and]
        generalize (zeroB ⟨k, n, s⟩ && c == 0) = zb at *
        have hg := guardTm
        clear h0 h1 h2
        go_enter Tryz.func191, Tryz.ntmps191
        go_wp2_with fail
        refine hA.out.mono ?_
        rintro e w' ⟨rfl, rfl⟩
        go_wp2_with fail
        go_ret
        exact ⟨rfl, hbq.out⟩

theorem drop_suffix {l a r : List Tm} {p : Nat} (h : l.drop p = a ++ r) (hp : p ≤ l.length) : r = l.drop (l.length - r.length) ∧ l.length = p + a.length + r.length := by
  have h1 := congrArg List.length h
  rw [List.length_drop, List.length_append] at h1
  have h2 : l.length - r.length = p + a.length := by omega
  refine ⟨?_, by omega⟩
  rw [h2, ← List.drop_drop, h, List.drop_left]
/-- What measure gives. -/
def MeasP (l : List Tm) (pos : Nat) (w : World) (e : Ending) (w' : World) : Prop :=
  Below w.heap.size w w' ∧ ((∃ x r d q, Hid (Head (l.drop pos) x r) ∧ Hid (d = x.depth ∧ q + r.length = l.length) ∧ e = .returned (.tuple #[.int .i64 (d : Nat), .int .i64 (q : Nat)])) ∨ (Hid (∀ x r, ¬ Head (l.drop pos) x r) ∧ e = .returned (.tuple #[.int .i64 0, .int .i64 (pos : Nat)])))
theorem head_len {l r : List Tm} {x : Ex} (h : Head l x r) : x.depth ≤ l.length ∧ 0 < x.depth ∧ r.length < l.length := by
  have h1 := x.depth_le
  have h2 := x.depth_pos
  have h3 := congrArg List.length h.1
  rw [List.length_append] at h3
  have := x.flat_pos
  omega
set_option maxRecDepth 100000 in
theorem measure_any (ao : Option Addr) (cap : Nat) (l : List Tm) (hl : l.length ≤ 64) (hok : ∀ t ∈ l, t.okT) : ∀ (n pos : Nat), l.length - pos ≤ n → pos ≤ l.length → ∀ w : World, Ops w → TmsAt w w.heap.size ao l →
    Calls Tryz.prog 188 #[.slice ao l.length cap, .int .i64 pos] w (MeasP l pos w) := by
  intro n
  induction n with
  | zero =>
    intro pos hn hp w hO hT
    have hd : l.drop pos = [] := List.drop_eq_nil_of_le (by omega)
    have hN : Hid (∀ x r, ¬ Head (l.drop pos) x r) := by unfold Hid; rw [hd]; exact head_nil
    have z : decide ((l.length : Int) ≤ (pos : Int)) = true := by simp; omega
    clear hd hO hT
    go_enter Tryz.func188, Tryz.ntmps188
    go_wp2_with fail
    go_ret2
    exact ⟨Below.refl _ _, .inr ⟨hN, rfl⟩⟩
  | succ n ih =>
    intro pos hn hp w hO hT
    by_cases hlt : pos < l.length
    · have z : decide ((l.length : Int) ≤ (pos : Int)) = false := by simp; omega
      obtain ⟨b, off, rfl, _⟩ := hT.form (by omega)
      obtain ⟨c0, c1, c2, c3, c4⟩ := RAt.tm hT hlt
      have hdc : l.drop pos = l[pos] :: l.drop (pos + 1) := List.drop_eq_getElem_cons hlt
      obtain ⟨t, ht⟩ : ∃ t, t = l[pos] := ⟨_, rfl⟩
      have hts : t.v.s.size ≤ maxLen := by rw [ht]; exact (hok _ (List.getElem_mem hlt)).2.1.2.2
      rw [← ht] at c0 c1 c2 c3 c4 hdc
      have hV := fun w hO => validTerm_any t.op t.v.k t.v.n t.c t.v.s w hts hO
      have hte : (⟨t.op, ⟨t.v.k, t.v.n, t.v.s⟩, t.c⟩ : Tm) = t := rfl
      rw [hte] at hV
      cases htb : termB t
      · have hN : Hid (∀ x r, ¬ Head (l.drop pos) x r) := by unfold Hid; rw [hdc]; exact head_bad htb
        rw [htb] at hV
        have HV := Lib.hid hV
        have HO := Lib.hid hO
        clear hV hdc htb hte ht hts hT hO hn ih
        generalize t.op = tp at *
        generalize t.v.k = tk at *
        generalize t.v.n = tn at *
        generalize t.v.s = ts at *
        generalize t.c = tc at *
        have hl64 : (pos : Int) < (l.length : Int) := by omega
        go_enter Tryz.func188, Tryz.ntmps188
        go_wp2_with fail
        refine (HV.out _ HO.out).mono ?_
        rintro e w' ⟨rfl, hb2⟩
        go_wp2_with fail
        go_ret2
        exact ⟨hb2, .inr ⟨hN, rfl⟩⟩
      · rw [htb] at hV
        have h0 : 0 ≤ arityI t.op := by unfold termB at htb; simp at htb; exact htb.1
        obtain ⟨ar, har⟩ : ∃ ar : Nat, arityI t.op = ar := ⟨(arityI t.op).toNat, by omega⟩
        have har3 : ar ≤ 3 := by have := arity_cases t.op; omega
        have hA := fun w hO => arity_any t.op w hO
        rw [har] at hA
        have HA := Lib.hid hA
        have HV := Lib.hid hV
        have HO := Lib.hid hO
        have HT := Lib.hid hT
        have Htb := Lib.hid htb
        have Har := Lib.hid har
        have Hdc := Lib.hid hdc
        have Hn := Lib.hid hn
        have IH := Lib.hid ih
        clear hV hA htb hte ht hts hT hO hn ih hdc har h0
        have hl64 : (pos : Int) < (l.length : Int) := by omega
        go_enter Tryz.func188, Tryz.ntmps188
        go_wp2_with fail
        refine (HV.out _ HO.out).mono ?_
        rintro e w' ⟨rfl, hb2⟩
        have c0' := (hb2.cell (p := ⟨b, off + pos * 5, none⟩) (World.block_lt_of_cell? w _ c0)).trans c0
        have Hb2 := Lib.hid hb2
        clear c1 c2 c3 c4 hb2
        go_wp2_with fail
        refine (HA.out _ (HO.out.below Hb2.out)).mono ?_
        rintro e w' ⟨rfl, rfl⟩
        go_wp2_with fail
        go_loopw [4, 5, 28] (fun dv ev iv wr => ∃ (xs : List Ex) (r : List Tm) (k d q : Nat), iv = .int .i64 k ∧ dv = .int .i64 d ∧ ev = .int .i64 q ∧ k ≤ ar ∧ d ≤ 64 ∧ q ≤ l.length ∧ Hid (k = xs.length ∧ d = depths xs ∧ q + r.length = l.length ∧ l.drop (pos + 1) = flats xs ++ r ∧ oks xs) ∧ Hid (Below w.heap.size w wr)) (fun _ _ i _ => ar - (intOf i).toNat)
        case atStart => exact ⟨[], l.drop (pos + 1), 0, 0, pos + 1, rfl, rfl, rfl, by omega, by omega, by omega, ⟨rfl, rfl, by simp; omega, rfl, by simp [oks]⟩, Hb2.out⟩
        case round =>
          obtain ⟨xs, r, k, d, q, rfl, rfl, rfl, hk, hd, hq, hX, hB⟩ := hrel
          by_cases hka : k < ar
          · have h1 : Hid (l.length - q ≤ n ∧ l.drop q = r) := by
              obtain ⟨h1, h2, h3, h4, h5⟩ := hX.out
              obtain ⟨h6, h7⟩ := drop_suffix h4 (by omega)
              have h8 := Hn.out
              exact ⟨by omega, by rw [show q = l.length - r.length by omega]; exact h6.symm⟩
            have hsz := hB.out.size
            go_wp2_with fail
            refine (IH.out q h1.out.1 hq _ (HO.out.below hB.out) (HT.out.later hB.out)).mono ?_
            rintro e w' ⟨hb3, hP⟩
            have hb4 := Lib.hid (hB.out.trans (hb3.mono hsz))
            clear hb3
            rcases hP with ⟨x, r', dx, q', hH, hq', rfl⟩ | ⟨hF, rfl⟩
            · rw [h1.out.2] at hH
              have hlen := head_len hH.out
              have hrl : r.length ≤ 64 ∧ q' ≤ l.length := by have := hX.out.2.2.1; have := hq'.out; omega
              have y1 : ((dx : Int) == 0) = false := by have := hq'.out.1; rw [beq_eq_false_iff_ne]; omega
              have hdx : dx ≤ 64 := by have := hq'.out.1; omega
              clear hlen
              go_wp2_with fail
              refine ⟨⟨xs ++ [x], r', k + 1, max d dx, q', by go_num, ?_, rfl, by omega, by omega, hrl.2, ?_, hb4.out⟩, by simp [intOf]; omega⟩
              · congr 1; split <;> omega
              · obtain ⟨g1, g2, g3, g4, g5⟩ := hX.out
                obtain ⟨g6, g7⟩ := hq'.out
                obtain ⟨g8, g9⟩ := hH.out
                refine ⟨by simp; omega, by rw [depths_app, g2, g6]; simp [depths], g7, by rw [g4, g8, flats_app]; simp [flats], ?_⟩
                intro y hy
                rcases List.mem_append.1 hy with hy | hy
                · exact g5 y hy
                · rw [List.mem_singleton.1 hy]; exact g9
            · have hN : Hid (∀ x r, ¬ Head (l.drop pos) x r) := by
                obtain ⟨g1, g2, g3, g4, g5⟩ := hX.out
                unfold Hid
                rw [Hdc.out]
                rw [h1.out.2] at hF
                exact head_fail Har.out g5 g4 (by omega) hF.out
              go_wp2_with fail
              go_ret2
              exact ⟨hb4.out, .inr ⟨hN, rfl⟩⟩
          · have hka' : k = ar := by omega
            subst hka'
            clear hka
            go_wp2_with fail
            go_ret2
            refine ⟨hB.out, .inl ⟨Ex.node t xs, r, d + 1, q, ?_, ?_, ?_⟩⟩
            · obtain ⟨g1, g2, g3, g4, g5⟩ := hX.out
              unfold Hid
              rw [Hdc.out]
              exact head_node Htb.out (by rw [Har.out, g1]) g5 g4 (by omega)
            · obtain ⟨g1, g2, g3, g4, g5⟩ := hX.out
              exact ⟨by rw [Ex.depth_eq, node_args _ _ (by omega), g2], g3⟩
            · simp
    · have hd : l.drop pos = [] := List.drop_eq_nil_of_le (by omega)
      have hN : Hid (∀ x r, ¬ Head (l.drop pos) x r) := by unfold Hid; rw [hd]; exact head_nil
      have z : decide ((l.length : Int) ≤ (pos : Int)) = true := by simp; omega
      clear hd hO hT ih
      go_enter Tryz.func188, Tryz.ntmps188
      go_wp2_with fail
      go_ret2
      exact ⟨Below.refl _ _, .inr ⟨hN, rfl⟩⟩
theorem measP_head {l : List Tm} {w w' : World} {e : Ending} (h : MeasP l 0 w e w') : Below w.heap.size w w' ∧ ∃ d q : Nat, e = .returned (.tuple #[.int .i64 (d : Nat), .int .i64 (q : Nat)]) ∧ (l.length ≤ 64 → validL l = (decide (0 < d) && decide (d ≤ 16) && decide (q = l.length))) := by
  obtain ⟨hb, h⟩ := h
  refine ⟨hb, ?_⟩
  rcases h with ⟨x, r, d, q, hH, hq, rfl⟩ | ⟨hF, rfl⟩
  · refine ⟨d, q, rfl, fun hl => ?_⟩
    obtain ⟨rfl, hq2⟩ := hq.out
    have hH2 := hH.out
    rw [List.drop_zero] at hH2
    have hp := (head_len hH2).2.1
    rw [Bool.eq_iff_iff]
    simp only [Bool.and_eq_true, decide_eq_true_eq]
    rw [validL_iff]
    constructor
    · rintro ⟨y, hy, hd, _⟩
      obtain ⟨rfl, rfl⟩ := hH2.uniq hy
      exact ⟨⟨hp, hd⟩, by simpa using hq2⟩
    · rintro ⟨⟨_, hd⟩, hq3⟩
      have hr : r = [] := List.eq_nil_of_length_eq_zero (by omega)
      rw [hr] at hH2
      exact ⟨x, hH2, hd, hl⟩
  · refine ⟨0, 0, rfl, fun hl => ?_⟩
    have hF2 := hF.out
    rw [List.drop_zero] at hF2
    cases hv : validL l
    · simp
    · obtain ⟨x, hx, _⟩ := validL_iff.1 hv
      exact absurd hx (hF2 _ _)
theorem validL_long {l : List Tm} (h : 64 < l.length) : validL l = false := by
  cases hv : validL l
  · rfl
  · obtain ⟨_, _, _, h2⟩ := validL_iff.1 hv; omega
theorem exValid_any (ao : Option Addr) (cap : Nat) (l : List Tm) (hl : l.length ≤ maxLen) (hok : ∀ t ∈ l, t.okT) (w : World) (hO : Ops w) (hT : TmsAt w w.heap.size ao l) :
    Calls Tryz.prog 183 #[.slice ao l.length cap] w (Gives (.bool (validL l)) w) := by
  unfold maxLen at hl
  by_cases h64 : l.length ≤ 64
  · have hM := Lib.hid (measure_any ao cap l h64 hok l.length 0 (by omega) (by omega) w hO hT)
    have Hl := Lib.hid h64
    clear hO hT
    go_enter Tryz.func183, Tryz.ntmps183
    go_wp2_with fail
    refine hM.out.mono ?_
    intro e w' hP
    obtain ⟨hb, d, q, rfl, hv⟩ := measP_head hP
    have Hv := Lib.hid (hv h64)
    clear hP hv hM
    by_cases h1 : 0 < d
    · by_cases h2 : d ≤ 16
      · have z1 : decide ((d : Int) ≤ 16) = true := by simp; omega
        go_wp2_with fail
        go_ret
        exact ⟨ret_b (by rw [Hv.out, Bool.eq_iff_iff]; simp [h1, h2]; omega), hb⟩
      · have z1 : decide ((d : Int) ≤ 16) = false := by simp; omega
        go_wp2_with fail
        go_ret
        exact ⟨ret_b (by rw [Hv.out]; simp [h2]), hb⟩
    · have z1 : decide ((0 : Int) < (d : Int)) = false := by simp; omega
      go_wp2_with fail
      go_ret
      exact ⟨ret_b (by rw [Hv.out]; simp [h1]), hb⟩
  · rw [validL_long (by omega)]
    clear hO hT
    go_enter Tryz.func183, Tryz.ntmps183
    go_wp2_with fail
    go_ret
    exact ⟨rfl, Below.refl _ _⟩
end Go.Proofs.YtenonljnldbkiaaGreatDoor
/- The small functions behind Eval of package expr: null, number, textOf, truth, isNull, isTrue, isFalse, isUndecided, choose, and, or. -/
namespace Go.Proofs.YtenonljnldbkiaaGreatDoor
open Go.RowKit Go.Proofs.EB
set_option maxHeartbeats 1000000
attribute [local go_sem] World.cell?_alloc_some

/-- Old cells and marks, as rules for the walk. -/
theorem bcell {W w1 : World} (hb : Below W.heap.size W w1) : (∀ b o, b < W.heap.size → w1.cell? ⟨b, o, none⟩ = W.cell? ⟨b, o, none⟩) ∧ (∀ b o, b < W.heap.size → w1.frozen? ⟨b, o, none⟩ = W.frozen? ⟨b, o, none⟩) :=
  ⟨fun b o h => hb.cell (p := ⟨b, o, none⟩) h, fun b o h => hb.frozen (p := ⟨b, o, none⟩) h⟩
/-- A call that gives a value. -/
def GivesV (v : V) (w : World) (e : Ending) (w' : World) : Prop := ∃ k n s, Hid (v = ⟨k, n, s⟩) ∧ e = .returned (.agg #[.int .i64 k, .int .i64 n, .string s]) ∧ Below w.heap.size w w'
theorem GivesV.mk {v : V} {w w' : World} {k n : Int} {s : ByteArray} (hv : v = ⟨k, n, s⟩) (hb : Below w.heap.size w w') : GivesV v w (.returned (.agg #[.int .i64 k, .int .i64 n, .string s])) w' := ⟨k, n, s, hv, rfl, hb⟩

theorem al1 (w : World) (o : Obj) : Below w.heap.size w (w.alloc o) := (Below.refl _ _).alloc (Nat.le_refl _) _
theorem al2 (w : World) (o p : Obj) : Below w.heap.size w ((w.alloc o).alloc p) := (al1 w o).alloc (by simp) _
theorem al3 (w : World) (o p q : Obj) : Below w.heap.size w (((w.alloc o).alloc p).alloc q) := (al2 w o p).alloc (by simp; omega) _
theorem bt {w w0 w1 : World} (h0 : Below w.heap.size w w0) (hb : Below w0.heap.size w0 w1) : Below w.heap.size w w1 := h0.trans (hb.mono h0.size)
theorem bl3 {w w1 : World} {p : Nat} {x y z : Value} (h : Below w.heap.size w w1) (hp : w.heap.size ≤ p) : Below w.heap.size w (((w1.setCell ⟨p, 0, none⟩ x).setCell ⟨p, 1, none⟩ y).setCell ⟨p, 2, none⟩ z) :=
  ((h.setCell hp _).setCell hp _).setCell hp _
theorem falseB_truth (v : V) (h : vB v = true) : (v.k == 1 && (v.n == 0 && v.s.toList.isEmpty)) = (truthV v == 0) := by
  unfold truthV
  by_cases h1 : v.k = 1
  · have hs : v.s.toList.isEmpty = true := by unfold vB validB at h; rw [if_neg (by omega), if_pos h1] at h; simp at h; simpa using h.1
    rw [hs]
    by_cases h2 : v.n = 0 <;> simp [h1, h2]
  · simp [h1]
theorem undB_truth (v : V) : (v.k != 1) = decide (truthV v < 0) := by
  unfold truthV
  by_cases h1 : v.k = 1
  · by_cases h2 : v.n = 0 <;> simp [h1, h2]
  · simp [h1]
theorem trueB_truth (v : V) : (v.k == 1 && v.n != 0) = (truthV v == 1) := by
  unfold truthV
  by_cases h1 : v.k = 1
  · by_cases h2 : v.n = 0 <;> simp [h1, h2]
  · simp [h1]
theorem truthV_cases (v : V) : truthV v = -1 ∨ truthV v = 0 ∨ truthV v = 1 := by
  unfold truthV
  split
  · simp
  · split <;> simp
end Go.Proofs.YtenonljnldbkiaaGreatDoor
/- multiply, divide, prefix of package expr. -/
namespace Go.Proofs.YtenonljnldbkiaaGreatDoor
open Go.RowKit Go.Proofs.EB
set_option maxHeartbeats 1000000
attribute [local go_sem] World.cell?_alloc_some

def sizB (v : V) : Prop := v.s.size ≤ maxLen
theorem extract_all (s : ByteArray) : s.extract 0 s.size = s := by
  apply ByteArray.ext
  simp
theorem sizB_nil (k n : Int) : sizB ⟨k, n, ⟨#[]⟩⟩ := by simp [sizB, maxLen, ByteArray.size]
/-- A call that gives a value which is, cleaned, the one told. -/
def GivesC (v : V) (w : World) (e : Ending) (w' : World) : Prop := ∃ k n s, Hid (cleanV ⟨k, n, s⟩ = v ∧ sizB ⟨k, n, s⟩) ∧ e = .returned (.agg #[.int .i64 k, .int .i64 n, .string s]) ∧ Below w.heap.size w w'
theorem GivesC.mk {v : V} {w w' : World} {k n : Int} {s : ByteArray} (hv : cleanV ⟨k, n, s⟩ = v) (hs : sizB ⟨k, n, s⟩) (hb : Below w.heap.size w w') : GivesC v w (.returned (.agg #[.int .i64 k, .int .i64 n, .string s])) w' := ⟨k, n, s, ⟨hv, hs⟩, rfl, hb⟩
theorem clean_zero : cleanV ⟨0, 0, ⟨#[]⟩⟩ = V.zero := cleanV_idem zero_valid
theorem intVV_big {n : Int} (h : n < -4294967296 ∨ 4294967296 < n) : intVV n = V.zero := by
  unfold intVV cleanV
  rw [if_neg]
  unfold vB validB
  simp; intro _; omega
theorem mul_small {a b x y : Int} (hx : x = a ∨ x = -a) (hx0 : 0 < x) (hy : y = b ∨ y = -b) (hy0 : 0 ≤ y) (h : y ≤ 4294967296 / x) : -4294967296 ≤ a * b ∧ a * b ≤ 4294967296 := by
  have h1 : y * x ≤ 4294967296 := (Int.le_ediv_iff_mul_le hx0).1 h
  have h0 : 0 ≤ y * x := Int.mul_nonneg hy0 (by omega)
  rcases hx with rfl | rfl <;> rcases hy with rfl | rfl
  · rw [Int.mul_comm]; omega
  · rw [Int.neg_mul, Int.mul_comm b] at h1 h0; omega
  · rw [Int.mul_neg, Int.mul_comm] at h1 h0; omega
  · rw [Int.neg_mul_neg, Int.mul_comm] at h1 h0; omega
theorem mul_big {a b x y : Int} (hx : x = a ∨ x = -a) (hx0 : 0 < x) (hy : y = b ∨ y = -b) (h : 4294967296 / x < y) : a * b < -4294967296 ∨ 4294967296 < a * b := by
  have h1 : 4294967296 < y * x := by
    by_cases h2 : 4294967296 < y * x
    · exact h2
    · have := (Int.le_ediv_iff_mul_le hx0).2 (show y * x ≤ 4294967296 by omega); omega
  rcases hx with rfl | rfl <;> rcases hy with rfl | rfl
  · rw [Int.mul_comm] at h1; omega
  · rw [Int.neg_mul, Int.mul_comm b] at h1; omega
  · rw [Int.mul_neg, Int.mul_comm] at h1; omega
  · rw [Int.neg_mul_neg, Int.mul_comm] at h1; omega
/-- What the program gives for a quotient. -/
def quoV (a b : Int) : V := if b = 0 then V.zero else intVV (Int.fdiv a b)
end Go.Proofs.YtenonljnldbkiaaGreatDoor
