import Derived.WalkKit
import Derived.WalkLawsBesides
import Derived.WalkSpells
import Derived.Deep.QuietTactic
import Derived.BigQuiet
import Derived.Outline
import Derived.OwnWalk
import Derived.Deep.RegionHeld3
import Derived.Deep.AppendLies
import Derived.Deep.RegionLaw
import Derived.Lib.Hide
import Derived.Lib.UnsafeStr
import Derived.Laws.IdiomStrings
import Derived.Lib.ConvBytes
import Derived.Lib.BufferRead
import Derived.Lib.AtoiErrMem
namespace Go.Proofs.EB
open Go.RowKit
open Go.Lib (byteCells)

theorem byteCells_append (a b : List UInt8) : byteCells (a ++ b) = byteCells a ++ byteCells b := by simp [byteCells]
theorem byteCells_length (a : List UInt8) : (byteCells a).length = a.length := by simp [byteCells]
theorem byteCells_one (a : List UInt8) : ∀ u ∈ byteCells a, u.oneCell' = true := by
  intro u hu
  simp only [byteCells, List.mem_map] at hu
  obtain ⟨b, _, rfl⟩ := hu
  rfl

/-- A row that is a block of its own, known whole. -/
theorem owns_of_block {w : World} {B g : Nat} {e : TypeId} {C : Array Value} (l : List UInt8) (hg : w.heap[g]? = some (.cells C e (0, 0))) (hB : B ≤ g) (hC : C.toList = byteCells l) (hl : l.length ≤ maxLen) :
    w.ownsRow B e 1 (.slice (some ⟨g, 0, none⟩) l.length l.length) l.length (byteCells l) := by
  refine ⟨by simp [byteCells], .inr ⟨g, l.length, C, rfl, hB, hg, Nat.le_refl _, hl, ?_, ?_⟩⟩
  · have := congrArg List.length hC
    simp [byteCells] at this
    omega
  · rw [hC, Nat.mul_one]
    exact List.take_of_length_le (by simp [byteCells])
theorem below_new {w w1 : World} {o : Obj} (h : Below (w.heap.size + 1) (w.alloc o) w1) : w1.heap[w.heap.size]? = some o :=
  (h.block _ (by omega)).trans (heap_alloc_new w o)
theorem below_old {w w1 : World} {o : Obj} (h : Below (w.heap.size + 1) (w.alloc o) w1) : Below w.heap.size w w1 :=
  ((Below.refl _ _).alloc (Nat.le_refl _) o).trans (h.mono (by omega))
theorem below_old2 {w w1 : World} {o : Obj} (h : Below (w.alloc o).heap.size (w.alloc o) w1) : Below w.heap.size w w1 :=
  ((Below.refl _ _).alloc (Nat.le_refl _) o).trans (h.mono (by simp))
/-- A slice of ints that came in: nil; or a row of 'cap' cells, the numbers 'zs' (the first 'len' are its elements). -/
def IntsAt (w : World) (a : Option Addr) (len cap : Nat) (zs : List Int) : Prop :=
  (a = none ∧ len = 0 ∧ cap = 0 ∧ zs = []) ∨
  ∃ x, a = some x ∧ len ≤ cap ∧ cap * 8 ≤ 140737488351232 ∧ zs.length = cap ∧ (∀ i, i < zs.length → w.cell? (x.add i) = some (.int .i64 (zs.getD i 0))) ∧ ∀ n ∈ zs, (Lit.int .i64 n).wf = true
/-- A boxed struct of three cells. -/
theorem box3 {w : World} {g : Nat} {T : TypeId} {a b c : Value} (h : w.heap[g]? = some (.cells #[a, b, c] T (0, 0))) :
    w.cell? ⟨g, 0, none⟩ = some a ∧ w.cell? ⟨g, 1, none⟩ = some b ∧ w.cell? ⟨g, 2, none⟩ = some c ∧ w.frozen? ⟨g, 0, none⟩ = false ∧ w.frozen? ⟨g, 1, none⟩ = false ∧ w.frozen? ⟨g, 2, none⟩ = false := by
  simp [World.cell?, World.frozen?, h]
/-- All old blocks but r are as they were. -/
structure Away (r : Option Nat) (w w' : World) : Prop where
  os : w'.os = w.os
  tape : w'.tape = w.tape
  output : w'.output = w.output
  size : w.heap.size ≤ w'.heap.size
  block : ∀ k, k < w.heap.size → some k ≠ r → w'.heap[k]? = w.heap[k]?
theorem Away.below {r : Option Nat} {w w' : World} {B : Nat} (h : Away r w w') (hB : B ≤ w.heap.size) (hr : ∀ k, r = some k → B ≤ k) : Below B w w' :=
  ⟨h.os, h.tape, h.output, h.size, fun k hk => h.block k (by omega) fun e => by have := hr k e.symm; omega⟩
theorem Away.cell {r : Option Nat} {w w' : World} (h : Away r w w') {a : Addr} (ha : a.block < w.heap.size) (hr : some a.block ≠ r) : w'.cell? a = w.cell? a :=
  World.cell?_of_block (h.block a.block ha hr)
theorem Away.frozen {r : Option Nat} {w w' : World} (h : Away r w w') {a : Addr} (ha : a.block < w.heap.size) (hr : some a.block ≠ r) : w'.frozen? a = w.frozen? a :=
  World.frozen?_of_block (h.block a.block ha hr)
theorem Away.owns {r : Option Nat} {w w' : World} (h : Away r w w') {B : Nat} {e : TypeId} {size : Nat} {v : Value} {n : Nat} {xs : List Value} (ho : w.ownsRow B e size v n xs) (hne : v.ownBlock = none ∨ v.ownBlock ≠ r) : w'.ownsRow B e size v n xs :=
  ho.kept ⟨h.os, h.tape, h.output, h.size, h.block⟩ hne

section
variable {P : Program} {t e : TypeId}
/-- What an append leaves: SOME owned row with the new elements, in the old block or in a new one; all other old blocks are as they were. -/
def Appended (w0 : World) (B : Nat) (e : TypeId) (size : Nat) (v : Value) (n : Nat) (xs : List Value) (K : Value → World → Prop) : Prop :=
  ∀ g' cap w', w'.ownsRow B e size (.slice (some ⟨g', 0, none⟩) n cap) n xs → Away v.ownBlock w0 w' → Below B w0 w' → (v.ownBlock = some g' ∨ w0.heap.size ≤ g') → g' < w'.heap.size →
    K (.slice (some ⟨g', 0, none⟩) n cap) w'

/-- append(x, c1, .., cm): the new elements have been laid in a new block; xs, C: cells. -/
theorem run_appendx (ht : P.underlying t = some (.slice e)) {z : Value} {size bytes : Nat} (hinfo : (P.info? e).map (fun i => (i.zero, i.size, i.bytes)) = some (some z, size, bytes)) (hzs : z.cells.size = size) (hs0 : 0 < size) (w w0 : World) (ty : TypeId)
    (B : Nat) (v : Value) (n : Nat) (xs : List Value) (hown : w0.ownsRow B e size v n xs) (m c : Nat) (C : Array Value) (hw : w.heap = w0.heap.push (.cells C e)) (hw1 : w.os = w0.os) (hw2 : w.tape = w0.tape) (hw3 : w.output = w0.output)
    (hm : C.size = m * size) (hone : ∀ u ∈ C.toList, u.oneCell' = true) (hm0 : 0 < m) (hsz : (n + m) * bytes ≤ 140737488355328) (h63 : n + m ≤ maxLen) (hB : B ≤ w0.heap.size) (K : Value → World → Prop)
    (h : Appended w0 B e size v (n + m) (xs ++ C.toList) K) :
    ∃ v' w', (Builtin.append_ #[t, t] ty #[v, .slice (some ⟨w0.heap.size, 0, none⟩) m c]).run P w = .ok v' w' ∧ K v' w' := by
  obtain ⟨i0, hi, hz0, hz1, hz2⟩ := info_parts hinfo
  have hA : Away none w0 w := ⟨hw1, hw2, hw3, by rw [hw]; simp, fun k hk _ => by rw [hw, Array.getElem?_push, if_neg (by omega)]⟩
  have hown' : w.ownsRow B e size v n xs := hA.owns hown (by cases hv : v.ownBlock <;> simp)
  have hC : w.heap[w0.heap.size]? = some (.cells C e (0, 0)) := by rw [hw]; simp
  obtain ⟨g', cap, w', hr, h1, h2, h3, h4⟩ := run_append_lies (P := P) w t ty B e i0 _ size bytes ht hi hz0 hz1 hz2 hzs hs0 v n xs hown' ⟨w0.heap.size, 0, none⟩ m c C.toList (by simpa using hm) (World.news_of_block (cs := C) (t := e) (fr := (0, 0)) hC) hone hm0 h63 hsz (by rw [hw]; simp; omega) _ rfl
  have hA2 : Away v.ownBlock w0 w' := ⟨h2.os.trans hw1, h2.tape.trans hw2, h2.output.trans hw3, Nat.le_trans hA.size h2.size, fun k hk hne => (h2.block k (by have := hA.size; omega) hne).trans (hA.block k hk (by simp))⟩
  refine ⟨_, w', hr, h g' cap w' h1 hA2 (hA2.below hB fun k hk => (hown.lt k hk).1) ?_ h4⟩
  rcases h3 with h3 | h3
  · exact .inl h3
  · right; rw [h3, hw]; simp

/-- The same at the list of a plain region's operations. -/
theorem wpList_appendx (ht : P.underlying t = some (.slice e)) {z : Value} {size bytes : Nat} (hinfo : (P.info? e).map (fun i => (i.zero, i.size, i.bytes)) = some (some z, size, bytes)) (hzs : z.cells.size = size) (hs0 : 0 < size) (w w0 : World)
    {ops : Array Oper} {rest : List Oper} {o : Oper} {a : Act} {Q : Exit → Act → World → Prop} (hgd : o.guard = none) (s x : Operand)
    (ho : o.op = .call { callee := .builtin .append, args := #[s, x], argTypes := #[t, t] })
    (B : Nat) (v : Value) (n : Nat) (xs : List Value) (hs : a.eval s = v) (hown : w0.ownsRow B e size v n xs) (m c : Nat) (C : Array Value) (hx : a.eval x = .slice (some ⟨w0.heap.size, 0, none⟩) m c)
    (hw : w.heap = w0.heap.push (.cells C e)) (hw1 : w.os = w0.os) (hw2 : w.tape = w0.tape) (hw3 : w.output = w0.output)
    (hm : C.size = m * size) (hone : ∀ u ∈ C.toList, u.oneCell' = true) (hm0 : 0 < m) (hsz : (n + m) * bytes ≤ 140737488355328) (h63 : n + m ≤ maxLen) (hB : B ≤ w0.heap.size)
    (h : Appended w0 B e size v (n + m) (xs ++ C.toList) fun v' w' => wpList P ops Q rest (a.put o.dst v') w') : wpList P ops Q (o :: rest) a w := by
  obtain ⟨v', w', hr, hK⟩ := run_appendx ht hinfo hzs hs0 w w0 o.type B v n xs hown m c C hw hw1 hw2 hw3 hm hone hm0 hsz h63 hB _ h
  refine wpList_plain hgd fun _ hK' => ?_
  unfold Oper.wp execOp
  simp only [ho, resolve, invoke, builtin, Sem.run_bind, Sem.run_pure, Result.andThen_ok, List.map_toArray, List.map_cons, List.map_nil, hs, hx, hr]
  exact hK' _ _ hK

/-- The same at a step of a region that draws its order. -/
theorem step_appendx (ht : P.underlying t = some (.slice e)) {z : Value} {size bytes : Nat} (hinfo : (P.info? e).map (fun i => (i.zero, i.size, i.bytes)) = some (some z, size, bytes)) (hzs : z.cells.size = size) (hs0 : 0 < size) (w w0 : World)
    {ops : Array Oper} {o : Oper} {a : Act} {K : Act → World → Prop} {Q : Exit → Act → World → Prop} {E : Prop} (hgd : o.guard = none) (s x : Operand)
    (ho : o.op = .call { callee := .builtin .append, args := #[s, x], argTypes := #[t, t] })
    (B : Nat) (v : Value) (n : Nat) (xs : List Value) (hs : a.eval s = v) (hown : w0.ownsRow B e size v n xs) (m c : Nat) (C : Array Value) (hx : a.eval x = .slice (some ⟨w0.heap.size, 0, none⟩) m c)
    (hw : w.heap = w0.heap.push (.cells C e)) (hw1 : w.os = w0.os) (hw2 : w.tape = w0.tape) (hw3 : w.output = w0.output)
    (hm : C.size = m * size) (hone : ∀ u ∈ C.toList, u.oneCell' = true) (hm0 : 0 < m) (hsz : (n + m) * bytes ≤ 140737488355328) (h63 : n + m ≤ maxLen) (hB : B ≤ w0.heap.size)
    (h : Appended w0 B e size v (n + m) (xs ++ C.toList) fun v' w' => K (a.put o.dst v') w') : if Region.wanted o (yielded ops a.tmps) = true then Oper.wp P o a w K Q else E := by
  have hwt : Region.wanted o (yielded ops a.tmps) = true := by simp [Region.wanted, hgd]
  rw [if_pos hwt]
  obtain ⟨v', w', hr, hK⟩ := run_appendx ht hinfo hzs hs0 w w0 o.type B v n xs hown m c C hw hw1 hw2 hw3 hm hone hm0 hsz h63 hB _ h
  unfold Oper.wp execOp
  simp only [ho, resolve, invoke, builtin, Sem.run_bind, Sem.run_pure, Result.andThen_ok, List.map_toArray, List.map_cons, List.map_nil, hs, hx, hr]
  exact hK

/-- A guard: the step's operation writes slot n. -/
theorem at_slot (n : Nat) {op : Op} {ty : TypeId} {p : String} {af : Array Edge} {g : Option (Nat × Bool)} {y : Nat → Option Bool} {A E : Prop} (h : if Region.wanted ⟨some n, op, ty, p, af, g⟩ y = true then A else E) :
    if Region.wanted ⟨some n, op, ty, p, af, g⟩ y = true then A else E := h

/-- BYTES: an owned row that reads as a list of bytes. -/
def OwnsB (w : World) (B : Nat) (e : TypeId) (v : Value) (l : List UInt8) : Prop := w.ownsRow B e 1 v l.length (byteCells l)
theorem Away.ownsB {r : Option Nat} {w w' : World} (h : Away r w w') {B : Nat} {v : Value} {l : List UInt8} (ho : OwnsB w B e v l) (hne : v.ownBlock = none ∨ v.ownBlock ≠ r) : OwnsB w' B e v l := h.owns ho hne
theorem OwnsB.nil (w : World) (B : Nat) : OwnsB w B e (.slice none 0 0) [] := World.ownsRow_nil _ _ _ _
/-- What an append of bytes leaves. -/
def AppB (w0 : World) (B : Nat) (e : TypeId) (v : Value) (l : List UInt8) (K : Value → World → Prop) : Prop :=
  ∀ l' g' cap w', Hid (l' = l) → OwnsB w' B e (.slice (some ⟨g', 0, none⟩) l'.length cap) l' → Away v.ownBlock w0 w' → Below B w0 w' → (v.ownBlock = some g' ∨ w0.heap.size ≤ g') → g' < w'.heap.size →
    K (.slice (some ⟨g', 0, none⟩) l'.length cap) w'
theorem AppB.to {w0 : World} {B : Nat} {v : Value} {l nl : List UInt8} {C : Array Value} {m : Nat} (hC : C.toList = byteCells nl) (hm : nl.length = m) {K : Value → World → Prop} (h : AppB w0 B e v (l ++ nl) K) :
    Appended w0 B e 1 v (l.length + m) (byteCells l ++ C.toList) K := by
  intro g' cap w' h1 h2 h3 h4 h5
  have e1 : l.length + m = (l ++ nl).length := by simp [hm]
  rw [e1] at h1 ⊢
  exact h _ g' cap w' rfl (by unfold OwnsB; rw [byteCells_append, ← hC]; exact h1) h2 h3 h4 h5
theorem wpList_app (ht : P.underlying t = some (.slice e)) (hinfo : (P.info? e).map (fun i => (i.zero, i.size, i.bytes)) = some (some (.int .u8 0), 1, 1)) (w w0 : World)
    {ops : Array Oper} {rest : List Oper} {o : Oper} {a : Act} {Q : Exit → Act → World → Prop} (hgd : o.guard = none) (s x : Operand)
    (ho : o.op = .call { callee := .builtin .append, args := #[s, x], argTypes := #[t, t] })
    (B : Nat) (v : Value) (l : List UInt8) (hs : a.eval s = v) (hown : OwnsB w0 B e v l) (nl : List UInt8) (m c : Nat) (C : Array Value) (hx : a.eval x = .slice (some ⟨w0.heap.size, 0, none⟩) m c)
    (hw : w.heap = w0.heap.push (.cells C e)) (hw1 : w.os = w0.os) (hw2 : w.tape = w0.tape) (hw3 : w.output = w0.output)
    (hC : C.toList = byteCells nl) (hm : nl.length = m) (hm0 : 0 < m) (hsz : l.length + m ≤ 1099511627776) (hB : B ≤ w0.heap.size)
    (h : AppB w0 B e v (l ++ nl) fun v' w' => wpList P ops Q rest (a.put o.dst v') w') : wpList P ops Q (o :: rest) a w :=
  wpList_appendx ht hinfo rfl (by decide) w w0 hgd s x ho B v _ _ hs hown m c C hx hw hw1 hw2 hw3 (by have := congrArg List.length hC; simp [byteCells] at this; omega) (by rw [hC]; exact byteCells_one _) hm0 (by omega) (by unfold maxLen; omega) hB (h.to hC hm)
theorem step_app (ht : P.underlying t = some (.slice e)) (hinfo : (P.info? e).map (fun i => (i.zero, i.size, i.bytes)) = some (some (.int .u8 0), 1, 1)) (w w0 : World)
    {ops : Array Oper} {o : Oper} {a : Act} {K : Act → World → Prop} {Q : Exit → Act → World → Prop} {E : Prop} (hgd : o.guard = none) (s x : Operand)
    (ho : o.op = .call { callee := .builtin .append, args := #[s, x], argTypes := #[t, t] })
    (B : Nat) (v : Value) (l : List UInt8) (hs : a.eval s = v) (hown : OwnsB w0 B e v l) (nl : List UInt8) (m c : Nat) (C : Array Value) (hx : a.eval x = .slice (some ⟨w0.heap.size, 0, none⟩) m c)
    (hw : w.heap = w0.heap.push (.cells C e)) (hw1 : w.os = w0.os) (hw2 : w.tape = w0.tape) (hw3 : w.output = w0.output)
    (hC : C.toList = byteCells nl) (hm : nl.length = m) (hm0 : 0 < m) (hsz : l.length + m ≤ 1099511627776) (hB : B ≤ w0.heap.size)
    (h : AppB w0 B e v (l ++ nl) fun v' w' => K (a.put o.dst v') w') : if Region.wanted o (yielded ops a.tmps) = true then Oper.wp P o a w K Q else E :=
  step_appendx ht hinfo rfl (by decide) w w0 hgd s x ho B v _ _ hs hown m c C hx hw hw1 hw2 hw3 (by have := congrArg List.length hC; simp [byteCells] at this; omega) (by rw [hC]; exact byteCells_one _) hm0 (by omega) (by unfold maxLen; omega) hB (h.to hC hm)

/-- '[]byte(s)': a new row in SOME world that has only new blocks. -/
theorem wpList_s2b {src : TypeId} (hsrc : P.underlying src = some .string) (ht : P.underlying t = some (.slice e)) (he : P.underlying e = some (.int .u8)) (w : World)
    {ops : Array Oper} {rest : List Oper} {o : Oper} {a : Act} {Q : Exit → Act → World → Prop} (hgd : o.guard = none) (x : Operand) (ho : o.op = .convert src t x) (s : ByteArray) (hx : a.eval x = .string s)
    (h : ∀ cap w1, Below w.heap.size w w1 → w.heap.size < w1.heap.size → (∀ j (hj : j < s.size), w1.cell? ⟨w.heap.size, j, none⟩ = some (.int .u8 ((s[j]).toNat : Int))) →
      wpList P ops Q rest (a.put o.dst (.slice (some ⟨w.heap.size, 0, none⟩) s.size cap)) w1) : wpList P ops Q (o :: rest) a w := by
  refine wpList_plain hgd fun _ hK => ?_
  unfold Oper.wp execOp
  simp only [ho, hx, Sem.run_bind, Lib.run_convert_string_bytes w src t e s hsrc ht he, Result.andThen_ok, Sem.run_pure]
  refine hK _ _ (h _ _ (Lib.bytesWorld_below _ _ _) (by rw [Lib.bytesWorld_size]; omega) fun j hj => ?_)
  rw [Lib.bytesWorld_cell w e s j hj]
  congr 3
  have : j < s.data.toList.length := by simpa using hj
  simp [List.getD_eq_getElem?_getD, List.getElem?_eq_getElem this]
  rfl

/-- 'string(b)' of a row that reads as the bytes l. -/
theorem wpList_b2s {dst : TypeId} (hd : P.underlying dst = some .string) (ht : P.underlying t = some (.slice e)) (he : P.underlying e = some (.int .u8)) (w : World)
    {ops : Array Oper} {rest : List Oper} {o : Oper} {a : Act} {Q : Exit → Act → World → Prop} (hgd : o.guard = none) (x : Operand) (ho : o.op = .convert t dst x) (B : Nat) (v : Value) (l : List UInt8)
    (hx : a.eval x = v) (hown : OwnsB w B e v l)
    (h : wpList P ops Q rest (a.put o.dst (.string ⟨l.toArray⟩)) w) : wpList P ops Q (o :: rest) a w := by
  refine wpList_plain hgd fun _ hK => ?_
  unfold Oper.wp execOp
  have hr : (convert t dst v).run P w = .ok (.string ⟨l.toArray⟩) w := by
    rcases hown.2 with ⟨rfl, hl⟩ | ⟨g, cap, cur, rfl, _, _⟩
    · have : l = [] := List.eq_nil_of_length_eq_zero hl
      subst this
      exact Lib.run_convert_nil_bytes w t dst e 0 ht he hd
    · refine run_convert_bytes_back w t dst e _ _ l ht he hd fun j hj => ?_
      refine hown.cells (g := g) rfl j _ ?_
      simp [byteCells, hj]
  simp only [ho, hx, Sem.run_bind, hr, Result.andThen_ok, Sem.run_pure]
  exact hK _ _ h
end
end Go.Proofs.EB
