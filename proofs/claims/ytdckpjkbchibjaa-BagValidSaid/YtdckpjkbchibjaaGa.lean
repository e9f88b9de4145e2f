/- Rows of any elements in memory, by the list of cells of one element: what reads as a list, what the call owns, appends of one element and of a row. Nothing of a program in it. -/
import Derived.Test.YtdckpjkbchibjaaEb
import Derived.Laws.AppendOwnNone
namespace Go.Proofs.EB
open Go.RowKit

section
variable {α : Type} (enc : α → List Value) (m : Nat)

/-- A slice that reads as a list. -/
def RAt (w : World) (B : Nat) (ao : Option Addr) (l : List α) : Prop :=
  l = [] ∨ ∃ b off, ao = some ⟨b, off, none⟩ ∧ b < B ∧ ∀ i (h : i < l.length) j u, (enc l[i])[j]? = some u → w.cell? ⟨b, off + i * m + j, none⟩ = some u
variable {enc m}
theorem RAt.nil {w : World} {B : Nat} {ao : Option Addr} : RAt enc m w B ao [] := .inl rfl
theorem RAt.below {B : Nat} {w w' : World} {ao : Option Addr} {l : List α} (h : RAt enc m w B ao l) (hb : Below B w w') : RAt enc m w' B ao l := by
  rcases h with h0 | ⟨b, off, ha, hlt, hc⟩
  · exact .inl h0
  · exact .inr ⟨b, off, ha, hlt, fun i hi j u hu => (hb.cell (p := ⟨b, off + i * m + j, none⟩) hlt).trans (hc i hi j u hu)⟩
theorem RAt.mono {B B' : Nat} {w : World} {ao : Option Addr} {l : List α} (h : RAt enc m w B ao l) (hB : B ≤ B') : RAt enc m w B' ao l := by
  rcases h with h0 | ⟨b, off, ha, hlt, hc⟩
  · exact .inl h0
  · exact .inr ⟨b, off, ha, by omega, hc⟩
theorem RAt.later {w w' : World} {ao : Option Addr} {l : List α} (h : RAt enc m w w.heap.size ao l) (hb : Below w.heap.size w w') : RAt enc m w' w'.heap.size ao l := (h.below hb).mono hb.size
theorem RAt.away {w w' : World} {B : Nat} {ao : Option Addr} {l : List α} {r : Option Nat} (h : RAt enc m w B ao l) (ha : Away r w w') (hB : B ≤ w.heap.size) (hr : ∀ b o, ao = some ⟨b, o, none⟩ → some b ≠ r) : RAt enc m w' B ao l := by
  rcases h with h0 | ⟨b, off, e, hlt, hc⟩
  · exact .inl h0
  · exact .inr ⟨b, off, e, hlt, fun i hi j u hu => (ha.cell (a := ⟨b, off + i * m + j, none⟩) (show b < w.heap.size by omega) (hr b off e)).trans (hc i hi j u hu)⟩
/-- A part of a row. -/
theorem RAt.drop {w : World} {B b off : Nat} {l : List α} (h : RAt enc m w B (some ⟨b, off, none⟩) l) (k : Nat) : RAt enc m w B (some ⟨b, off + k * m, none⟩) (l.drop k) := by
  rcases h with h0 | ⟨b', off', e, hlt, hc⟩
  · subst h0; left; simp
  · simp only [Option.some.injEq, Addr.mk.injEq] at e
    obtain ⟨rfl, rfl, _⟩ := e
    refine .inr ⟨b, _, rfl, hlt, fun i hi j u hu => ?_⟩
    rw [List.length_drop] at hi
    have h1 := hc (k + i) (by omega) j u (by simpa using hu)
    rw [show off + k * m + i * m + j = off + (k + i) * m + j by rw [Nat.add_mul]; omega]
    exact h1
theorem RAt.take {w : World} {B : Nat} {ao : Option Addr} {l : List α} (h : RAt enc m w B ao l) (k : Nat) : RAt enc m w B ao (l.take k) := by
  rcases h with h0 | ⟨b, off, e, hlt, hc⟩
  · subst h0; left; simp
  · refine .inr ⟨b, off, e, hlt, fun i hi j u hu => ?_⟩
    rw [List.length_take] at hi
    exact hc i (by omega) j u (by simpa using hu)
theorem RAt.form {w : World} {B : Nat} {ao : Option Addr} {l : List α} (h : RAt enc m w B ao l) (hl : 0 < l.length) : ∃ b off, ao = some ⟨b, off, none⟩ ∧ b < B := by
  rcases h with h0 | ⟨b, off, e, hlt, _⟩
  · subst h0; simp at hl
  · exact ⟨b, off, e, hlt⟩
theorem RAt.cell {w : World} {B b off : Nat} {l : List α} (h : RAt enc m w B (some ⟨b, off, none⟩) l) {i : Nat} (hi : i < l.length) {j : Nat} {u : Value} (hu : (enc l[i])[j]? = some u) : w.cell? ⟨b, off + i * m + j, none⟩ = some u := by
  rcases h with h0 | ⟨b', off', e, _, hc⟩
  · subst h0; simp at hi
  · simp only [Option.some.injEq, Addr.mk.injEq] at e
    obtain ⟨rfl, rfl, _⟩ := e
    exact hc i hi j u hu

/-- The cells of a list, one after the other. -/
def cellsL (enc : α → List Value) (l : List α) : List Value := l.flatMap enc
theorem cellsL_app (a b : List α) : cellsL enc (a ++ b) = cellsL enc a ++ cellsL enc b := by simp [cellsL]
theorem cellsL_one (a : α) : cellsL enc [a] = enc a := by simp [cellsL]
theorem cellsL_len (hm : ∀ a, (enc a).length = m) (l : List α) : (cellsL enc l).length = l.length * m := by
  unfold cellsL
  induction l with
  | nil => simp
  | cons a l ih => simp only [List.flatMap_cons, List.length_append, List.length_cons, ih, hm, Nat.add_mul]; omega
theorem cellsL_at (hm : ∀ a, (enc a).length = m) : ∀ (l : List α) (i : Nat) (h : i < l.length) (j : Nat) (u : Value), (enc l[i])[j]? = some u → (cellsL enc l)[i * m + j]? = some u
  | v :: l, 0, _, j, u, hu => by
    have hj := (List.getElem?_eq_some_iff.1 hu).1
    simp only [cellsL, List.flatMap_cons, Nat.zero_mul, Nat.zero_add]
    rw [List.getElem?_append_left (by simpa using hj)]
    exact hu
  | v :: l, i + 1, h, j, u, hu => by
    have ih := cellsL_at hm l i (by simpa using h) j u (by simpa using hu)
    simp only [cellsL, List.flatMap_cons] at ih ⊢
    rw [List.getElem?_append_right (by rw [hm, Nat.add_mul]; omega), hm, show (i + 1) * m + j - m = i * m + j by rw [Nat.add_mul]; omega]
    exact ih
theorem cellsL_get (hm : ∀ a, (enc a).length = m) (hm0 : 0 < m) {l : List α} {n : Nat} {u : Value} (h : (cellsL enc l)[n]? = some u) : ∃ i r, ∃ (hi : i < l.length), n = i * m + r ∧ (enc l[i])[r]? = some u := by
  have hlt := (List.getElem?_eq_some_iff.1 h).1
  rw [cellsL_len hm] at hlt
  have hi : n / m < l.length := Nat.div_lt_of_lt_mul (by rw [Nat.mul_comm]; exact hlt)
  refine ⟨n / m, n % m, hi, by rw [Nat.mul_comm]; exact (Nat.div_add_mod n m).symm, ?_⟩
  have hr : n % m < (enc l[n / m]).length := by rw [hm]; exact Nat.mod_lt _ hm0
  have h2 := cellsL_at hm l (n / m) hi (n % m) _ (List.getElem?_eq_getElem hr)
  rw [show n / m * m + n % m = n by rw [Nat.mul_comm]; exact Nat.div_add_mod n m, h] at h2
  rw [List.getElem?_eq_getElem hr, h2]

/-- An owned row. -/
def OwnsR (enc : α → List Value) (m : Nat) (w : World) (B : Nat) (e : TypeId) (v : Value) (l : List α) : Prop := w.ownsRow B e m v l.length (cellsL enc l)
theorem OwnsR.nil {w : World} {B : Nat} {e : TypeId} : OwnsR enc m w B e (.slice none 0 0) [] := World.ownsRow_nil _ _ _ _
theorem OwnsR.rAt (hm : ∀ a, (enc a).length = m) {w : World} {B : Nat} {e : TypeId} {v : Value} {l : List α} (h : OwnsR enc m w B e v l) : ∃ ao cap, v = .slice ao l.length cap ∧ RAt enc m w w.heap.size ao l ∧ (∀ b o, ao = some ⟨b, o, none⟩ → B ≤ b ∧ b < w.heap.size) ∧ (ao = none → cap = 0) ∧ l.length ≤ cap ∧ cap ≤ maxLen := by
  rcases h.2 with ⟨rfl, h0⟩ | ⟨g, cap, cur, rfl, hb, hg, hn, hx, hs, ht⟩
  · have : l = [] := List.eq_nil_of_length_eq_zero h0
    subst this
    exact ⟨none, 0, rfl, .inl rfl, fun _ _ h => by simp at h, fun _ => rfl, by simp, by simp [maxLen]⟩
  · have hgl := (Array.getElem?_eq_some_iff.1 hg).1
    refine ⟨_, _, rfl, .inr ⟨g, 0, rfl, hgl, fun i hi j u hu => ?_⟩, fun b o h => by simp at h; omega, fun h => by simp at h, hn, hx⟩
    have c0 := World.ownsRow.cells h (g := g) rfl _ _ (cellsL_at hm l i hi j u hu)
    rw [Go.WideShapes.add_plain] at c0
    rw [← c0]; congr 2; omega
theorem OwnsR.lt {w : World} {B : Nat} {e : TypeId} {v : Value} {l : List α} (h : OwnsR enc m w B e v l) : ∀ b, v.ownBlock = some b → B ≤ b ∧ b < w.heap.size := fun b hb => World.ownsRow.lt h b hb
theorem OwnsR.away {r : Option Nat} {w w' : World} {B : Nat} {e : TypeId} {v : Value} {l : List α} (ho : OwnsR enc m w B e v l) (h : Away r w w') (hne : v.ownBlock = none ∨ v.ownBlock ≠ r) : OwnsR enc m w' B e v l := h.owns ho hne
theorem OwnsR.below {w w' : World} {B : Nat} {e : TypeId} {v : Value} {l : List α} (ho : OwnsR enc m w B e v l) (h : Below w.heap.size w w') : OwnsR enc m w' B e v l :=
  ho.away (r := none) ⟨h.os, h.tape, h.output, h.size, fun k hk _ => h.block k hk⟩ (by cases hv : v.ownBlock <;> simp)
/-- A new block that the walk has laid, as an owned row. -/
theorem ownsR_new {w : World} {B g : Nat} {e : TypeId} {C : Array Value} {l : List α} (hm : ∀ a, (enc a).length = m) (hg : w.heap[g]? = some (.cells C e (0, 0))) (hB : B ≤ g) (hC : C.toList = cellsL enc l) (hl : l.length ≤ maxLen) :
    OwnsR enc m w B e (.slice (some ⟨g, 0, none⟩) l.length l.length) l := by
  refine ⟨cellsL_len hm l, .inr ⟨g, l.length, C, rfl, hB, hg, Nat.le_refl _, hl, ?_, ?_⟩⟩
  · have := congrArg List.length hC
    rw [cellsL_len hm] at this
    simpa using this
  · rw [hC]
    exact List.take_of_length_le (by rw [cellsL_len hm]; exact Nat.le_refl _)

variable {P : Program} {t e : TypeId}
/-- What an append leaves. -/
def AppR (enc : α → List Value) (m : Nat) (w0 : World) (B : Nat) (e : TypeId) (v : Value) (l : List α) (K : Value → World → Prop) : Prop :=
  ∀ l' g' cap w', Hid (l' = l) → OwnsR enc m w' B e (.slice (some ⟨g', 0, none⟩) l'.length cap) l' → Away v.ownBlock w0 w' → Below B w0 w' → (v.ownBlock = some g' ∨ w0.heap.size ≤ g') → g' < w'.heap.size →
    K (.slice (some ⟨g', 0, none⟩) l'.length cap) w'
theorem appR_to {w0 : World} {B : Nat} {v : Value} {l nl : List α} {C : Array Value} {K : Value → World → Prop} (hC : C.toList = cellsL enc nl) (h : AppR enc m w0 B e v (l ++ nl) K) :
    Appended w0 B e m v (l.length + nl.length) (cellsL enc l ++ C.toList) K := by
  intro g' cap w' h1 h2 h3 h4 h5
  rw [hC, ← cellsL_app, show l.length + nl.length = (l ++ nl).length by simp] at h1
  rw [show l.length + nl.length = (l ++ nl).length by simp]
  exact h _ g' cap w' rfl h1 h2 h3 h4 h5
/-- append(s, y1, .., yk): the new elements have been laid in a new block. -/
theorem wpList_appR (ht : P.underlying t = some (.slice e)) {z : Value} {bytes : Nat} (hinfo : (P.info? e).map (fun i => (i.zero, i.size, i.bytes)) = some (some z, m, bytes)) (hzs : z.cells.size = m) (hm0 : 0 < m) (hm : ∀ a, (enc a).length = m) (hone : ∀ a, ∀ u ∈ enc a, u.oneCell' = true)
    (w w0 : World) {ops : Array Oper} {rest : List Oper} {o : Oper} {a : Act} {Q : Exit → Act → World → Prop} (hgd : o.guard = none) (s x : Operand)
    (ho : o.op = .call { callee := .builtin .append, args := #[s, x], argTypes := #[t, t] })
    (B : Nat) (v : Value) (l : List α) (hs : a.eval s = v) (hown : OwnsR enc m w0 B e v l) (nl : List α) (k c : Nat) (C : Array Value) (hx : a.eval x = .slice (some ⟨w0.heap.size, 0, none⟩) k c)
    (hw : w.heap = w0.heap.push (.cells C e)) (hw1 : w.os = w0.os) (hw2 : w.tape = w0.tape) (hw3 : w.output = w0.output)
    (hC : C.toList = cellsL enc nl) (hk : nl.length = k) (hk0 : 0 < k) (hsz : (l.length + k) * bytes ≤ 140737488355328) (h63 : l.length + k ≤ maxLen) (hB : B ≤ w0.heap.size)
    (h : AppR enc m w0 B e v (l ++ nl) fun v' w' => wpList P ops Q rest (a.put o.dst v') w') : wpList P ops Q (o :: rest) a w := by
  subst hk
  refine wpList_appendx ht hinfo hzs hm0 w w0 hgd s x ho B v _ _ hs hown nl.length c C hx hw hw1 hw2 hw3 ?_ ?_ hk0 hsz h63 hB (appR_to hC h)
  · have := congrArg List.length hC
    rw [cellsL_len hm] at this
    simpa using this
  · rw [hC]
    intro u hu
    simp only [cellsL, List.mem_flatMap] at hu
    obtain ⟨y, _, hy⟩ := hu
    exact hone y u hy
theorem step_appR (ht : P.underlying t = some (.slice e)) {z : Value} {bytes : Nat} (hinfo : (P.info? e).map (fun i => (i.zero, i.size, i.bytes)) = some (some z, m, bytes)) (hzs : z.cells.size = m) (hm0 : 0 < m) (hm : ∀ a, (enc a).length = m) (hone : ∀ a, ∀ u ∈ enc a, u.oneCell' = true)
    (w w0 : World) {ops : Array Oper} {o : Oper} {a : Act} {K : Act → World → Prop} {Q : Exit → Act → World → Prop} {E : Prop} (hgd : o.guard = none) (s x : Operand)
    (ho : o.op = .call { callee := .builtin .append, args := #[s, x], argTypes := #[t, t] })
    (B : Nat) (v : Value) (l : List α) (hs : a.eval s = v) (hown : OwnsR enc m w0 B e v l) (nl : List α) (k c : Nat) (C : Array Value) (hx : a.eval x = .slice (some ⟨w0.heap.size, 0, none⟩) k c)
    (hw : w.heap = w0.heap.push (.cells C e)) (hw1 : w.os = w0.os) (hw2 : w.tape = w0.tape) (hw3 : w.output = w0.output)
    (hC : C.toList = cellsL enc nl) (hk : nl.length = k) (hk0 : 0 < k) (hsz : (l.length + k) * bytes ≤ 140737488355328) (h63 : l.length + k ≤ maxLen) (hB : B ≤ w0.heap.size)
    (h : AppR enc m w0 B e v (l ++ nl) fun v' w' => K (a.put o.dst v') w') : if Region.wanted o (yielded ops a.tmps) = true then Oper.wp P o a w K Q else E := by
  subst hk
  refine step_appendx ht hinfo hzs hm0 w w0 hgd s x ho B v _ _ hs hown nl.length c C hx hw hw1 hw2 hw3 ?_ ?_ hk0 hsz h63 hB (appR_to hC h)
  · have := congrArg List.length hC
    rw [cellsL_len hm] at this
    simpa using this
  · rw [hC]
    intro u hu
    simp only [cellsL, List.mem_flatMap] at hu
    obtain ⟨y, _, hy⟩ := hu
    exact hone y u hy
/-- append(s, x...): a row that reads as a list, behind a row of the call's own. -/
theorem wpList_copyR (ht : P.underlying t = some (.slice e)) {z : Value} {bytes : Nat} (hinfo : (P.info? e).map (fun i => (i.zero, i.size, i.bytes)) = some (some z, m, bytes)) (hzs : z.cells.size = m) (hm0 : 0 < m) (hm : ∀ a, (enc a).length = m) (hone : ∀ a, ∀ u ∈ enc a, u.oneCell' = true)
    (w : World) {ops : Array Oper} {rest : List Oper} {o : Oper} {a : Act} {Q : Exit → Act → World → Prop} (hgd : o.guard = none) (s x : Operand)
    (ho : o.op = .call { callee := .builtin .append, args := #[s, x], argTypes := #[t, t] })
    (B : Nat) (v : Value) (l : List α) (hs : a.eval s = v) (hown : OwnsR enc m w B e v l) (B' : Nat) (ao : Option Addr) (cap : Nat) (nl : List α) (hx : a.eval x = .slice ao nl.length cap)
    (hrow : RAt enc m w B' ao nl) (hnil : ao = none → cap = 0) (hsz : (l.length + nl.length) * bytes ≤ 140737488355328) (h63 : l.length + nl.length ≤ maxLen) (hB : B ≤ w.heap.size)
    (h : ∀ l' v' w', Hid (l' = l ++ nl) → OwnsR enc m w' B e v' l' → Away v.ownBlock w w' → Below B w w' → (v'.ownBlock = v.ownBlock ∨ v'.ownBlock = some w.heap.size) → (v' = .slice none 0 0 ↔ v = .slice none 0 0 ∧ nl = []) → wpList P ops Q rest (a.put o.dst v') w') :
    wpList P ops Q (o :: rest) a w := by
  obtain ⟨i0, hi, hz0, hz1, hz2⟩ := info_parts hinfo
  cases ao with
  | none =>
    have hl : nl = [] := by
      rcases hrow with h0 | ⟨b, off, e, _⟩
      · exact h0
      · simp at e
    subst hl
    rw [hnil rfl] at hx
    exact wpList_append_own_none hgd s x t ho B e i0 m ht hi _ _ _ hs hown hx (h l v w (by simp [Hid]) hown ⟨rfl, rfl, rfl, Nat.le_refl _, fun _ _ _ => rfl⟩ (Below.refl _ _) (.inl rfl) (by simp))
  | some ad =>
    have hnews : ∀ j u, (cellsL enc nl)[j]? = some u → w.cell? (ad.add j) = some u := by
      intro j u hj
      obtain ⟨i, r, hi, rfl, hu⟩ := cellsL_get hm hm0 hj
      rcases hrow with h0 | ⟨b, off, e, _, hc⟩
      · subst h0; simp at hi
      · simp only [Option.some.injEq] at e
        subst e
        rw [Go.WideShapes.add_plain, ← Nat.add_assoc]
        exact hc i hi _ _ hu
    have h1 : ∀ u ∈ cellsL enc nl, u.oneCell' = true := by
      intro u hu
      simp only [cellsL, List.mem_flatMap] at hu
      obtain ⟨y, _, hy⟩ := hu
      exact hone y u hy
    refine wpList_append_own_at (w := w) hgd s x t ho B e i0 z m bytes ht hi hz0 hz1 hz2 hzs hm0 _ _ _ hs hown ad nl.length cap (cellsL enc nl) hx (cellsL_len hm nl) hnews h1 h63 hsz hB ?_
    intro v' w' k1 k2 k3 k4
    have hA : Away v.ownBlock w w' := ⟨k2.os, k2.tape, k2.output, k2.size, k2.block⟩
    rw [← cellsL_app, show l.length + nl.length = (l ++ nl).length by simp] at k1
    exact h (l ++ nl) v' w' rfl k1 hA (hA.below hB (fun k hk => (hown.lt k hk).1)) k4 (by rw [k3, List.length_eq_zero_iff])
end
end Go.Proofs.EB
