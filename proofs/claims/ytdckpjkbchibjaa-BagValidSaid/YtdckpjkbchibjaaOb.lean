/- How the rows open slices of entries (rows of values with a count). -/
import Derived.Test.YtdckpjkbchibjaaRw
import Derived.Test.YtdckpjkbchibjaaBb
namespace Go.Proofs.Ytdckpjkbchibjaa
open Go.ChangeShapes Go.WideShapes Go.ChangeAt Go.RowKit Go.Deep Go.Joins
open Go.ChangeMaps (open_string shut_string)
open Go.Proofs.EB
set_option maxRecDepth 100000
def cellV3 (v : V) : List Value := [.int .i64 v.k, .int .i64 v.n, .string v.s]
theorem cellV3_len (v : V) : (cellV3 v).length = 3 := rfl
section
variable {H : Type} {enc : TypeId × Value → H} {w : World} {base : Nat} {spare : Nat → Bool} {held : Bool}
theorem open_V3b {fuel : Nat} {cs : List Value} {x : DataW H × List MemPlace} (h : DataW.trod enc Try.prog w base spare held fuel 42 cs = some x) : ∃ v : V, v.ok ∧ cs = cellV3 v := by
  obtain ⟨xs, n, _, _, hl, hxs, hf⟩ := DataW.trod_struct Try.underlying42 h
  have h0 := hf 0 _ rfl
  have h1 := hf 1 _ rfl
  have h2 := hf 2 _ rfl
  have hC : Try.prog.cellsOf 42 = 3 := by kernel_rfl
  rw [hC] at hl
  have c9 : Try.prog.cellsOf 9 = 1 := by kernel_rfl
  have c2 : Try.prog.cellsOf 2 = 1 := by kernel_rfl
  have c3 : Try.prog.cellsOf 3 = 1 := by kernel_rfl
  match xs, hxs with
  | [y0, y1, y2], _ =>
    match cs, hl with
    | [v0, v1, v2], _ =>
      have k0 : DataW.trod enc Try.prog w base spare held n 3 (([v0, v1, v2].drop 0).take (Try.prog.cellsOf 3)) = some y0 := h0
      have k1 : DataW.trod enc Try.prog w base spare held n 2 (([v0, v1, v2].drop 1).take (Try.prog.cellsOf 2)) = some y1 := h1
      have k2 : DataW.trod enc Try.prog w base spare held n 9 (([v0, v1, v2].drop 2).take (Try.prog.cellsOf 9)) = some y2 := h2
      rw [c3] at k0
      rw [c2] at k1
      rw [c9] at k2
      have q0 : DataW.trod enc Try.prog w base spare held n 3 [v0] = some y0 := k0
      have q1 : DataW.trod enc Try.prog w base spare held n 2 [v1] = some y1 := k1
      have q2 : DataW.trod enc Try.prog w base spare held n 9 [v2] = some y2 := k2
      obtain ⟨k, e0, _, w0⟩ := DataW.trod_int Try.underlying3 q0
      obtain ⟨m, e1, _, w1⟩ := DataW.trod_int Try.underlying2 q1
      obtain ⟨s, e2, _, w2⟩ := DataW.trod_string Try.underlying9 q2
      simp only [List.cons.injEq, and_true] at e0 e1 e2
      subst e0 e1 e2
      exact ⟨⟨k, m, s⟩, ⟨bounds_i64 w0, bounds_i64 w1, w2⟩, rfl⟩
/-- A slice whose elements open, as a list. -/
theorem open_rowG {α : Type} {cell : α → List Value} {m : Nat} (dflt : α) (P : α → Prop) {t e : TypeId} {fuel : Nat} {a0 : Option Addr} {len cap : Nat} {x : DataW H × List MemPlace} (ht : Try.prog.underlying t = some (.slice e)) (hC : Try.prog.cellsOf e = m) (hm : ∀ a, (cell a).length = m) (hm0 : 0 < m)
    (hone : ∀ (n : Nat) cs y, DataW.trod enc Try.prog w base spare held n e cs = some y → ∃ a : α, P a ∧ cs = cell a)
    (h : DataW.trod enc Try.prog w base spare held fuel t (Value.cells (.slice a0 len cap)).toList = some x) : ∃ l : List α, len = l.length ∧ l.length ≤ maxLen ∧ (RAt cell m w w.heap.size a0 l ∧ ∀ a ∈ l, P a) ∧ (a0 = none → cap = 0) ∧ l.length ≤ cap := by
  rcases open_slice ht h with ⟨hcs, _⟩ | ⟨a, ln, cp, m', n, D, Pl, hcs, hb, hl, hmx, hmm, hx, hi⟩
  · simp [Value.cells] at hcs
    obtain ⟨rfl, rfl, rfl⟩ := hcs
    exact ⟨[], rfl, by simp, ⟨.inl rfl, by simp⟩, fun _ => rfl, by simp⟩
  · simp [Value.cells] at hcs
    obtain ⟨rfl, rfl, rfl⟩ := hcs
    have hlm : len ≤ m' := by split at hmm <;> omega
    have each : ∀ i, i < len → ∃ v : α, P v ∧ ∀ j u, (cell v)[j]? = some u → w.cell? (a.add (i * m + j)) = some u := by
      intro i hil
      obtain ⟨cs', hc, ht'⟩ := hi i (by omega)
      obtain ⟨v, hv, hcv⟩ := hone _ _ _ ht'
      refine ⟨v, hv, fun j u hu => ?_⟩
      rw [hC] at hc
      obtain ⟨_, hcl, hat⟩ := World.cells?_some hc
      have hj : j < m := by have := (List.getElem?_eq_some_iff.1 hu).1; rw [hm] at this; exact this
      have := hat j hj
      rw [← Go.Deep.add_add, this, hcv]
      exact hu
    obtain ⟨f, hfs⟩ : ∃ f : Nat → α, ∀ i, i < len → P (f i) ∧ ∀ j u, (cell (f i))[j]? = some u → w.cell? (a.add (i * m + j)) = some u := by
      refine ⟨fun i => if hi : i < len then (each i hi).choose else dflt, fun i hi => ?_⟩
      simp only [hi, dif_pos]
      exact (each i hi).choose_spec
    refine ⟨(List.range len).map f, by simp, by simp; omega, ⟨?_, ?_⟩, by simp, by simpa using hl⟩
    · by_cases hz : len = 0
      · left; simp [hz]
      · right
        obtain ⟨b, off, spot⟩ := a
        have hlt0 : 0 < (cell (f 0)).length := by rw [hm]; exact hm0
        have hc0 := (hfs 0 (by omega)).2 0 _ (List.getElem?_eq_getElem hlt0)
        have hspot : spot = none := by simpa [Addr.add] using World.cell?_spot hc0
        subst hspot
        refine ⟨b, off, rfl, ?_, ?_⟩
        · have := World.block_lt_of_cell? w _ hc0
          simpa [Addr.add] using this
        · intro i hi j u hu
          simp only [List.length_map, List.length_range] at hi
          simp only [List.getElem_map, List.getElem_range] at hu
          have := (hfs i hi).2 j u hu
          rw [Go.WideShapes.add_plain] at this
          rw [Nat.add_assoc]
          exact this
    · intro v hv
      simp only [List.mem_map, List.mem_range] at hv
      obtain ⟨i, hi, rfl⟩ := hv
      exact (hfs i hi).1
theorem row_of {ao : Option Addr} {l : List V} (h : RAt cellV3 3 w w.heap.size ao l) (hok : ∀ v ∈ l, v.ok) : RowAt w w.heap.size ao l := by
  refine ⟨hok, ?_⟩
  rcases h with h0 | ⟨b, off, e, hlt, hc⟩
  · exact .inl h0
  · exact .inr ⟨b, off, e, hlt, fun i hi => ⟨hc i hi 0 _ rfl, hc i hi 1 _ rfl, hc i hi 2 _ rfl⟩⟩
theorem open_R1 {fuel : Nat} {cs : List Value} {x : DataW H × List MemPlace} (h : DataW.trod enc Try.prog w base spare held fuel 30 cs = some x) : ∃ s : SL V, RwS w w.heap.size s ∧ cs = [.slice s.ao s.l.length s.cap] := by
  have key : ∀ a0 len cap, cs = [Value.slice a0 len cap] → ∃ s : SL V, RwS w w.heap.size s ∧ cs = [.slice s.ao s.l.length s.cap] := by
    intro a0 len cap hcs
    subst hcs
    obtain ⟨l, h1, h2, h3, h4, h5⟩ := open_rowG (enc := enc) (cell := cellV3) (m := 3) (a0 := a0) (len := len) (cap := cap) V.zero V.ok Try.underlying30 (by kernel_rfl) cellV3_len (by decide) (fun n cs y h => open_V3b h) h
    subst h1
    exact ⟨⟨a0, cap, l⟩, ⟨row_of h3.1 h3.2, h4, h5, h2⟩, rfl⟩
  rcases open_slice Try.underlying30 h with ⟨hcs, _⟩ | ⟨a, ln, cp, m', n, D, Pl, hcs, _⟩
  · exact key _ _ _ hcs
  · exact key _ _ _ hcs
theorem open_E2 {fuel : Nat} {cs : List Value} {x : DataW H × List MemPlace} (h : DataW.trod enc Try.prog w base spare held fuel 34 cs = some x) : ∃ e : Be, BeOk w w.heap.size e ∧ cs = encBe e := by
  obtain ⟨xs, n, _, _, hl, hxs, hf⟩ := DataW.trod_struct Try.underlying34 h
  have h0 := hf 0 _ rfl
  have h1 := hf 1 _ rfl
  have hC : Try.prog.cellsOf 34 = 2 := by kernel_rfl
  rw [hC] at hl
  have c1 : Try.prog.cellsOf 30 = 1 := by kernel_rfl
  have c2 : Try.prog.cellsOf 2 = 1 := by kernel_rfl
  match xs, hxs with
  | [y0, y1], _ =>
    match cs, hl with
    | [v0, v1], _ =>
      have k0 : DataW.trod enc Try.prog w base spare held n 30 (([v0, v1].drop 0).take (Try.prog.cellsOf 30)) = some y0 := h0
      have k1 : DataW.trod enc Try.prog w base spare held n 2 (([v0, v1].drop 1).take (Try.prog.cellsOf 2)) = some y1 := h1
      rw [c1] at k0
      rw [c2] at k1
      have q0 : DataW.trod enc Try.prog w base spare held n 30 [v0] = some y0 := k0
      have q1 : DataW.trod enc Try.prog w base spare held n 2 [v1] = some y1 := k1
      obtain ⟨s, hs, e0⟩ := open_R1 q0
      obtain ⟨m, e1, _, w1⟩ := DataW.trod_int Try.underlying2 q1
      simp only [List.cons.injEq, and_true] at e0 e1
      subst e0 e1
      exact ⟨⟨s, m⟩, ⟨hs, bounds_i64 w1⟩, rfl⟩
theorem open_ents {fuel : Nat} {a0 : Option Addr} {len cap : Nat} {x : DataW H × List MemPlace} (h : DataW.trod enc Try.prog w base spare held fuel 23 (Value.cells (.slice a0 len cap)).toList = some x) : ∃ l : List Be, len = l.length ∧ BagS w w.heap.size ⟨a0, cap, l⟩ := by
  obtain ⟨l, h1, h2, h3, h4, h5⟩ := open_rowG (enc := enc) (cell := encBe) (m := 2) ⟨⟨none, 0, []⟩, 0⟩ (BeOk w w.heap.size) Try.underlying23 (by kernel_rfl) encBe_len (by decide) (fun n cs y h => open_E2 h) h
  exact ⟨l, h1, ⟨h3.1, h4, h5, h2, h3.2⟩⟩
end
end Go.Proofs.Ytdckpjkbchibjaa
