/- How the rows open a slice of tokens. -/
import Derived.Test.YtninmolgkkhikaaDoorRw
import Derived.Test.YtninmolgkkhikaaDoorWLexerJoin
namespace Go.Proofs.YtninmolgkkhikaaDoor
open Go.ChangeShapes Go.WideShapes Go.ChangeAt Go.RowKit Go.Deep Go.Joins
open Go.ChangeMaps (open_string shut_string)
open Go.Proofs.TX (Tok)
section
variable {H : Type} {enc : TypeId × Value → H} {P : Program} {w : World} {base : Nat} {spare : Nat → Bool} {held : Bool}
/-- A slice of tokens, opened: its elements as a list. -/
theorem open_rowT {t e : TypeId} {f0 f1 f2 f3 : Field} {fuel : Nat} {a0 : Option Addr} {len cap : Nat} {x : DataW H × List MemPlace} (ht : P.underlying t = some (.slice e)) (he : P.underlying e = some (.struct #[f0, f1, f2, f3]))
    (hone : oneCellFields P #[f0, f1, f2, f3] = true) (hC : P.cellsOf e = 4) (h0 : P.underlying f0.type = some (.int .i64)) (h1 : P.underlying f1.type = some .string) (h2 : P.underlying f2.type = some (.int .i64)) (h3 : P.underlying f3.type = some (.int .i64))
    (h : DataW.trod enc P w base spare held fuel t (Value.cells (.slice a0 len cap)).toList = some x) : ∃ l : List Tok, len = l.length ∧ l.length ≤ maxLen ∧ (ToksAt w w.heap.size a0 l ∧ TokIn l) := by
  rcases open_slice_fields ht he hone (by rw [hC]; rfl) h with ⟨hcs, _⟩ | ⟨a, ln, cp, m, hcs, hl, hcm, hm, hf⟩
  · simp [Value.cells] at hcs
    obtain ⟨rfl, rfl, rfl⟩ := hcs
    exact ⟨[], rfl, by simp, .inl rfl, by simp [TokIn]⟩
  · simp [Value.cells] at hcs
    obtain ⟨rfl, rfl, rfl⟩ := hcs
    have each : ∀ i, i < len → ∃ v : Tok, (v.s.size ≤ maxLen ∧ (-9223372036854775808 ≤ v.n ∧ v.n ≤ 9223372036854775807)) ∧ w.cell? (a.add (i * 4 + 0)) = some (.int .i64 v.k) ∧ w.cell? (a.add (i * 4 + 1)) = some (.string v.s) ∧ w.cell? (a.add (i * 4 + 2)) = some (.int .i64 v.n) ∧ w.cell? (a.add (i * 4 + 3)) = some (.int .i64 v.p) := by
      intro i hi
      obtain ⟨v0, y0, n0, c0, t0⟩ := hf i (by omega) 0 f0 rfl
      obtain ⟨v1, y1, n1, c1, t1⟩ := hf i (by omega) 1 f1 rfl
      obtain ⟨v2, y2, n2, c2, t2⟩ := hf i (by omega) 2 f2 rfl
      obtain ⟨v3, y3, n3, c3, t3⟩ := hf i (by omega) 3 f3 rfl
      obtain ⟨k, e0, _, w0⟩ := DataW.trod_int h0 t0
      obtain ⟨s, e1, _, w1⟩ := DataW.trod_string h1 t1
      obtain ⟨n, e2, _, w2⟩ := DataW.trod_int h2 t2
      obtain ⟨p, e3, _, w3⟩ := DataW.trod_int h3 t3
      simp at e0 e1 e2 e3
      subst e0 e1 e2 e3
      exact ⟨⟨k, s, n, p⟩, ⟨w1, bounds_i64 w2⟩, c0, c1, c2, c3⟩
    obtain ⟨f, hfs⟩ : ∃ f : Nat → Tok, ∀ i, i < len → ((f i).s.size ≤ maxLen ∧ (-9223372036854775808 ≤ (f i).n ∧ (f i).n ≤ 9223372036854775807)) ∧ w.cell? (a.add (i * 4 + 0)) = some (.int .i64 (f i).k) ∧ w.cell? (a.add (i * 4 + 1)) = some (.string (f i).s) ∧ w.cell? (a.add (i * 4 + 2)) = some (.int .i64 (f i).n) ∧ w.cell? (a.add (i * 4 + 3)) = some (.int .i64 (f i).p) := by
      refine ⟨fun i => if hi : i < len then (each i hi).choose else ⟨0, ByteArray.empty, 0, 0⟩, fun i hi => ?_⟩
      simp only [hi, dif_pos]
      exact (each i hi).choose_spec
    refine ⟨(List.range len).map f, by simp, by simp; omega, ?_, ?_⟩
    · by_cases hz : len = 0
      · left; simp [hz]
      · right
        obtain ⟨b, off, spot⟩ := a
        have hc0 := (hfs 0 (by omega)).2.1
        have hspot : spot = none := by simpa [Addr.add] using World.cell?_spot hc0
        subst hspot
        refine ⟨b, off, rfl, ?_, ?_⟩
        · have := World.block_lt_of_cell? w _ hc0
          simpa [Addr.add] using this
        · intro i hi
          simp only [List.length_map, List.length_range] at hi
          obtain ⟨_, c0, c1, c2, c3⟩ := hfs i hi
          rw [Go.WideShapes.add_plain] at c0 c1 c2 c3
          simp only [List.getElem_map, List.getElem_range]
          exact ⟨c0, c1, c2, c3⟩
    · intro v hv
      simp only [List.mem_map, List.mem_range] at hv
      obtain ⟨i, hi, rfl⟩ := hv
      exact (hfs i hi).1
end
end Go.Proofs.YtninmolgkkhikaaDoor
