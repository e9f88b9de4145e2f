/- What the rows of all laws share: the facts on the program, and how arguments are opened. -/
import Derived.Test.YtenonljnldbkiaaGreatDoorRows
import Derived.Test.YtenonljnldbkiaaGreatDoorMA
import Derived.ProofKit
import Derived.OpenShut
import Derived.ShutString
import Derived.ChangeOld
import Derived.LaidMore
import Derived.SizedLaws
import Derived.Deep.Slices
import Derived.Deep.Fields
import Derived.ChangeSame
import Derived.Lib.SmallJoins
import Derived.Lib.LaidTab
import Derived.Stop.Joined
import Derived.Test.YtenonljnldbkiaaGreatDoorMJ
import Derived.Test.YtenonljnldbkiaaGreatDoorMS
namespace Go.Proofs.YtenonljnldbkiaaGreatDoor
open Go.ChangeShapes Go.WideShapes Go.ChangeAt Go.RowKit Go.Deep Go.Joins
open Go.ChangeMaps (open_string shut_string)

theorem own : ownKnob Tryz.prog.godebug = none := by kernel_rfl
theorem laidOut : laidOutB Tryz.prog = true := by kernel_rfl

section
variable {H : Type} {enc : TypeId × Value → H} {P : Program} {w : World} {base : Nat} {spare : Nat → Bool} {held : Bool}
end
end Go.Proofs.YtenonljnldbkiaaGreatDoor
/- How the rows open slices of terms (and slices of strings, and slices of slices of terms). -/
namespace Go.Proofs.YtenonljnldbkiaaGreatDoor
open Go.ChangeShapes Go.WideShapes Go.ChangeAt Go.RowKit Go.Deep Go.Joins
open Go.ChangeMaps (open_string shut_string)
open Go.Proofs.EB
set_option maxRecDepth 100000
section
variable {H : Type} {enc : TypeId × Value → H} {w : World} {base : Nat} {spare : Nat → Bool} {held : Bool}
theorem open_V3 {fuel : Nat} {cs : List Value} {x : DataW H × List MemPlace} (h : DataW.trod enc Tryz.prog w base spare held fuel 142 cs = some x) : ∃ v : V, v.ok ∧ cs = [.int .i64 v.k, .int .i64 v.n, .string v.s] := by
  obtain ⟨xs, n, _, _, hl, hxs, hf⟩ := DataW.trod_struct Tryz.underlying142 h
  have h0 := hf 0 _ rfl
  have h1 := hf 1 _ rfl
  have h2 := hf 2 _ rfl
  have hC : Tryz.prog.cellsOf 142 = 3 := by kernel_rfl
  rw [hC] at hl
  have c9 : Tryz.prog.cellsOf 9 = 1 := by kernel_rfl
  have c2 : Tryz.prog.cellsOf 2 = 1 := by kernel_rfl
  have c3 : Tryz.prog.cellsOf 3 = 1 := by kernel_rfl
  match xs, hxs with
  | [y0, y1, y2], _ =>
    match cs, hl with
    | [v0, v1, v2], _ =>
      have k0 : DataW.trod enc Tryz.prog w base spare held n 3 (([v0, v1, v2].drop 0).take (Tryz.prog.cellsOf 3)) = some y0 := h0
      have k1 : DataW.trod enc Tryz.prog w base spare held n 2 (([v0, v1, v2].drop 1).take (Tryz.prog.cellsOf 2)) = some y1 := h1
      have k2 : DataW.trod enc Tryz.prog w base spare held n 9 (([v0, v1, v2].drop 2).take (Tryz.prog.cellsOf 9)) = some y2 := h2
      rw [c3] at k0
      rw [c2] at k1
      rw [c9] at k2
      have q0 : DataW.trod enc Tryz.prog w base spare held n 3 [v0] = some y0 := k0
      have q1 : DataW.trod enc Tryz.prog w base spare held n 2 [v1] = some y1 := k1
      have q2 : DataW.trod enc Tryz.prog w base spare held n 9 [v2] = some y2 := k2
      obtain ⟨k, e0, _, w0⟩ := DataW.trod_int Tryz.underlying3 q0
      obtain ⟨m, e1, _, w1⟩ := DataW.trod_int Tryz.underlying2 q1
      obtain ⟨s, e2, _, w2⟩ := DataW.trod_string Tryz.underlying9 q2
      simp only [List.cons.injEq, and_true] at e0 e1 e2
      subst e0 e1 e2
      exact ⟨⟨k, m, s⟩, ⟨bounds_i64 w0, bounds_i64 w1, w2⟩, rfl⟩
theorem open_T5 {fuel : Nat} {cs : List Value} {x : DataW H × List MemPlace} (h : DataW.trod enc Tryz.prog w base spare held fuel 144 cs = some x) : ∃ t : Tm, t.okT ∧ cs = encTm t := by
  obtain ⟨xs, n, _, _, hl, hxs, hf⟩ := DataW.trod_struct Tryz.underlying144 h
  have h0 := hf 0 _ rfl
  have h1 := hf 1 _ rfl
  have h2 := hf 2 _ rfl
  have hC : Tryz.prog.cellsOf 144 = 5 := by kernel_rfl
  rw [hC] at hl
  have c34 : Tryz.prog.cellsOf 142 = 3 := by kernel_rfl
  have c3 : Tryz.prog.cellsOf 3 = 1 := by kernel_rfl
  match xs, hxs with
  | [y0, y1, y2], _ =>
    match cs, hl with
    | [v0, v1, v2, v3, v4], _ =>
      have k0 : DataW.trod enc Tryz.prog w base spare held n 3 (([v0, v1, v2, v3, v4].drop 0).take (Tryz.prog.cellsOf 3)) = some y0 := h0
      have k1 : DataW.trod enc Tryz.prog w base spare held n 142 (([v0, v1, v2, v3, v4].drop 1).take (Tryz.prog.cellsOf 142)) = some y1 := h1
      have k2 : DataW.trod enc Tryz.prog w base spare held n 3 (([v0, v1, v2, v3, v4].drop 4).take (Tryz.prog.cellsOf 3)) = some y2 := h2
      rw [c3] at k0 k2
      rw [c34] at k1
      have q0 : DataW.trod enc Tryz.prog w base spare held n 3 [v0] = some y0 := k0
      have q1 : DataW.trod enc Tryz.prog w base spare held n 142 [v1, v2, v3] = some y1 := k1
      have q2 : DataW.trod enc Tryz.prog w base spare held n 3 [v4] = some y2 := k2
      obtain ⟨o, e0, _, w0⟩ := DataW.trod_int Tryz.underlying3 q0
      obtain ⟨c, e2, _, w2⟩ := DataW.trod_int Tryz.underlying3 q2
      obtain ⟨v, hv, e1⟩ := open_V3 q1
      simp only [List.cons.injEq, and_true] at e0 e1 e2
      obtain ⟨e11, e12, e13⟩ := e1
      subst e0 e11 e12 e13 e2
      exact ⟨⟨o, v, c⟩, ⟨bounds_i64 w0, hv, bounds_i64 w2⟩, rfl⟩
/-- A slice whose elements open, as a list. -/
theorem open_rowR {α : Type} {cell : α → List Value} {m : Nat} (dflt : α) (P : α → Prop) {t e : TypeId} {fuel : Nat} {a0 : Option Addr} {len cap : Nat} {x : DataW H × List MemPlace} (ht : Tryz.prog.underlying t = some (.slice e)) (hC : Tryz.prog.cellsOf e = m) (hm : ∀ a, (cell a).length = m) (hm0 : 0 < m)
    (hone : ∀ (n : Nat) cs y, DataW.trod enc Tryz.prog w base spare held n e cs = some y → ∃ a : α, P a ∧ cs = cell a)
    (h : DataW.trod enc Tryz.prog w base spare held fuel t (Value.cells (.slice a0 len cap)).toList = some x) : ∃ l : List α, len = l.length ∧ l.length ≤ maxLen ∧ (RAt cell m w w.heap.size a0 l ∧ ∀ a ∈ l, P a) ∧ (a0 = none → cap = 0) ∧ l.length ≤ cap := by
  rcases open_slice ht h with ⟨hcs, _⟩ | ⟨a, ln, cp, m', n, D, Pl, hcs, hb, hl, hmx, hmm, hx, hi⟩
  · simp [Value.cells] at hcs
    obtain ⟨rfl, rfl, rfl⟩ := hcs
    exact ⟨[], rfl, by simp, ⟨.inl rfl, by simp⟩, fun _ => rfl, by simp⟩
  · simp [Value.cells] at hcs
    obtain ⟨rfl, rfl, rfl⟩ := hcs
    have hlm : len ≤ m' := by split at hmm <;> omega
    have each : ∀ i, i < len → ∃ v : α, P v ∧ ∀ j u, (cell v)[j]? = some u → w.cell? (a.add (i * m + j)) = some u := by
      intro i hil
      obtain ⟨cs', hc, ht'⟩ := hi i (by omega)
      obtain ⟨v, hv, hcv⟩ := hone _ _ _ ht'
      refine ⟨v, hv, fun j u hu => ?_⟩
      rw [hC] at hc
      obtain ⟨_, hcl, hat⟩ := World.cells?_some hc
      have hj : j < m := by have := (List.getElem?_eq_some_iff.1 hu).1; rw [hm] at this; exact this
      have := hat j hj
      rw [← Go.Deep.add_add, this, hcv]
      exact hu
    obtain ⟨f, hfs⟩ : ∃ f : Nat → α, ∀ i, i < len → P (f i) ∧ ∀ j u, (cell (f i))[j]? = some u → w.cell? (a.add (i * m + j)) = some u := by
      refine ⟨fun i => if hi : i < len then (each i hi).choose else dflt, fun i hi => ?_⟩
      simp only [hi, dif_pos]
      exact (each i hi).choose_spec
    refine ⟨(List.range len).map f, by simp, by simp; omega, ⟨?_, ?_⟩, by simp, by simpa using hl⟩
    · by_cases hz : len = 0
      · left; simp [hz]
      · right
        obtain ⟨b, off, spot⟩ := a
        have hlt0 : 0 < (cell (f 0)).length := by rw [hm]; exact hm0
        have hc0 := (hfs 0 (by omega)).2 0 _ (List.getElem?_eq_getElem hlt0)
        have hspot : spot = none := by simpa [Addr.add] using World.cell?_spot hc0
        subst hspot
        refine ⟨b, off, rfl, ?_, ?_⟩
        · have := World.block_lt_of_cell? w _ hc0
          simpa [Addr.add] using this
        · intro i hi j u hu
          simp only [List.length_map, List.length_range] at hi
          simp only [List.getElem_map, List.getElem_range] at hu
          have := (hfs i hi).2 j u hu
          rw [Go.WideShapes.add_plain] at this
          rw [Nat.add_assoc]
          exact this
    · intro v hv
      simp only [List.mem_map, List.mem_range] at hv
      obtain ⟨i, hi, rfl⟩ := hv
      exact (hfs i hi).1
theorem open_tms {fuel : Nat} {a0 : Option Addr} {len cap : Nat} {x : DataW H × List MemPlace} (h : DataW.trod enc Tryz.prog w base spare held fuel 55 (Value.cells (.slice a0 len cap)).toList = some x) : ∃ l : List Tm, len = l.length ∧ l.length ≤ maxLen ∧ (TmsAt w w.heap.size a0 l ∧ ∀ t ∈ l, t.okT) := by
  obtain ⟨l, h1, h2, h3, _⟩ := open_rowR (enc := enc) (cell := encTm) (m := 5) ⟨0, V.zero, 0⟩ Tm.okT Tryz.underlying55 (by kernel_rfl) encTm_len (by decide) (fun n cs y h => open_T5 h) h
  exact ⟨l, h1, h2, h3⟩
end
end Go.Proofs.YtenonljnldbkiaaGreatDoor
/- How the rows open a catalogue that is handed in by value. -/
namespace Go.Proofs.YtenonljnldbkiaaGreatDoor
open Go.ChangeShapes Go.WideShapes Go.ChangeAt Go.RowKit Go.Deep Go.Joins
open Go.ChangeMaps (open_string shut_string)
open Go.Proofs.EB
set_option maxRecDepth 100000
set_option maxHeartbeats 1000000
def zTm : Tm := ⟨0, V.zero, 0⟩
def zIt : It := ⟨⟨#[]⟩, ⟨none, 0, []⟩⟩
theorem lenOc {α : Type} {enc : α → List Value} {n : Nat} (h : ∀ a, (enc a).length = n) : ∀ a, (enc a).length = n := h
section
variable {H : Type} {enc : TypeId × Value → H} {w : World} {base : Nat} {spare : Nat → Bool} {held : Bool}
/-- A slice of a struct's field, as a list. -/
theorem open_fieldS {α : Type} {cell : α → List Value} {m : Nat} (dflt : α) (P : World → Nat → α → Prop) {t e : TypeId} {fuel : Nat} {cs : List Value} {x : DataW H × List MemPlace} (ht : Tryz.prog.underlying t = some (.slice e)) (hC : Tryz.prog.cellsOf e = m) (hm : ∀ a, (cell a).length = m) (hm0 : 0 < m)
    (hone : ∀ (n : Nat) cs y, DataW.trod enc Tryz.prog w base spare held n e cs = some y → ∃ a : α, P w w.heap.size a ∧ cs = cell a)
    (h : DataW.trod enc Tryz.prog w base spare held fuel t cs = some x) : ∃ s : SL α, RdS cell m P w w.heap.size s ∧ cs = [.slice s.ao s.l.length s.cap] := by
  have key : ∀ a0 len cap, cs = [Value.slice a0 len cap] → ∃ s : SL α, RdS cell m P w w.heap.size s ∧ cs = [.slice s.ao s.l.length s.cap] := by
    intro a0 len cap hcs
    subst hcs
    obtain ⟨l, h1, h2, h3, h4, h5⟩ := open_rowR (enc := enc) (cell := cell) (m := m) (a0 := a0) (len := len) (cap := cap) dflt (P w w.heap.size) ht hC hm hm0 hone h
    subst h1
    exact ⟨⟨a0, cap, l⟩, ⟨h3.1, h4, h5, h2, h3.2⟩, rfl⟩
  rcases open_slice ht h with ⟨hcs, _⟩ | ⟨a, ln, cp, m', n, D, Pl, hcs, _⟩
  · exact key _ _ _ hcs
  · exact key _ _ _ hcs
theorem open_i1 {fuel : Nat} {cs : List Value} {x : DataW H × List MemPlace} (h : DataW.trod enc Tryz.prog w base spare held fuel 3 cs = some x) : ∃ n : Int, okInt w w.heap.size n ∧ cs = encInt n := by
  obtain ⟨n, e, _, hw⟩ := DataW.trod_int Tryz.underlying3 h
  exact ⟨n, bounds_i64 hw, e⟩
theorem open_s1 {fuel : Nat} {cs : List Value} {x : DataW H × List MemPlace} (h : DataW.trod enc Tryz.prog w base spare held fuel 9 cs = some x) : ∃ s : ByteArray, okStr w w.heap.size s ∧ cs = encStr' s := by
  obtain ⟨s, e, _, hw⟩ := DataW.trod_string Tryz.underlying9 h
  exact ⟨s, hw, e⟩
theorem open_t5 {fuel : Nat} {cs : List Value} {x : DataW H × List MemPlace} (h : DataW.trod enc Tryz.prog w base spare held fuel 144 cs = some x) : ∃ t : Tm, okTm w w.heap.size t ∧ cs = encTm t := open_T5 h
theorem open_p2 {fuel : Nat} {cs : List Value} {x : DataW H × List MemPlace} (h : DataW.trod enc Tryz.prog w base spare held fuel 117 cs = some x) : ∃ p : Int × Int, okPr w w.heap.size p ∧ cs = encPr p := by
  obtain ⟨xs, m, _, _, hl, hxs, hf⟩ := DataW.trod_array (n := 2) (e := 3) Tryz.underlying117 h
  have hC : Tryz.prog.cellsOf 117 = 2 := by kernel_rfl
  have c3 : Tryz.prog.cellsOf 3 = 1 := by kernel_rfl
  rw [hC] at hl
  have h0 := hf 0 (by decide)
  have h1 := hf 1 (by decide)
  rw [c3] at h0 h1
  match xs, hxs with
  | [y0, y1], _ =>
    match cs, hl with
    | [v0, v1], _ =>
      have q0 : DataW.trod enc Tryz.prog w base spare held m 3 [v0] = some y0 := h0
      have q1 : DataW.trod enc Tryz.prog w base spare held m 3 [v1] = some y1 := h1
      obtain ⟨a, e0, _, w0⟩ := DataW.trod_int Tryz.underlying3 q0
      obtain ⟨b, e1, _, w1⟩ := DataW.trod_int Tryz.underlying3 q1
      simp only [List.cons.injEq, and_true] at e0 e1
      subst e0 e1
      exact ⟨(a, b), ⟨bounds_i64 w0, bounds_i64 w1⟩, rfl⟩
theorem open_Co {fuel : Nat} {cs : List Value} {x : DataW H × List MemPlace} (h : DataW.trod enc Tryz.prog w base spare held fuel 52 cs = some x) : ∃ a : Co, CoOk w w.heap.size a ∧ cs = encCo a := by
  obtain ⟨xs, n, _, _, hl, hxs, hf⟩ := DataW.trod_struct Tryz.underlying52 h
  have h0 := hf 0 _ rfl
  have h1 := hf 1 _ rfl
  have h2 := hf 2 _ rfl
  have h3 := hf 3 _ rfl
  have h4 := hf 4 _ rfl
  have h5 := hf 5 _ rfl
  have h6 := hf 6 _ rfl
  have hC : Tryz.prog.cellsOf 52 = 7 := by kernel_rfl
  rw [hC] at hl
  have c0 : Tryz.prog.cellsOf 9 = 1 := by kernel_rfl
  have c1 : Tryz.prog.cellsOf 3 = 1 := by kernel_rfl
  have c2 : Tryz.prog.cellsOf 36 = 1 := by kernel_rfl
  match xs, hxs with
  | [y0, y1, y2, y3, y4, y5, y6], _ =>
    match cs, hl with
    | [v0, v1, v2, v3, v4, v5, v6], _ =>
      have k0 : DataW.trod enc Tryz.prog w base spare held n 9 (([v0, v1, v2, v3, v4, v5, v6].drop 0).take (Tryz.prog.cellsOf 9)) = some y0 := h0
      rw [c0] at k0
      have q0 : DataW.trod enc Tryz.prog w base spare held n 9 [v0] = some y0 := k0
      have k1 : DataW.trod enc Tryz.prog w base spare held n 3 (([v0, v1, v2, v3, v4, v5, v6].drop 1).take (Tryz.prog.cellsOf 3)) = some y1 := h1
      rw [c1] at k1
      have q1 : DataW.trod enc Tryz.prog w base spare held n 3 [v1] = some y1 := k1
      have k2 : DataW.trod enc Tryz.prog w base spare held n 9 (([v0, v1, v2, v3, v4, v5, v6].drop 2).take (Tryz.prog.cellsOf 9)) = some y2 := h2
      rw [c0] at k2
      have q2 : DataW.trod enc Tryz.prog w base spare held n 9 [v2] = some y2 := k2
      have k3 : DataW.trod enc Tryz.prog w base spare held n 9 (([v0, v1, v2, v3, v4, v5, v6].drop 3).take (Tryz.prog.cellsOf 9)) = some y3 := h3
      rw [c0] at k3
      have q3 : DataW.trod enc Tryz.prog w base spare held n 9 [v3] = some y3 := k3
      have k4 : DataW.trod enc Tryz.prog w base spare held n 36 (([v0, v1, v2, v3, v4, v5, v6].drop 4).take (Tryz.prog.cellsOf 36)) = some y4 := h4
      rw [c2] at k4
      have q4 : DataW.trod enc Tryz.prog w base spare held n 36 [v4] = some y4 := k4
      have k5 : DataW.trod enc Tryz.prog w base spare held n 3 (([v0, v1, v2, v3, v4, v5, v6].drop 5).take (Tryz.prog.cellsOf 3)) = some y5 := h5
      rw [c1] at k5
      have q5 : DataW.trod enc Tryz.prog w base spare held n 3 [v5] = some y5 := k5
      have k6 : DataW.trod enc Tryz.prog w base spare held n 3 (([v0, v1, v2, v3, v4, v5, v6].drop 6).take (Tryz.prog.cellsOf 3)) = some y6 := h6
      rw [c1] at k6
      have q6 : DataW.trod enc Tryz.prog w base spare held n 3 [v6] = some y6 := k6
      obtain ⟨a0, e0, _, w0⟩ := DataW.trod_string Tryz.underlying9 q0
      obtain ⟨a1, e1, _, w1⟩ := DataW.trod_int Tryz.underlying3 q1
      obtain ⟨a2, e2, _, w2⟩ := DataW.trod_string Tryz.underlying9 q2
      obtain ⟨a3, e3, _, w3⟩ := DataW.trod_string Tryz.underlying9 q3
      obtain ⟨a4, w4, e4⟩ := open_fieldS (enc := enc) (cell := encInt) (m := 1) ((0 : Int)) okInt Tryz.underlying36 (by kernel_rfl) (fun _ => rfl) (by decide) (fun n cs y h => open_i1 h) q4
      obtain ⟨a5, e5, _, w5⟩ := DataW.trod_int Tryz.underlying3 q5
      obtain ⟨a6, e6, _, w6⟩ := DataW.trod_int Tryz.underlying3 q6
      simp only [List.cons.injEq, and_true] at e0 e1 e2 e3 e4 e5 e6
      subst e0 e1 e2 e3 e4 e5 e6
      exact ⟨⟨a0, a1, a2, a3, a4, a5, a6⟩, { name := w0, ty := bounds_i64 w1, ns := w2, refs := w3, own := w4, joint := bounds_i64 w5, duty := bounds_i64 w6 }, rfl⟩
theorem open_Ta {fuel : Nat} {cs : List Value} {x : DataW H × List MemPlace} (h : DataW.trod enc Tryz.prog w base spare held fuel 50 cs = some x) : ∃ a : Ta, TaOk w w.heap.size a ∧ cs = encTa a := by
  obtain ⟨xs, n, _, _, hl, hxs, hf⟩ := DataW.trod_struct Tryz.underlying50 h
  have h0 := hf 0 _ rfl
  have h1 := hf 1 _ rfl
  have h2 := hf 2 _ rfl
  have h3 := hf 3 _ rfl
  have hC : Tryz.prog.cellsOf 50 = 4 := by kernel_rfl
  rw [hC] at hl
  have c0 : Tryz.prog.cellsOf 9 = 1 := by kernel_rfl
  have c1 : Tryz.prog.cellsOf 48 = 1 := by kernel_rfl
  have c2 : Tryz.prog.cellsOf 3 = 1 := by kernel_rfl
  match xs, hxs with
  | [y0, y1, y2, y3], _ =>
    match cs, hl with
    | [v0, v1, v2, v3], _ =>
      have k0 : DataW.trod enc Tryz.prog w base spare held n 9 (([v0, v1, v2, v3].drop 0).take (Tryz.prog.cellsOf 9)) = some y0 := h0
      rw [c0] at k0
      have q0 : DataW.trod enc Tryz.prog w base spare held n 9 [v0] = some y0 := k0
      have k1 : DataW.trod enc Tryz.prog w base spare held n 48 (([v0, v1, v2, v3].drop 1).take (Tryz.prog.cellsOf 48)) = some y1 := h1
      rw [c1] at k1
      have q1 : DataW.trod enc Tryz.prog w base spare held n 48 [v1] = some y1 := k1
      have k2 : DataW.trod enc Tryz.prog w base spare held n 3 (([v0, v1, v2, v3].drop 2).take (Tryz.prog.cellsOf 3)) = some y2 := h2
      rw [c2] at k2
      have q2 : DataW.trod enc Tryz.prog w base spare held n 3 [v2] = some y2 := k2
      have k3 : DataW.trod enc Tryz.prog w base spare held n 3 (([v0, v1, v2, v3].drop 3).take (Tryz.prog.cellsOf 3)) = some y3 := h3
      rw [c2] at k3
      have q3 : DataW.trod enc Tryz.prog w base spare held n 3 [v3] = some y3 := k3
      obtain ⟨a0, e0, _, w0⟩ := DataW.trod_string Tryz.underlying9 q0
      obtain ⟨a1, w1, e1⟩ := open_fieldS (enc := enc) (cell := encCo) (m := 7) (Co.z) CoOk Tryz.underlying48 (by kernel_rfl) (fun _ => rfl) (by decide) (fun n cs y h => open_Co h) q1
      obtain ⟨a2, e2, _, w2⟩ := DataW.trod_int Tryz.underlying3 q2
      obtain ⟨a3, e3, _, w3⟩ := DataW.trod_int Tryz.underlying3 q3
      simp only [List.cons.injEq, and_true] at e0 e1 e2 e3
      subst e0 e1 e2 e3
      exact ⟨⟨a0, a1, a2, a3⟩, { name := w0, cols := w1, erase := bounds_i64 w2, retain := bounds_i64 w3 }, rfl⟩
theorem open_It {fuel : Nat} {cs : List Value} {x : DataW H × List MemPlace} (h : DataW.trod enc Tryz.prog w base spare held fuel 106 cs = some x) : ∃ a : It, ItOk w w.heap.size a ∧ cs = encIt a := by
  obtain ⟨xs, n, _, _, hl, hxs, hf⟩ := DataW.trod_struct Tryz.underlying106 h
  have h0 := hf 0 _ rfl
  have h1 := hf 1 _ rfl
  have hC : Tryz.prog.cellsOf 106 = 2 := by kernel_rfl
  rw [hC] at hl
  have c0 : Tryz.prog.cellsOf 9 = 1 := by kernel_rfl
  have c1 : Tryz.prog.cellsOf 55 = 1 := by kernel_rfl
  match xs, hxs with
  | [y0, y1], _ =>
    match cs, hl with
    | [v0, v1], _ =>
      have k0 : DataW.trod enc Tryz.prog w base spare held n 9 (([v0, v1].drop 0).take (Tryz.prog.cellsOf 9)) = some y0 := h0
      rw [c0] at k0
      have q0 : DataW.trod enc Tryz.prog w base spare held n 9 [v0] = some y0 := k0
      have k1 : DataW.trod enc Tryz.prog w base spare held n 55 (([v0, v1].drop 1).take (Tryz.prog.cellsOf 55)) = some y1 := h1
      rw [c1] at k1
      have q1 : DataW.trod enc Tryz.prog w base spare held n 55 [v1] = some y1 := k1
      obtain ⟨a0, e0, _, w0⟩ := DataW.trod_string Tryz.underlying9 q0
      obtain ⟨a1, w1, e1⟩ := open_fieldS (enc := enc) (cell := encTm) (m := 5) (zTm) okTm Tryz.underlying55 (by kernel_rfl) (fun _ => rfl) (by decide) (fun n cs y h => open_t5 h) q1
      simp only [List.cons.injEq, and_true] at e0 e1
      subst e0 e1
      exact ⟨⟨a0, a1⟩, { name := w0, ex := w1 }, rfl⟩
theorem open_Ag {fuel : Nat} {cs : List Value} {x : DataW H × List MemPlace} (h : DataW.trod enc Tryz.prog w base spare held fuel 108 cs = some x) : ∃ a : Ag, AgOk w w.heap.size a ∧ cs = encAg a := by
  obtain ⟨xs, n, _, _, hl, hxs, hf⟩ := DataW.trod_struct Tryz.underlying108 h
  have h0 := hf 0 _ rfl
  have h1 := hf 1 _ rfl
  have h2 := hf 2 _ rfl
  have hC : Tryz.prog.cellsOf 108 = 3 := by kernel_rfl
  rw [hC] at hl
  have c0 : Tryz.prog.cellsOf 9 = 1 := by kernel_rfl
  have c1 : Tryz.prog.cellsOf 3 = 1 := by kernel_rfl
  have c2 : Tryz.prog.cellsOf 55 = 1 := by kernel_rfl
  match xs, hxs with
  | [y0, y1, y2], _ =>
    match cs, hl with
    | [v0, v1, v2], _ =>
      have k0 : DataW.trod enc Tryz.prog w base spare held n 9 (([v0, v1, v2].drop 0).take (Tryz.prog.cellsOf 9)) = some y0 := h0
      rw [c0] at k0
      have q0 : DataW.trod enc Tryz.prog w base spare held n 9 [v0] = some y0 := k0
      have k1 : DataW.trod enc Tryz.prog w base spare held n 3 (([v0, v1, v2].drop 1).take (Tryz.prog.cellsOf 3)) = some y1 := h1
      rw [c1] at k1
      have q1 : DataW.trod enc Tryz.prog w base spare held n 3 [v1] = some y1 := k1
      have k2 : DataW.trod enc Tryz.prog w base spare held n 55 (([v0, v1, v2].drop 2).take (Tryz.prog.cellsOf 55)) = some y2 := h2
      rw [c2] at k2
      have q2 : DataW.trod enc Tryz.prog w base spare held n 55 [v2] = some y2 := k2
      obtain ⟨a0, e0, _, w0⟩ := DataW.trod_string Tryz.underlying9 q0
      obtain ⟨a1, e1, _, w1⟩ := DataW.trod_int Tryz.underlying3 q1
      obtain ⟨a2, w2, e2⟩ := open_fieldS (enc := enc) (cell := encTm) (m := 5) (zTm) okTm Tryz.underlying55 (by kernel_rfl) (fun _ => rfl) (by decide) (fun n cs y h => open_t5 h) q2
      simp only [List.cons.injEq, and_true] at e0 e1 e2
      subst e0 e1 e2
      exact ⟨⟨a0, a1, a2⟩, { name := w0, fn := bounds_i64 w1, ex := w2 }, rfl⟩
theorem open_Vw {fuel : Nat} {cs : List Value} {x : DataW H × List MemPlace} (h : DataW.trod enc Tryz.prog w base spare held fuel 59 cs = some x) : ∃ a : Vw, VwOk w w.heap.size a ∧ cs = encVw a := by
  obtain ⟨xs, n, _, _, hl, hxs, hf⟩ := DataW.trod_struct Tryz.underlying59 h
  have h0 := hf 0 _ rfl
  have h1 := hf 1 _ rfl
  have h2 := hf 2 _ rfl
  have h3 := hf 3 _ rfl
  have h4 := hf 4 _ rfl
  have h5 := hf 5 _ rfl
  have h6 := hf 6 _ rfl
  have h7 := hf 7 _ rfl
  have h8 := hf 8 _ rfl
  have hC : Tryz.prog.cellsOf 59 = 9 := by kernel_rfl
  rw [hC] at hl
  have c0 : Tryz.prog.cellsOf 9 = 1 := by kernel_rfl
  have c1 : Tryz.prog.cellsOf 3 = 1 := by kernel_rfl
  have c2 : Tryz.prog.cellsOf 54 = 1 := by kernel_rfl
  have c3 : Tryz.prog.cellsOf 55 = 1 := by kernel_rfl
  have c4 : Tryz.prog.cellsOf 56 = 1 := by kernel_rfl
  have c5 : Tryz.prog.cellsOf 4 = 1 := by kernel_rfl
  have c6 : Tryz.prog.cellsOf 57 = 1 := by kernel_rfl
  match xs, hxs with
  | [y0, y1, y2, y3, y4, y5, y6, y7, y8], _ =>
    match cs, hl with
    | [v0, v1, v2, v3, v4, v5, v6, v7, v8], _ =>
      have k0 : DataW.trod enc Tryz.prog w base spare held n 9 (([v0, v1, v2, v3, v4, v5, v6, v7, v8].drop 0).take (Tryz.prog.cellsOf 9)) = some y0 := h0
      rw [c0] at k0
      have q0 : DataW.trod enc Tryz.prog w base spare held n 9 [v0] = some y0 := k0
      have k1 : DataW.trod enc Tryz.prog w base spare held n 3 (([v0, v1, v2, v3, v4, v5, v6, v7, v8].drop 1).take (Tryz.prog.cellsOf 3)) = some y1 := h1
      rw [c1] at k1
      have q1 : DataW.trod enc Tryz.prog w base spare held n 3 [v1] = some y1 := k1
      have k2 : DataW.trod enc Tryz.prog w base spare held n 9 (([v0, v1, v2, v3, v4, v5, v6, v7, v8].drop 2).take (Tryz.prog.cellsOf 9)) = some y2 := h2
      rw [c0] at k2
      have q2 : DataW.trod enc Tryz.prog w base spare held n 9 [v2] = some y2 := k2
      have k3 : DataW.trod enc Tryz.prog w base spare held n 9 (([v0, v1, v2, v3, v4, v5, v6, v7, v8].drop 3).take (Tryz.prog.cellsOf 9)) = some y3 := h3
      rw [c0] at k3
      have q3 : DataW.trod enc Tryz.prog w base spare held n 9 [v3] = some y3 := k3
      have k4 : DataW.trod enc Tryz.prog w base spare held n 54 (([v0, v1, v2, v3, v4, v5, v6, v7, v8].drop 4).take (Tryz.prog.cellsOf 54)) = some y4 := h4
      rw [c2] at k4
      have q4 : DataW.trod enc Tryz.prog w base spare held n 54 [v4] = some y4 := k4
      have k5 : DataW.trod enc Tryz.prog w base spare held n 55 (([v0, v1, v2, v3, v4, v5, v6, v7, v8].drop 5).take (Tryz.prog.cellsOf 55)) = some y5 := h5
      rw [c3] at k5
      have q5 : DataW.trod enc Tryz.prog w base spare held n 55 [v5] = some y5 := k5
      have k6 : DataW.trod enc Tryz.prog w base spare held n 56 (([v0, v1, v2, v3, v4, v5, v6, v7, v8].drop 6).take (Tryz.prog.cellsOf 56)) = some y6 := h6
      rw [c4] at k6
      have q6 : DataW.trod enc Tryz.prog w base spare held n 56 [v6] = some y6 := k6
      have k7 : DataW.trod enc Tryz.prog w base spare held n 4 (([v0, v1, v2, v3, v4, v5, v6, v7, v8].drop 7).take (Tryz.prog.cellsOf 4)) = some y7 := h7
      rw [c5] at k7
      have q7 : DataW.trod enc Tryz.prog w base spare held n 4 [v7] = some y7 := k7
      have k8 : DataW.trod enc Tryz.prog w base spare held n 57 (([v0, v1, v2, v3, v4, v5, v6, v7, v8].drop 8).take (Tryz.prog.cellsOf 57)) = some y8 := h8
      rw [c6] at k8
      have q8 : DataW.trod enc Tryz.prog w base spare held n 57 [v8] = some y8 := k8
      obtain ⟨a0, e0, _, w0⟩ := DataW.trod_string Tryz.underlying9 q0
      obtain ⟨a1, e1, _, w1⟩ := DataW.trod_int Tryz.underlying3 q1
      obtain ⟨a2, e2, _, w2⟩ := DataW.trod_string Tryz.underlying9 q2
      obtain ⟨a3, e3, _, w3⟩ := DataW.trod_string Tryz.underlying9 q3
      obtain ⟨a4, w4, e4⟩ := open_fieldS (enc := enc) (cell := encPr) (m := 2) (((0, 0) : Int × Int)) okPr Tryz.underlying54 (by kernel_rfl) (fun _ => rfl) (by decide) (fun n cs y h => open_p2 h) q4
      obtain ⟨a5, w5, e5⟩ := open_fieldS (enc := enc) (cell := encTm) (m := 5) (zTm) okTm Tryz.underlying55 (by kernel_rfl) (fun _ => rfl) (by decide) (fun n cs y h => open_t5 h) q5
      obtain ⟨a6, w6, e6⟩ := open_fieldS (enc := enc) (cell := encIt) (m := 2) (zIt) ItOk Tryz.underlying56 (by kernel_rfl) (fun _ => rfl) (by decide) (fun n cs y h => open_It h) q6
      obtain ⟨a7, e7, _⟩ := DataW.trod_bool Tryz.underlying4 q7
      obtain ⟨a8, w8, e8⟩ := open_fieldS (enc := enc) (cell := encAg) (m := 3) (Ag.z) AgOk Tryz.underlying57 (by kernel_rfl) (fun _ => rfl) (by decide) (fun n cs y h => open_Ag h) q8
      simp only [List.cons.injEq, and_true] at e0 e1 e2 e3 e4 e5 e6 e7 e8
      subst e0 e1 e2 e3 e4 e5 e6 e7 e8
      exact ⟨⟨a0, a1, a2, a3, a4, a5, a6, a7, a8⟩, { name := w0, kind := bounds_i64 w1, left := w2, right := w3, on := w4, wh := w5, its := w6, ags := w8 }, rfl⟩
theorem open_Ix {fuel : Nat} {cs : List Value} {x : DataW H × List MemPlace} (h : DataW.trod enc Tryz.prog w base spare held fuel 74 cs = some x) : ∃ a : Ix, IxOk w w.heap.size a ∧ cs = encIx a := by
  obtain ⟨xs, n, _, _, hl, hxs, hf⟩ := DataW.trod_struct Tryz.underlying74 h
  have h0 := hf 0 _ rfl
  have h1 := hf 1 _ rfl
  have h2 := hf 2 _ rfl
  have hC : Tryz.prog.cellsOf 74 = 3 := by kernel_rfl
  rw [hC] at hl
  have c0 : Tryz.prog.cellsOf 9 = 1 := by kernel_rfl
  have c1 : Tryz.prog.cellsOf 3 = 1 := by kernel_rfl
  match xs, hxs with
  | [y0, y1, y2], _ =>
    match cs, hl with
    | [v0, v1, v2], _ =>
      have k0 : DataW.trod enc Tryz.prog w base spare held n 9 (([v0, v1, v2].drop 0).take (Tryz.prog.cellsOf 9)) = some y0 := h0
      rw [c0] at k0
      have q0 : DataW.trod enc Tryz.prog w base spare held n 9 [v0] = some y0 := k0
      have k1 : DataW.trod enc Tryz.prog w base spare held n 9 (([v0, v1, v2].drop 1).take (Tryz.prog.cellsOf 9)) = some y1 := h1
      rw [c0] at k1
      have q1 : DataW.trod enc Tryz.prog w base spare held n 9 [v1] = some y1 := k1
      have k2 : DataW.trod enc Tryz.prog w base spare held n 3 (([v0, v1, v2].drop 2).take (Tryz.prog.cellsOf 3)) = some y2 := h2
      rw [c1] at k2
      have q2 : DataW.trod enc Tryz.prog w base spare held n 3 [v2] = some y2 := k2
      obtain ⟨a0, e0, _, w0⟩ := DataW.trod_string Tryz.underlying9 q0
      obtain ⟨a1, e1, _, w1⟩ := DataW.trod_string Tryz.underlying9 q1
      obtain ⟨a2, e2, _, w2⟩ := DataW.trod_int Tryz.underlying3 q2
      simp only [List.cons.injEq, and_true] at e0 e1 e2
      subst e0 e1 e2
      exact ⟨⟨a0, a1, a2⟩, { name := w0, src := w1, col := bounds_i64 w2 }, rfl⟩
theorem open_Sk {fuel : Nat} {cs : List Value} {x : DataW H × List MemPlace} (h : DataW.trod enc Tryz.prog w base spare held fuel 76 cs = some x) : ∃ a : Sk, SkOk w w.heap.size a ∧ cs = encSk a := by
  obtain ⟨xs, n, _, _, hl, hxs, hf⟩ := DataW.trod_struct Tryz.underlying76 h
  have h0 := hf 0 _ rfl
  have h1 := hf 1 _ rfl
  have h2 := hf 2 _ rfl
  have h3 := hf 3 _ rfl
  have h4 := hf 4 _ rfl
  have h5 := hf 5 _ rfl
  have hC : Tryz.prog.cellsOf 76 = 6 := by kernel_rfl
  rw [hC] at hl
  have c0 : Tryz.prog.cellsOf 9 = 1 := by kernel_rfl
  have c1 : Tryz.prog.cellsOf 3 = 1 := by kernel_rfl
  match xs, hxs with
  | [y0, y1, y2, y3, y4, y5], _ =>
    match cs, hl with
    | [v0, v1, v2, v3, v4, v5], _ =>
      have k0 : DataW.trod enc Tryz.prog w base spare held n 9 (([v0, v1, v2, v3, v4, v5].drop 0).take (Tryz.prog.cellsOf 9)) = some y0 := h0
      rw [c0] at k0
      have q0 : DataW.trod enc Tryz.prog w base spare held n 9 [v0] = some y0 := k0
      have k1 : DataW.trod enc Tryz.prog w base spare held n 9 (([v0, v1, v2, v3, v4, v5].drop 1).take (Tryz.prog.cellsOf 9)) = some y1 := h1
      rw [c0] at k1
      have q1 : DataW.trod enc Tryz.prog w base spare held n 9 [v1] = some y1 := k1
      have k2 : DataW.trod enc Tryz.prog w base spare held n 3 (([v0, v1, v2, v3, v4, v5].drop 2).take (Tryz.prog.cellsOf 3)) = some y2 := h2
      rw [c1] at k2
      have q2 : DataW.trod enc Tryz.prog w base spare held n 3 [v2] = some y2 := k2
      have k3 : DataW.trod enc Tryz.prog w base spare held n 3 (([v0, v1, v2, v3, v4, v5].drop 3).take (Tryz.prog.cellsOf 3)) = some y3 := h3
      rw [c1] at k3
      have q3 : DataW.trod enc Tryz.prog w base spare held n 3 [v3] = some y3 := k3
      have k4 : DataW.trod enc Tryz.prog w base spare held n 3 (([v0, v1, v2, v3, v4, v5].drop 4).take (Tryz.prog.cellsOf 3)) = some y4 := h4
      rw [c1] at k4
      have q4 : DataW.trod enc Tryz.prog w base spare held n 3 [v4] = some y4 := k4
      have k5 : DataW.trod enc Tryz.prog w base spare held n 3 (([v0, v1, v2, v3, v4, v5].drop 5).take (Tryz.prog.cellsOf 3)) = some y5 := h5
      rw [c1] at k5
      have q5 : DataW.trod enc Tryz.prog w base spare held n 3 [v5] = some y5 := k5
      obtain ⟨a0, e0, _, w0⟩ := DataW.trod_string Tryz.underlying9 q0
      obtain ⟨a1, e1, _, w1⟩ := DataW.trod_string Tryz.underlying9 q1
      obtain ⟨a2, e2, _, w2⟩ := DataW.trod_int Tryz.underlying3 q2
      obtain ⟨a3, e3, _, w3⟩ := DataW.trod_int Tryz.underlying3 q3
      obtain ⟨a4, e4, _, w4⟩ := DataW.trod_int Tryz.underlying3 q4
      obtain ⟨a5, e5, _, w5⟩ := DataW.trod_int Tryz.underlying3 q5
      simp only [List.cons.injEq, and_true] at e0 e1 e2 e3 e4 e5
      subst e0 e1 e2 e3 e4 e5
      exact ⟨⟨a0, a1, a2, a3, a4, a5⟩, { name := w0, src := w1, col := bounds_i64 w2, kind := bounds_i64 w3, width := bounds_i64 w4, depth := bounds_i64 w5 }, rfl⟩
theorem open_Ch {fuel : Nat} {cs : List Value} {x : DataW H × List MemPlace} (h : DataW.trod enc Tryz.prog w base spare held fuel 78 cs = some x) : ∃ a : Ch, ChOk w w.heap.size a ∧ cs = encCh a := by
  obtain ⟨xs, n, _, _, hl, hxs, hf⟩ := DataW.trod_struct Tryz.underlying78 h
  have h0 := hf 0 _ rfl
  have h1 := hf 1 _ rfl
  have h2 := hf 2 _ rfl
  have h3 := hf 3 _ rfl
  have hC : Tryz.prog.cellsOf 78 = 4 := by kernel_rfl
  rw [hC] at hl
  have c0 : Tryz.prog.cellsOf 9 = 1 := by kernel_rfl
  have c1 : Tryz.prog.cellsOf 3 = 1 := by kernel_rfl
  match xs, hxs with
  | [y0, y1, y2, y3], _ =>
    match cs, hl with
    | [v0, v1, v2, v3], _ =>
      have k0 : DataW.trod enc Tryz.prog w base spare held n 9 (([v0, v1, v2, v3].drop 0).take (Tryz.prog.cellsOf 9)) = some y0 := h0
      rw [c0] at k0
      have q0 : DataW.trod enc Tryz.prog w base spare held n 9 [v0] = some y0 := k0
      have k1 : DataW.trod enc Tryz.prog w base spare held n 9 (([v0, v1, v2, v3].drop 1).take (Tryz.prog.cellsOf 9)) = some y1 := h1
      rw [c0] at k1
      have q1 : DataW.trod enc Tryz.prog w base spare held n 9 [v1] = some y1 := k1
      have k2 : DataW.trod enc Tryz.prog w base spare held n 3 (([v0, v1, v2, v3].drop 2).take (Tryz.prog.cellsOf 3)) = some y2 := h2
      rw [c1] at k2
      have q2 : DataW.trod enc Tryz.prog w base spare held n 3 [v2] = some y2 := k2
      have k3 : DataW.trod enc Tryz.prog w base spare held n 3 (([v0, v1, v2, v3].drop 3).take (Tryz.prog.cellsOf 3)) = some y3 := h3
      rw [c1] at k3
      have q3 : DataW.trod enc Tryz.prog w base spare held n 3 [v3] = some y3 := k3
      obtain ⟨a0, e0, _, w0⟩ := DataW.trod_string Tryz.underlying9 q0
      obtain ⟨a1, e1, _, w1⟩ := DataW.trod_string Tryz.underlying9 q1
      obtain ⟨a2, e2, _, w2⟩ := DataW.trod_int Tryz.underlying3 q2
      obtain ⟨a3, e3, _, w3⟩ := DataW.trod_int Tryz.underlying3 q3
      simp only [List.cons.injEq, and_true] at e0 e1 e2 e3
      subst e0 e1 e2 e3
      exact ⟨⟨a0, a1, a2, a3⟩, { name := w0, src := w1, col := bounds_i64 w2, ttl := bounds_i64 w3 }, rfl⟩
theorem open_Re {fuel : Nat} {cs : List Value} {x : DataW H × List MemPlace} (h : DataW.trod enc Tryz.prog w base spare held fuel 80 cs = some x) : ∃ a : Re, ReOk w w.heap.size a ∧ cs = encRe a := by
  obtain ⟨xs, n, _, _, hl, hxs, hf⟩ := DataW.trod_struct Tryz.underlying80 h
  have h0 := hf 0 _ rfl
  have h1 := hf 1 _ rfl
  have h2 := hf 2 _ rfl
  have hC : Tryz.prog.cellsOf 80 = 3 := by kernel_rfl
  rw [hC] at hl
  have c0 : Tryz.prog.cellsOf 9 = 1 := by kernel_rfl
  have c1 : Tryz.prog.cellsOf 3 = 1 := by kernel_rfl
  match xs, hxs with
  | [y0, y1, y2], _ =>
    match cs, hl with
    | [v0, v1, v2], _ =>
      have k0 : DataW.trod enc Tryz.prog w base spare held n 9 (([v0, v1, v2].drop 0).take (Tryz.prog.cellsOf 9)) = some y0 := h0
      rw [c0] at k0
      have q0 : DataW.trod enc Tryz.prog w base spare held n 9 [v0] = some y0 := k0
      have k1 : DataW.trod enc Tryz.prog w base spare held n 9 (([v0, v1, v2].drop 1).take (Tryz.prog.cellsOf 9)) = some y1 := h1
      rw [c0] at k1
      have q1 : DataW.trod enc Tryz.prog w base spare held n 9 [v1] = some y1 := k1
      have k2 : DataW.trod enc Tryz.prog w base spare held n 3 (([v0, v1, v2].drop 2).take (Tryz.prog.cellsOf 3)) = some y2 := h2
      rw [c1] at k2
      have q2 : DataW.trod enc Tryz.prog w base spare held n 3 [v2] = some y2 := k2
      obtain ⟨a0, e0, _, w0⟩ := DataW.trod_string Tryz.underlying9 q0
      obtain ⟨a1, e1, _, w1⟩ := DataW.trod_string Tryz.underlying9 q1
      obtain ⟨a2, e2, _, w2⟩ := DataW.trod_int Tryz.underlying3 q2
      simp only [List.cons.injEq, and_true] at e0 e1 e2
      subst e0 e1 e2
      exact ⟨⟨a0, a1, a2⟩, { name := w0, src := w1, thr := bounds_i64 w2 }, rfl⟩
theorem open_St {fuel : Nat} {cs : List Value} {x : DataW H × List MemPlace} (h : DataW.trod enc Tryz.prog w base spare held fuel 82 cs = some x) : ∃ a : St, StOk w w.heap.size a ∧ cs = encSt a := by
  obtain ⟨xs, n, _, _, hl, hxs, hf⟩ := DataW.trod_struct Tryz.underlying82 h
  have h0 := hf 0 _ rfl
  have h1 := hf 1 _ rfl
  have hC : Tryz.prog.cellsOf 82 = 2 := by kernel_rfl
  rw [hC] at hl
  have c0 : Tryz.prog.cellsOf 9 = 1 := by kernel_rfl
  match xs, hxs with
  | [y0, y1], _ =>
    match cs, hl with
    | [v0, v1], _ =>
      have k0 : DataW.trod enc Tryz.prog w base spare held n 9 (([v0, v1].drop 0).take (Tryz.prog.cellsOf 9)) = some y0 := h0
      rw [c0] at k0
      have q0 : DataW.trod enc Tryz.prog w base spare held n 9 [v0] = some y0 := k0
      have k1 : DataW.trod enc Tryz.prog w base spare held n 9 (([v0, v1].drop 1).take (Tryz.prog.cellsOf 9)) = some y1 := h1
      rw [c0] at k1
      have q1 : DataW.trod enc Tryz.prog w base spare held n 9 [v1] = some y1 := k1
      obtain ⟨a0, e0, _, w0⟩ := DataW.trod_string Tryz.underlying9 q0
      obtain ⟨a1, e1, _, w1⟩ := DataW.trod_string Tryz.underlying9 q1
      simp only [List.cons.injEq, and_true] at e0 e1
      subst e0 e1
      exact ⟨⟨a0, a1⟩, { name := w0, tab := w1 }, rfl⟩
theorem open_Bk {fuel : Nat} {cs : List Value} {x : DataW H × List MemPlace} (h : DataW.trod enc Tryz.prog w base spare held fuel 61 cs = some x) : ∃ a : Bk, BkOk w w.heap.size a ∧ cs = encBk a := by
  obtain ⟨xs, n, _, _, hl, hxs, hf⟩ := DataW.trod_struct Tryz.underlying61 h
  have h0 := hf 0 _ rfl
  have h1 := hf 1 _ rfl
  have h2 := hf 2 _ rfl
  have hC : Tryz.prog.cellsOf 61 = 3 := by kernel_rfl
  rw [hC] at hl
  have c0 : Tryz.prog.cellsOf 9 = 1 := by kernel_rfl
  have c1 : Tryz.prog.cellsOf 40 = 1 := by kernel_rfl
  have c2 : Tryz.prog.cellsOf 3 = 1 := by kernel_rfl
  match xs, hxs with
  | [y0, y1, y2], _ =>
    match cs, hl with
    | [v0, v1, v2], _ =>
      have k0 : DataW.trod enc Tryz.prog w base spare held n 9 (([v0, v1, v2].drop 0).take (Tryz.prog.cellsOf 9)) = some y0 := h0
      rw [c0] at k0
      have q0 : DataW.trod enc Tryz.prog w base spare held n 9 [v0] = some y0 := k0
      have k1 : DataW.trod enc Tryz.prog w base spare held n 40 (([v0, v1, v2].drop 1).take (Tryz.prog.cellsOf 40)) = some y1 := h1
      rw [c1] at k1
      have q1 : DataW.trod enc Tryz.prog w base spare held n 40 [v1] = some y1 := k1
      have k2 : DataW.trod enc Tryz.prog w base spare held n 3 (([v0, v1, v2].drop 2).take (Tryz.prog.cellsOf 3)) = some y2 := h2
      rw [c2] at k2
      have q2 : DataW.trod enc Tryz.prog w base spare held n 3 [v2] = some y2 := k2
      obtain ⟨a0, e0, _, w0⟩ := DataW.trod_string Tryz.underlying9 q0
      obtain ⟨a1, w1, e1⟩ := open_fieldS (enc := enc) (cell := encStr') (m := 1) ((⟨#[]⟩ : ByteArray)) okStr Tryz.underlying40 (by kernel_rfl) (fun _ => rfl) (by decide) (fun n cs y h => open_s1 h) q1
      obtain ⟨a2, e2, _, w2⟩ := DataW.trod_int Tryz.underlying3 q2
      simp only [List.cons.injEq, and_true] at e0 e1 e2
      subst e0 e1 e2
      exact ⟨⟨a0, a1, a2⟩, { name := w0, tabs := w1, keep := bounds_i64 w2 }, rfl⟩
theorem open_Cat {fuel : Nat} {cs : List Value} {x : DataW H × List MemPlace} (h : DataW.trod enc Tryz.prog w base spare held fuel 31 cs = some x) : ∃ c : Cat, CatAt w w.heap.size c ∧ cs = c.cells.toList := by
  obtain ⟨xs, n, _, _, hl, hxs, hf⟩ := DataW.trod_struct Tryz.underlying31 h
  have h0 := hf 0 _ rfl
  have h1 := hf 1 _ rfl
  have h2 := hf 2 _ rfl
  have h3 := hf 3 _ rfl
  have h4 := hf 4 _ rfl
  have h5 := hf 5 _ rfl
  have h6 := hf 6 _ rfl
  have h7 := hf 7 _ rfl
  have hC : Tryz.prog.cellsOf 31 = 8 := by kernel_rfl
  rw [hC] at hl
  have c0 : Tryz.prog.cellsOf 22 = 1 := by kernel_rfl
  have c1 : Tryz.prog.cellsOf 23 = 1 := by kernel_rfl
  have c2 : Tryz.prog.cellsOf 24 = 1 := by kernel_rfl
  have c3 : Tryz.prog.cellsOf 25 = 1 := by kernel_rfl
  have c4 : Tryz.prog.cellsOf 26 = 1 := by kernel_rfl
  have c5 : Tryz.prog.cellsOf 27 = 1 := by kernel_rfl
  have c6 : Tryz.prog.cellsOf 28 = 1 := by kernel_rfl
  have c7 : Tryz.prog.cellsOf 29 = 1 := by kernel_rfl
  match xs, hxs with
  | [y0, y1, y2, y3, y4, y5, y6, y7], _ =>
    match cs, hl with
    | [v0, v1, v2, v3, v4, v5, v6, v7], _ =>
      have k0 : DataW.trod enc Tryz.prog w base spare held n 22 (([v0, v1, v2, v3, v4, v5, v6, v7].drop 0).take (Tryz.prog.cellsOf 22)) = some y0 := h0
      rw [c0] at k0
      have q0 : DataW.trod enc Tryz.prog w base spare held n 22 [v0] = some y0 := k0
      have k1 : DataW.trod enc Tryz.prog w base spare held n 23 (([v0, v1, v2, v3, v4, v5, v6, v7].drop 1).take (Tryz.prog.cellsOf 23)) = some y1 := h1
      rw [c1] at k1
      have q1 : DataW.trod enc Tryz.prog w base spare held n 23 [v1] = some y1 := k1
      have k2 : DataW.trod enc Tryz.prog w base spare held n 24 (([v0, v1, v2, v3, v4, v5, v6, v7].drop 2).take (Tryz.prog.cellsOf 24)) = some y2 := h2
      rw [c2] at k2
      have q2 : DataW.trod enc Tryz.prog w base spare held n 24 [v2] = some y2 := k2
      have k3 : DataW.trod enc Tryz.prog w base spare held n 25 (([v0, v1, v2, v3, v4, v5, v6, v7].drop 3).take (Tryz.prog.cellsOf 25)) = some y3 := h3
      rw [c3] at k3
      have q3 : DataW.trod enc Tryz.prog w base spare held n 25 [v3] = some y3 := k3
      have k4 : DataW.trod enc Tryz.prog w base spare held n 26 (([v0, v1, v2, v3, v4, v5, v6, v7].drop 4).take (Tryz.prog.cellsOf 26)) = some y4 := h4
      rw [c4] at k4
      have q4 : DataW.trod enc Tryz.prog w base spare held n 26 [v4] = some y4 := k4
      have k5 : DataW.trod enc Tryz.prog w base spare held n 27 (([v0, v1, v2, v3, v4, v5, v6, v7].drop 5).take (Tryz.prog.cellsOf 27)) = some y5 := h5
      rw [c5] at k5
      have q5 : DataW.trod enc Tryz.prog w base spare held n 27 [v5] = some y5 := k5
      have k6 : DataW.trod enc Tryz.prog w base spare held n 28 (([v0, v1, v2, v3, v4, v5, v6, v7].drop 6).take (Tryz.prog.cellsOf 28)) = some y6 := h6
      rw [c6] at k6
      have q6 : DataW.trod enc Tryz.prog w base spare held n 28 [v6] = some y6 := k6
      have k7 : DataW.trod enc Tryz.prog w base spare held n 29 (([v0, v1, v2, v3, v4, v5, v6, v7].drop 7).take (Tryz.prog.cellsOf 29)) = some y7 := h7
      rw [c7] at k7
      have q7 : DataW.trod enc Tryz.prog w base spare held n 29 [v7] = some y7 := k7
      obtain ⟨a0, w0, e0⟩ := open_fieldS (enc := enc) (cell := encTa) (m := 4) (Ta.z) TaOk Tryz.underlying22 (by kernel_rfl) (fun _ => rfl) (by decide) (fun n cs y h => open_Ta h) q0
      obtain ⟨a1, w1, e1⟩ := open_fieldS (enc := enc) (cell := encVw) (m := 9) (Vw.z) VwOk Tryz.underlying23 (by kernel_rfl) (fun _ => rfl) (by decide) (fun n cs y h => open_Vw h) q1
      obtain ⟨a2, w2, e2⟩ := open_fieldS (enc := enc) (cell := encIx) (m := 3) ((⟨⟨#[]⟩, ⟨#[]⟩, 0⟩ : Ix)) IxOk Tryz.underlying24 (by kernel_rfl) (fun _ => rfl) (by decide) (fun n cs y h => open_Ix h) q2
      obtain ⟨a3, w3, e3⟩ := open_fieldS (enc := enc) (cell := encSk) (m := 6) ((⟨⟨#[]⟩, ⟨#[]⟩, 0, 0, 0, 0⟩ : Sk)) SkOk Tryz.underlying25 (by kernel_rfl) (fun _ => rfl) (by decide) (fun n cs y h => open_Sk h) q3
      obtain ⟨a4, w4, e4⟩ := open_fieldS (enc := enc) (cell := encCh) (m := 4) ((⟨⟨#[]⟩, ⟨#[]⟩, 0, 0⟩ : Ch)) ChOk Tryz.underlying26 (by kernel_rfl) (fun _ => rfl) (by decide) (fun n cs y h => open_Ch h) q4
      obtain ⟨a5, w5, e5⟩ := open_fieldS (enc := enc) (cell := encRe) (m := 3) ((⟨⟨#[]⟩, ⟨#[]⟩, 0⟩ : Re)) ReOk Tryz.underlying27 (by kernel_rfl) (fun _ => rfl) (by decide) (fun n cs y h => open_Re h) q5
      obtain ⟨a6, w6, e6⟩ := open_fieldS (enc := enc) (cell := encSt) (m := 2) ((⟨⟨#[]⟩, ⟨#[]⟩⟩ : St)) StOk Tryz.underlying28 (by kernel_rfl) (fun _ => rfl) (by decide) (fun n cs y h => open_St h) q6
      obtain ⟨a7, w7, e7⟩ := open_fieldS (enc := enc) (cell := encBk) (m := 3) ((⟨⟨#[]⟩, ⟨none, 0, []⟩, 0⟩ : Bk)) BkOk Tryz.underlying29 (by kernel_rfl) (fun _ => rfl) (by decide) (fun n cs y h => open_Bk h) q7
      simp only [List.cons.injEq, and_true] at e0 e1 e2 e3 e4 e5 e6 e7
      subst e0 e1 e2 e3 e4 e5 e6 e7
      exact ⟨⟨a0, a1, a2, a3, a4, a5, a6, a7⟩, { ts := w0, vs := w1, xs := w2, ks := w3, hs := w4, rs := w5, ms := w6, bs := w7 }, rfl⟩
end
end Go.Proofs.YtenonljnldbkiaaGreatDoor
