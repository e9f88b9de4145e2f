/- Substitute of package expr. -/
import Derived.Test.YtmikeifkmjhioaaGreatDoorYt
namespace Go.Proofs.YtmikeifkmjhioaaGreatDoor
open Go.RowKit Go.Proofs.EB
set_option maxHeartbeats 4000000
set_option maxRecDepth 100000
attribute [local go_sem] World.cell?_alloc_some

/-- A slice of terms as an element of a slice. -/
structure Sl where
  ao : Option Addr
  cap : Nat
  l : List Tm
def encSl (s : Sl) : List Value := [.slice s.ao s.l.length s.cap]
theorem encSl_len (s : Sl) : (encSl s).length = 1 := rfl
theorem encSl_one (s : Sl) : ∀ u ∈ encSl s, u.oneCell' = true := by intro u hu; simp [encSl] at hu; subst hu; rfl
/-- A slice of slices of terms that reads. -/
structure ItemsIn (w : World) (io : Option Addr) (its : List Sl) : Prop where
  row : RAt encSl 1 w w.heap.size io its
  each : ∀ s ∈ its, TmsAt w w.heap.size s.ao s.l
theorem ItemsIn.later {w w' : World} {io : Option Addr} {its : List Sl} (h : ItemsIn w io its) (hb : Below w.heap.size w w') : ItemsIn w' io its := ⟨h.row.later hb, fun s hs => (h.each s hs).later hb⟩
/-- What holds of the elements whatever the world. -/
def SlOk (its : List Sl) : Prop := ∀ s ∈ its, s.l.length ≤ maxLen ∧ (s.ao = none → s.cap = 0) ∧ ∀ t ∈ s.l, t.okT
theorem ItemsIn.at {w : World} {b off : Nat} {its : List Sl} (h : ItemsIn w (some ⟨b, off, none⟩) its) {i : Nat} (hi : i < its.length) : w.cell? ⟨b, off + i, none⟩ = some (.slice its[i].ao its[i].l.length its[i].cap) := by
  have := RAt.cell h.row hi (j := 0) (u := .slice its[i].ao its[i].l.length its[i].cap) rfl
  simpa using this
/-- The index of the first that is not valid, or -1. -/
def IdxP (its : List Sl) (w : World) (e : Ending) (w' : World) : Prop := ∃ z : Int, Hid ((0 ≤ z) ↔ ∃ s ∈ its, validL s.l = false) ∧ e = .returned (.int .i64 z) ∧ Below w.heap.size w w'
/-- Substitution from the left, onto what is there. -/
def subA (its : List (List Tm)) : List Tm → List Tm → Option (List Tm)
  | out, [] => some out
  | out, t :: l => if t.op = 2 then (match its[t.c.toNat]? with | some s => subA its (out ++ s) l | none => none) else subA its (out ++ [t]) l
/-- Substitute, plain: the terms and the error. -/
def substR (its : List (List Tm)) (e : List Tm) : List Tm × Int :=
  if validL e = false ∨ (∃ s ∈ its, validL s = false) then ([], 1) else match subA its [] e with | none => ([], 3) | some out => if validL out = true then (out, 0) else ([], 8)
theorem flat_terms : ∀ x : Ex, x.ok → ∀ t ∈ x.flat, termB t = true := by
  intro x
  induction x using Ex.ind with
  | h x ih =>
    intro ho t ht
    obtain ⟨h1, _, h3⟩ := (Ex.ok_iff x).1 ho
    rw [Ex.flat_eq] at ht
    rcases List.mem_cons.1 ht with rfl | ht
    · exact h1
    · have : ∀ l : List Ex, (∀ a ∈ l, a.ok ∧ ∀ t ∈ a.flat, termB t = true) → ∀ t ∈ flats l, termB t = true := by
        intro l
        induction l with
        | nil => intro _ t h; cases h
        | cons a l il =>
          intro h t ht
          simp only [flats, List.mem_append] at ht
          rcases ht with ht | ht
          · exact (h a (by simp)).2 t ht
          · exact il (fun b hb => h b (by simp [hb])) t ht
      exact this x.args (fun a ha => ⟨h3 a ha, ih a ha (h3 a ha)⟩) t ht
theorem valid_terms {l : List Tm} (h : validL l = true) : ∀ t ∈ l, termB t = true := by
  obtain ⟨x, _, h2, _⟩ := validL_get h
  have e : l = x.flat := by simpa using h2.1
  rw [e]; exact flat_terms x h2.2
/-- What a call of Substitute leaves. -/
def SubP (R : List Tm × Int) (w : World) (e : Ending) (w' : World) : Prop := ∃ ao cap l c, Hid (R = (l, c) ∧ ∀ t ∈ l, t.okT) ∧ e = .returned (.tuple #[.slice ao l.length cap, .int .i64 c]) ∧ TmsAt w' w'.heap.size ao l ∧ (ao = none → cap = 0) ∧ (∀ b o, ao = some ⟨b, o, none⟩ → w.heap.size ≤ b) ∧ Below w.heap.size w w'
end Go.Proofs.YtmikeifkmjhioaaGreatDoor
