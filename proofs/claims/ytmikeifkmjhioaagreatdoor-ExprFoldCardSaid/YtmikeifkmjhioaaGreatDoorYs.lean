/- The tape's SpoilExpr. -/
import Derived.Test.YtmikeifkmjhioaaGreatDoorYr
namespace Go.Proofs.YtmikeifkmjhioaaGreatDoor
open Go.RowKit Go.Proofs.EB
set_option maxHeartbeats 4000000
set_option maxRecDepth 100000
attribute [local go_sem] World.cell?_alloc_some

theorem OwnsR.marks {α : Type} {enc : α → List Value} {m : Nat} {w : World} {B g cap : Nat} {e : TypeId} {l : List α} (h : OwnsR enc m w B e (.slice (some ⟨g, 0, none⟩) l.length cap) l) : ∀ o, w.frozen? ⟨g, o, none⟩ = false := by
  intro o
  rcases h.2 with ⟨h0, _⟩ | ⟨g', cap', cur, h0, _, hg, _⟩
  · cases h0
  · simp only [Value.slice.injEq, Option.some.injEq, Addr.mk.injEq] at h0
    obtain ⟨⟨rfl, _⟩, _⟩ := h0
    simp [World.frozen?, hg]
/-- One cell of one element is stored. -/
theorem RAt.set1 {α : Type} {enc : α → List Value} {m : Nat} (hm : ∀ a, (enc a).length = m) {w : World} {B b : Nat} {l : List α} (h : RAt enc m w B (some ⟨b, 0, none⟩) l) {i j : Nat} (hi : i < l.length) (hj : j < m) {v : Value} (t' : α)
    (ht : enc t' = (enc l[i]).set j v) : RAt enc m (w.setCell ⟨b, i * m + j, none⟩ v) B (some ⟨b, 0, none⟩) (l.set i t') := by
  rcases h with h0 | ⟨b', off', e, hlt, hc⟩
  · subst h0; simp at hi
  · simp only [Option.some.injEq, Addr.mk.injEq] at e
    obtain ⟨rfl, rfl, _⟩ := e
    refine .inr ⟨b, 0, rfl, hlt, fun i' hi' j' u hu => ?_⟩
    rw [List.length_set] at hi'
    have hj' : j' < m := by have := (List.getElem?_eq_some_iff.1 hu).1; rw [hm] at this; exact this
    have hij : (enc l[i])[j]? = some ((enc l[i])[j]'(by rw [hm]; exact hj)) := List.getElem?_eq_getElem _
    by_cases hii : i' = i
    · subst hii
      rw [List.getElem_set_self, ht] at hu
      by_cases hjj : j' = j
      · subst hjj
        have e1 : u = v := by
          rw [List.getElem?_set_self (by rw [hm]; exact hj)] at hu
          exact (Option.some.inj hu).symm
        subst e1
        have := World.cell?_setCell_same w ⟨b, i' * m + j', none⟩ u (hc i' hi j' _ hij |> fun h => by simpa using h)
        simpa using this
      · rw [List.getElem?_set_ne (fun h => hjj h.symm)] at hu
        rw [World.cell?_setCell_other _ _ _ _ (by intro h; simp only [Addr.mk.injEq, true_and, and_true] at h; omega)]
        exact hc i' hi j' u hu
    · rw [List.getElem_set_ne (fun h => hii h.symm)] at hu
      rw [World.cell?_setCell_other _ _ _ _ (by
        simp only [ne_eq, Addr.mk.injEq, not_and]
        intro _ h
        exfalso
        have h2 : i' * m + j' = i * m + j := by omega
        have h3 : i' = i := by
          have := congrArg (· / m) h2
          simp only [Nat.mul_comm i' m, Nat.mul_comm i m, Nat.mul_add_div (by omega : 0 < m), Nat.div_eq_of_lt hj', Nat.div_eq_of_lt hj] at this
          omega
        exact hii h3)]
      exact hc i' hi' j' u hu
/-- A call of the tape that gives some terms. -/
def TermsPost (w : World) (B g k : Nat) (e : Ending) (w' : World) : Prop :=
  ∃ (ao : Option Addr) (cap : Nat) (l : List Tm), Hid (l.length ≤ k ∧ ∀ t ∈ l, t.okT) ∧ e = .returned (.slice ao l.length cap) ∧ TmsAt w' w'.heap.size ao l ∧ Took w B g w'
theorem okT_set {l : List Tm} {i : Nat} {t' : Tm} (h : ∀ t ∈ l, t.okT) (ht : t'.okT) : ∀ t ∈ l.set i t', t.okT := by
  intro t hm
  rcases List.mem_or_eq_of_mem_set hm with h1 | h1
  · exact h t h1
  · rw [h1]; exact ht
theorem own_tm {w : World} {B b cp : Nat} {l : List Tm} (h : OwnsTm w B (.slice (some ⟨b, 0, none⟩) l.length cp) l) {i : Nat} (hi : i < l.length) :
    TmsAt w w.heap.size (some ⟨b, 0, none⟩) l ∧ w.cell? ⟨b, i * 5, none⟩ = some (.int .i64 l[i].op) ∧ w.cell? ⟨b, i * 5 + 1, none⟩ = some (.int .i64 l[i].v.k) ∧ w.cell? ⟨b, i * 5 + 2, none⟩ = some (.int .i64 l[i].v.n) ∧ w.cell? ⟨b, i * 5 + 3, none⟩ = some (.string l[i].v.s) ∧ w.cell? ⟨b, i * 5 + 4, none⟩ = some (.int .i64 l[i].c) ∧
    w.frozen? ⟨b, i * 5, none⟩ = false ∧ w.frozen? ⟨b, i * 5 + 1, none⟩ = false ∧ w.frozen? ⟨b, i * 5 + 2, none⟩ = false ∧ w.frozen? ⟨b, i * 5 + 3, none⟩ = false ∧ w.frozen? ⟨b, i * 5 + 4, none⟩ = false := by
  obtain ⟨ao, cap, heq, hr, _⟩ := OwnsR.rAt encTm_len h
  simp only [Value.slice.injEq] at heq
  obtain ⟨rfl, _, rfl⟩ := heq
  have hm := OwnsR.marks h
  obtain ⟨c0, c1, c2, c3, c4⟩ := RAt.tm hr hi
  simp only [Nat.zero_add] at c0 c1 c2 c3 c4
  exact ⟨hr, c0, c1, c2, c3, c4, hm _, hm _, hm _, hm _, hm _⟩
theorem rat_size {α : Type} {enc : α → List Value} {m : Nat} {w w' : World} {ao : Option Addr} {l : List α} (h : RAt enc m w' w.heap.size ao l) (hs : w.heap.size ≤ w'.heap.size) : RAt enc m w' w'.heap.size ao l := h.mono hs
theorem size_setCell (w : World) (a : Addr) (v : Value) : (w.setCell a v).heap.size = w.heap.size := by simp [World.setCell]
theorem set_all {w : World} {b : Nat} {l : List Tm} (h : TmsAt w w.heap.size (some ⟨b, 0, none⟩) l) {i : Nat} (hi : i < l.length) (o k n c : Int) (s : ByteArray) :
    TmsAt (((((w.setCell ⟨b, i * 5, none⟩ (.int .i64 o)).setCell ⟨b, i * 5 + 1, none⟩ (.int .i64 k)).setCell ⟨b, i * 5 + 2, none⟩ (.int .i64 n)).setCell ⟨b, i * 5 + 3, none⟩ (.string s)).setCell ⟨b, i * 5 + 4, none⟩ (.int .i64 c)) w.heap.size (some ⟨b, 0, none⟩) (l.set i ⟨o, ⟨k, n, s⟩, c⟩) := by
  have h1 := RAt.set1 encTm_len h hi (j := 0) (by omega) (v := .int .i64 o) ⟨o, l[i].v, l[i].c⟩ rfl
  have h2 := RAt.set1 encTm_len h1 (i := i) (by simpa using hi) (j := 1) (by omega) (v := .int .i64 k) ⟨o, ⟨k, l[i].v.n, l[i].v.s⟩, l[i].c⟩ (by rw [List.getElem_set_self]; rfl)
  rw [List.set_set] at h2
  have h3 := RAt.set1 encTm_len h2 (i := i) (by simpa using hi) (j := 2) (by omega) (v := .int .i64 n) ⟨o, ⟨k, n, l[i].v.s⟩, l[i].c⟩ (by rw [List.getElem_set_self]; rfl)
  rw [List.set_set] at h3
  have h4 := RAt.set1 encTm_len h3 (i := i) (by simpa using hi) (j := 3) (by omega) (v := .string s) ⟨o, ⟨k, n, s⟩, l[i].c⟩ (by rw [List.getElem_set_self]; rfl)
  rw [List.set_set] at h4
  have h5 := RAt.set1 encTm_len h4 (i := i) (by simpa using hi) (j := 4) (by omega) (v := .int .i64 c) ⟨o, ⟨k, n, s⟩, c⟩ (by rw [List.getElem_set_self]; rfl)
  rw [List.set_set] at h5
  exact h5
theorem set_op {w : World} {b : Nat} {l : List Tm} (h : TmsAt w w.heap.size (some ⟨b, 0, none⟩) l) {i : Nat} (hi : i < l.length) (o : Int) :
    TmsAt (w.setCell ⟨b, i * 5, none⟩ (.int .i64 o)) w.heap.size (some ⟨b, 0, none⟩) (l.set i ⟨o, l[i].v, l[i].c⟩) := RAt.set1 encTm_len h hi (j := 0) (by omega) (v := .int .i64 o) ⟨o, l[i].v, l[i].c⟩ rfl
theorem set_col {w : World} {b : Nat} {l : List Tm} (h : TmsAt w w.heap.size (some ⟨b, 0, none⟩) l) {i : Nat} (hi : i < l.length) (c : Int) :
    TmsAt (w.setCell ⟨b, i * 5 + 4, none⟩ (.int .i64 c)) w.heap.size (some ⟨b, 0, none⟩) (l.set i ⟨l[i].op, l[i].v, c⟩) := RAt.set1 encTm_len h hi (j := 4) (by omega) (v := .int .i64 c) ⟨l[i].op, l[i].v, c⟩ rfl
theorem set_val {w : World} {b : Nat} {l : List Tm} (h : TmsAt w w.heap.size (some ⟨b, 0, none⟩) l) {i : Nat} (hi : i < l.length) (k n : Int) (s : ByteArray) :
    TmsAt (((w.setCell ⟨b, i * 5 + 1, none⟩ (.int .i64 k)).setCell ⟨b, i * 5 + 2, none⟩ (.int .i64 n)).setCell ⟨b, i * 5 + 3, none⟩ (.string s)) w.heap.size (some ⟨b, 0, none⟩) (l.set i ⟨l[i].op, ⟨k, n, s⟩, l[i].c⟩) := by
  have h2 := RAt.set1 encTm_len h (i := i) hi (j := 1) (by omega) (v := .int .i64 k) ⟨l[i].op, ⟨k, l[i].v.n, l[i].v.s⟩, l[i].c⟩ rfl
  have h3 := RAt.set1 encTm_len h2 (i := i) (by simpa using hi) (j := 2) (by omega) (v := .int .i64 n) ⟨l[i].op, ⟨k, n, l[i].v.s⟩, l[i].c⟩ (by rw [List.getElem_set_self]; rfl)
  rw [List.set_set] at h3
  have h4 := RAt.set1 encTm_len h3 (i := i) (by simpa using hi) (j := 3) (by omega) (v := .string s) ⟨l[i].op, ⟨k, n, s⟩, l[i].c⟩ (by rw [List.getElem_set_self]; rfl)
  rw [List.set_set] at h4
  exact h4
end Go.Proofs.YtmikeifkmjhioaaGreatDoor
