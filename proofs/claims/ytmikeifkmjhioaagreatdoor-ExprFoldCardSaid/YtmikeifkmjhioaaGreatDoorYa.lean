/- Terms in memory; the table of operators; Arity of package expr. -/
import Derived.Test.YtmikeifkmjhioaaGreatDoorGa
import Derived.Test.YtmikeifkmjhioaaGreatDoorXc
import Derived.Test.YtmikeifkmjhioaaGreatDoorVf
namespace Go.Proofs.YtmikeifkmjhioaaGreatDoor
open Go.RowKit Go.Proofs.EB
set_option maxHeartbeats 1000000
attribute [local go_sem] World.cell?_alloc_some

/-- The cells of a value, and of a term. -/
def encVal (v : V) : List Value := [.int .i64 v.k, .int .i64 v.n, .string v.s]
def encTm (t : Tm) : List Value := [.int .i64 t.op, .int .i64 t.v.k, .int .i64 t.v.n, .string t.v.s, .int .i64 t.c]
theorem encVal_len (v : V) : (encVal v).length = 3 := rfl
theorem encTm_len (t : Tm) : (encTm t).length = 5 := rfl
theorem encVal_one (v : V) : ∀ u ∈ encVal v, u.oneCell' = true := by intro u hu; simp [encVal] at hu; rcases hu with rfl | rfl | rfl <;> rfl
theorem encTm_one (v : Tm) : ∀ u ∈ encTm v, u.oneCell' = true := by intro u hu; simp [encTm] at hu; rcases hu with rfl | rfl | rfl | rfl | rfl <;> rfl
def i64B (n : Int) : Prop := -9223372036854775808 ≤ n ∧ n ≤ 9223372036854775807
def Tm.okT (t : Tm) : Prop := i64B t.op ∧ t.v.ok ∧ i64B t.c
/-- A slice of terms that reads as a list. -/
abbrev TmsAt (w : World) (B : Nat) (ao : Option Addr) (l : List Tm) : Prop := RAt encTm 5 w B ao l
abbrev OwnsTm (w : World) (B : Nat) (v : Value) (l : List Tm) : Prop := OwnsR encTm 5 w B 48 v l
theorem infoTm : (Tryz.prog.info? 48).map (fun i => (i.zero, i.size, i.bytes)) = some (some (.agg #[.int .i64 0, .int .i64 0, .int .i64 0, .string ⟨#[]⟩, .int .i64 0]), 5, 48) := by kernel_rfl
theorem RAt.tm {w : World} {B b off : Nat} {l : List Tm} (h : TmsAt w B (some ⟨b, off, none⟩) l) {i : Nat} (hi : i < l.length) :
    w.cell? ⟨b, off + i * 5, none⟩ = some (.int .i64 l[i].op) ∧ w.cell? ⟨b, off + i * 5 + 1, none⟩ = some (.int .i64 l[i].v.k) ∧ w.cell? ⟨b, off + i * 5 + 2, none⟩ = some (.int .i64 l[i].v.n) ∧ w.cell? ⟨b, off + i * 5 + 3, none⟩ = some (.string l[i].v.s) ∧ w.cell? ⟨b, off + i * 5 + 4, none⟩ = some (.int .i64 l[i].c) :=
  ⟨RAt.cell h hi (j := 0) rfl, RAt.cell h hi (j := 1) rfl, RAt.cell h hi (j := 2) rfl, RAt.cell h hi (j := 3) rfl, RAt.cell h hi (j := 4) rfl⟩
theorem RAt.val {w : World} {B b off : Nat} {l : List V} (h : RAt encVal 3 w B (some ⟨b, off, none⟩) l) {i : Nat} (hi : i < l.length) :
    w.cell? ⟨b, off + i * 3, none⟩ = some (.int .i64 l[i].k) ∧ w.cell? ⟨b, off + i * 3 + 1, none⟩ = some (.int .i64 l[i].n) ∧ w.cell? ⟨b, off + i * 3 + 2, none⟩ = some (.string l[i].s) :=
  ⟨RAt.cell h hi (j := 0) rfl, RAt.cell h hi (j := 1) rfl, RAt.cell h hi (j := 2) rfl⟩
theorem rowAt_rAt {w : World} {B : Nat} {ao : Option Addr} {l : List V} (h : RowAt w B ao l) : RAt encVal 3 w B ao l := by
  rcases h.2 with h0 | ⟨b, off, ha, hlt, hc⟩
  · exact .inl h0
  · refine .inr ⟨b, off, ha, hlt, fun i hi j u hu => ?_⟩
    obtain ⟨c0, c1, c2⟩ := hc i hi
    match j, hu with
    | 0, hu => simp [encVal] at hu; subst hu; exact c0
    | 1, hu => simp [encVal] at hu; subst hu; exact c1
    | 2, hu => simp [encVal] at hu; subst hu; exact c2
    | j + 3, hu => simp [encVal] at hu
theorem rAt_rowAt {w : World} {B : Nat} {ao : Option Addr} {l : List V} (h : RAt encVal 3 w B ao l) (hok : ∀ v ∈ l, v.ok) : RowAt w B ao l := by
  refine ⟨hok, ?_⟩
  rcases h with h0 | ⟨b, off, ha, hlt, hc⟩
  · exact .inl h0
  · exact .inr ⟨b, off, ha, hlt, fun i hi => ⟨hc i hi 0 _ rfl, hc i hi 1 _ rfl, hc i hi 2 _ rfl⟩⟩

/-- The operators by their numbers: name, types of the operands, type. -/
def opTab : List (List UInt8 × List Int × Int) := [([], [], 0), ([], [], 0), ([], [], 0), ([110, 101, 103, 97, 116, 101], [1], 1), ([97, 100, 100], [1, 1], 1), ([115, 117, 98, 116, 114, 97, 99, 116], [1, 1], 1), ([109, 117, 108, 116, 105, 112, 108, 121], [1, 1], 1), ([100, 105, 118, 105, 100, 101], [1, 1], 1),
  ([99, 111, 110, 99, 97, 116], [2, 2], 2), ([108, 101, 110, 103, 116, 104], [2], 1), ([112, 114, 101, 102, 105, 120], [2, 1], 2), ([101, 113, 117, 97, 108], [-1, -1], 1), ([108, 101, 115, 115], [-1, -1], 1), ([110, 111, 116], [1], 1), ([97, 110, 100], [1, 1], 1), ([111, 114], [1, 1], 1), ([105, 115, 110, 117, 108, 108], [-2], 1), ([99, 111, 97, 108, 101, 115, 99, 101], [-1, -1], -1), ([105, 102], [1, -1, -1], -1)]
def Ops (w : World) : Prop := ∀ (i : Nat) (nm : List UInt8) (asx : List Int) (k : Int), opTab[i]? = some (nm, asx, k) → ∃ ao cap, w.cell? ⟨0, i * 3, none⟩ = some (.string ⟨nm.toArray⟩) ∧ w.cell? ⟨0, i * 3 + 1, none⟩ = some (.slice ao asx.length cap) ∧ w.cell? ⟨0, i * 3 + 2, none⟩ = some (.int .i64 k) ∧
  (asx = [] ∨ ∃ b off, ao = some ⟨b, off, none⟩ ∧ ∀ j (h : j < asx.length), w.cell? ⟨b, off + j, none⟩ = some (.int .i64 asx[j]))
theorem Ops.below {w w' : World} (h : Ops w) (hb : Below w.heap.size w w') : Ops w' := by
  intro i nm asx k hi
  obtain ⟨ao, cap, c0, c1, c2, hz⟩ := h i nm asx k hi
  have e : ∀ a v, w.cell? a = some v → w'.cell? a = some v := fun a v hc => (hb.cell (World.block_lt_of_cell? w _ hc)).trans hc
  refine ⟨ao, cap, e _ _ c0, e _ _ c1, e _ _ c2, ?_⟩
  rcases hz with hz | ⟨b, off, ha, hc⟩
  · exact .inl hz
  · exact .inr ⟨b, off, ha, fun j hj => e _ _ (hc j hj)⟩
theorem opTab_arity : ∀ i : Nat, i < 19 → 1 ≤ i → ∃ nm asx k, opTab[i]? = some (nm, asx, k) ∧ arityI i = asx.length := by
  intro i h h1
  have : ∀ j : Fin 19, 1 ≤ j.1 → arityI j.1 = (((opTab[j.1]?).getD ([], [], 0)).2.1.length : Int) ∧ (opTab[j.1]?).isSome = true := by decide +kernel
  obtain ⟨h2, h3⟩ := this ⟨i, h⟩ h1
  obtain ⟨⟨nm, asx, k⟩, h4⟩ := Option.isSome_iff_exists.1 h3
  simp only at h4
  rw [h4] at h2
  exact ⟨nm, asx, k, h4, h2⟩
theorem arity_out {op : Int} (h : op < 1 ∨ 19 ≤ op) : arityI op = -1 := by
  unfold arityI
  rw [if_neg (by omega), if_neg (by omega), if_neg (by omega), if_neg (by omega)]
theorem arity_in {op : Int} (h : 0 ≤ arityI op) : 1 ≤ op ∧ op ≤ 18 := by
  by_cases h1 : op < 1 ∨ 19 ≤ op
  · rw [arity_out h1] at h; omega
  · omega
/-- What the table says of one operator that there is. -/
theorem Ops.at {w : World} (h : Ops w) {op : Int} (h0 : 1 ≤ op) (h1 : op ≤ 18) : ∃ (nm : List UInt8) (asx : List Int) (k : Int) (ao : Option Addr) (cap : Nat), opTab[op.toNat]? = some (nm, asx, k) ∧ arityI op = asx.length ∧
    w.cell? ⟨0, op.toNat * 3, none⟩ = some (.string ⟨nm.toArray⟩) ∧ w.cell? ⟨0, op.toNat * 3 + 1, none⟩ = some (.slice ao asx.length cap) ∧ w.cell? ⟨0, op.toNat * 3 + 2, none⟩ = some (.int .i64 k) ∧
    (asx = [] ∨ ∃ b off, ao = some ⟨b, off, none⟩ ∧ ∀ j (h : j < asx.length), w.cell? ⟨b, off + j, none⟩ = some (.int .i64 asx[j])) := by
  obtain ⟨nm, asx, k, e, ha⟩ := opTab_arity op.toNat (by omega) (by omega)
  obtain ⟨ao, cap, c0, c1, c2, hz⟩ := h _ _ _ _ e
  exact ⟨nm, asx, k, ao, cap, e, by rw [← ha]; congr 1; omega, c0, c1, c2, hz⟩
theorem arity_any (op : Int) (w : World) (h : Ops w) : Calls Tryz.prog 51 #[.int .i64 op] w fun e w' => e = .returned (.int .i64 (arityI op)) ∧ w' = w := by
  by_cases h0 : op < 1
  · have ha := Lib.hid (arity_out (op := op) (.inl h0))
    clear h
    go_enter Tryz.func51, Tryz.ntmps51
    go_wp2
    go_ret
    exact ⟨by rw [ha.out]; rfl, rfl⟩
  · by_cases h1 : 19 ≤ op
    · have ha := Lib.hid (arity_out (op := op) (.inr h1))
      clear h
      go_enter Tryz.func51, Tryz.ntmps51
      go_wp2
      go_ret
      exact ⟨by rw [ha.out]; rfl, rfl⟩
    · obtain ⟨nm, asx, k, ao, cap, _, ha, _, c1, _, _⟩ := h.at (op := op) (by omega) (by omega)
      have Ha := Lib.hid ha
      clear h ha
      have z0 : (0 : Int) ≤ op := by omega
      have z1 : op < 19 := by omega
      have z2 : 1 ≤ op := by omega
      go_enter Tryz.func51, Tryz.ntmps51
      go_wp2
      go_ret
      exact ⟨by rw [Ha.out]; rfl, rfl⟩
end Go.Proofs.YtmikeifkmjhioaaGreatDoor
