/- An append of a row that reads as a list, as a step of a region that draws its order; rows of ints. Nothing of a program in it. -/
import Derived.Test.YtdckpjkbchibjaaGa
import Derived.Maps.AppendAt
namespace Go.Proofs.EB
open Go.RowKit
section
variable {α : Type} {enc : α → List Value} {m : Nat} {P : Program} {t e : TypeId}
theorem step_copyR (ht : P.underlying t = some (.slice e)) {z : Value} {bytes : Nat} (hinfo : (P.info? e).map (fun i => (i.zero, i.size, i.bytes)) = some (some z, m, bytes)) (hzs : z.cells.size = m) (hm0 : 0 < m) (hm : ∀ a, (enc a).length = m) (hone : ∀ a, ∀ u ∈ enc a, u.oneCell' = true)
    (w : World) {ops : Array Oper} {o : Oper} {a : Act} {K : Act → World → Prop} {Q : Exit → Act → World → Prop} {E : Prop} (hgd : o.guard = none) (s x : Operand)
    (ho : o.op = .call { callee := .builtin .append, args := #[s, x], argTypes := #[t, t] })
    (B : Nat) (v : Value) (l : List α) (hs : a.eval s = v) (hown : OwnsR enc m w B e v l) (B' : Nat) (ad : Addr) (cap : Nat) (nl : List α) (hx : a.eval x = .slice (some ad) nl.length cap)
    (hrow : RAt enc m w B' (some ad) nl) (hsz : (l.length + nl.length) * bytes ≤ 140737488355328) (h63 : l.length + nl.length ≤ maxLen) (hB : B ≤ w.heap.size)
    (h : ∀ l' v' w', Hid (l' = l ++ nl) → OwnsR enc m w' B e v' l' → Away v.ownBlock w w' → Below B w w' → (v'.ownBlock = v.ownBlock ∨ v'.ownBlock = some w.heap.size) → K (a.put o.dst v') w') :
    if Region.wanted o (yielded ops a.tmps) = true then Oper.wp P o a w K Q else E := by
  have hwt : Region.wanted o (yielded ops a.tmps) = true := by simp [Region.wanted, hgd]
  rw [if_pos hwt]
  obtain ⟨i0, hi, hz0, hz1, hz2⟩ := info_parts hinfo
  have hnews : ∀ j u, (cellsL enc nl)[j]? = some u → w.cell? (ad.add j) = some u := by
    intro j u hj
    obtain ⟨i, r, hi, rfl, hu⟩ := cellsL_get hm hm0 hj
    rcases hrow with h0 | ⟨b, off, e, _, hc⟩
    · subst h0; simp at hi
    · simp only [Option.some.injEq] at e
      subst e
      rw [Go.WideShapes.add_plain, ← Nat.add_assoc]
      exact hc i hi _ _ hu
  have h1 : ∀ u ∈ cellsL enc nl, u.oneCell' = true := by
    intro u hu
    simp only [cellsL, List.mem_flatMap] at hu
    obtain ⟨y, _, hy⟩ := hu
    exact hone y u hy
  obtain ⟨v', w', hr, k1, k2, _, k4⟩ := run_append_own_at (P := P) w B t o.type e i0 z m bytes ht hi hz0 hz1 hz2 hzs hm0 v l.length (cellsL enc l) hown ad nl.length cap (cellsL enc nl) (cellsL_len hm nl) hnews h1 h63 hsz hB
  have hA : Away v.ownBlock w w' := ⟨k2.os, k2.tape, k2.output, k2.size, k2.block⟩
  rw [← cellsL_app, show l.length + nl.length = (l ++ nl).length by simp] at k1
  unfold Oper.wp execOp
  simp only [ho, resolve, invoke, builtin, Sem.run_bind, Sem.run_pure, Result.andThen_ok, List.map_toArray, List.map_cons, List.map_nil, hs, hx, hr]
  exact h (l ++ nl) v' w' rfl k1 hA (hA.below hB (fun k hk => (hown.lt k hk).1)) k4
end
/-- Rows of ints. -/
def encInt (n : Int) : List Value := [.int .i64 n]
theorem encInt_len (n : Int) : (encInt n).length = 1 := rfl
theorem encInt_one (n : Int) : ∀ u ∈ encInt n, u.oneCell' = true := by intro u hu; simp [encInt] at hu; subst hu; rfl
theorem RAt.int {w : World} {B b off : Nat} {l : List Int} (h : RAt encInt 1 w B (some ⟨b, off, none⟩) l) {i : Nat} (hi : i < l.length) : w.cell? ⟨b, off + i, none⟩ = some (.int .i64 l[i]) := by
  have := RAt.cell h hi (j := 0) (u := .int .i64 l[i]) rfl
  simpa using this
end Go.Proofs.EB
