/- The reference's Digits. -/
import Derived.Test.YtmikeifkmjhioaaGreatDoorVq
namespace Go.Proofs.EB
open Go.RowKit
open Go.Lib (byteCells)
section
variable {P : Program} {t e : TypeId}
/-- 'string(b)' of one byte, at a step of a region that draws its order. -/
theorem step_b1 {dst : TypeId} (hd : P.underlying dst = some .string) (ht : P.underlying t = some (.slice e)) (he : P.underlying e = some (.int .u8)) (w : World)
    {ops : Array Oper} {o : Oper} {a : Act} {K : Act → World → Prop} {Q : Exit → Act → World → Prop} {E : Prop} (hgd : o.guard = none) (x : Operand) (ho : o.op = .convert t dst x) (g : Nat) (b : UInt8)
    (hx : a.eval x = .slice (some ⟨g, 0, none⟩) 1 1) (hc : w.cell? ⟨g, 0, none⟩ = some (.int .u8 (b.toNat : Int)))
    (h : K (a.put o.dst (.string ⟨#[b]⟩)) w) : if Region.wanted o (yielded ops a.tmps) = true then Oper.wp P o a w K Q else E := by
  have hwt : Region.wanted o (yielded ops a.tmps) = true := by simp [Region.wanted, hgd]
  rw [if_pos hwt]
  unfold Oper.wp execOp
  have hr : (convert t dst (.slice (some ⟨g, 0, none⟩) 1 1)).run P w = .ok (.string ⟨[b].toArray⟩) w := by
    refine run_convert_bytes_back w t dst e _ _ [b] ht he hd fun j hj => ?_
    have : j = 0 := by simpa using hj
    subst this
    exact hc
  simp only [ho, hx, Sem.run_bind, hr, Result.andThen_ok, Sem.run_pure]
  exact h
end
end Go.Proofs.EB
namespace Go.Proofs.YtmikeifkmjhioaaGreatDoor
open Go.RowKit Go.Proofs.EB
open Go.Lib (byteCells)
set_option maxHeartbeats 1000000
attribute [local go_sem] World.cell?_alloc_some

theorem run_conv1 (w : World) (g : Nat) (b : UInt8) (hc : w.cell? ⟨g, 0, none⟩ = some (.int .u8 (b.toNat : Int))) : (convert 126 9 (.slice (some ⟨g, 0, none⟩) 1 1)).run Tryz.prog w = .ok (.string ⟨#[b]⟩) w := by
  refine run_convert_bytes_back w 126 9 5 _ _ [b] Tryz.underlying126 Tryz.underlying5 Tryz.underlying9 fun j hj => ?_
  have : j = 0 := by simpa using hj
  subst this
  exact hc
theorem run_conv1_new (w : World) (b : UInt8) : (convert 126 9 (.slice (some ⟨w.heap.size, 0, none⟩) 1 1)).run Tryz.prog (w.alloc (.cells #[.int .u8 (b.toNat : Int)] 5)) = .ok (.string ⟨#[b]⟩) (w.alloc (.cells #[.int .u8 (b.toNat : Int)] 5)) :=
  run_conv1 _ _ _ (by simp)
theorem run_conv1_drew (w : World) (b : UInt8) : (convert 126 9 (.slice (some ⟨w.heap.size, 0, none⟩) 1 1)).run Tryz.prog (w.alloc (.cells #[.int .u8 (b.toNat : Int)] 5)).drew = .ok (.string ⟨#[b]⟩) (w.alloc (.cells #[.int .u8 (b.toNat : Int)] 5)).drew :=
  run_conv1 _ _ _ (by simp [go_sem])
theorem run_conv1_drew2 (w : World) (b : UInt8) : (convert 126 9 (.slice (some ⟨w.heap.size, 0, none⟩) 1 1)).run Tryz.prog (w.alloc (.cells #[.int .u8 (b.toNat : Int)] 5)).drew.drew = .ok (.string ⟨#[b]⟩) (w.alloc (.cells #[.int .u8 (b.toNat : Int)] 5)).drew.drew :=
  run_conv1 _ _ _ (by simp [go_sem])
theorem digit_byte {n : Nat} (h : n < 10) : ((UInt8.ofNat (48 + n)).toNat : Int) = 48 + (n : Int) := by
  rw [UInt8.toNat_ofNat']
  omega
theorem str_snoc (ds : List UInt8) (b : UInt8) : (⟨ds.toArray⟩ : ByteArray) ++ ⟨#[b]⟩ = ⟨(ds ++ [b]).toArray⟩ := by
  apply ByteArray.ext
  simp
theorem str_cons (b : UInt8) (ds : List UInt8) : (⟨#[b]⟩ : ByteArray) ++ ⟨ds.toArray⟩ = ⟨(b :: ds).toArray⟩ := by
  apply ByteArray.ext
  simp
theorem digits_len : ∀ (u n : Nat), n ≤ u → (Lib.decDigits n).length ≤ n + 1 := by
  intro u
  induction u with
  | zero => intro n hn; rw [Lib.decDigits_one (by omega)]; simp
  | succ u ih =>
    intro n hn
    by_cases h : n < 10
    · rw [Lib.decDigits_one h]; simp
    · rw [Lib.decDigits, dif_neg h]
      have := ih (n / 10) (by omega)
      simp; omega
end Go.Proofs.YtmikeifkmjhioaaGreatDoor
