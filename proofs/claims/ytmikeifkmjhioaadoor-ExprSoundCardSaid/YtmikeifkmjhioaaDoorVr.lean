/- The reference's Digits. -/
import Derived.Test.YtmikeifkmjhioaaDoorVq
namespace Go.Proofs.EB
open Go.RowKit
open Go.Lib (byteCells)
section
variable {P : Program} {t e : TypeId}
/-- 'string(b)' of one byte, at a step of a region that draws its order. -/
theorem step_b1 {dst : TypeId} (hd : P.underlying dst = some .string) (ht : P.underlying t = some (.slice e)) (he : P.underlying e = some (.int .u8)) (w : World)
    {ops : Array Oper} {o : Oper} {a : Act} {K : Act → World → Prop} {Q : Exit → Act → World → Prop} {E : Prop} (hgd : o.guard = none) (x : Operand) (ho : o.op = .convert t dst x) (g : Nat) (b : UInt8)
    (hx : a.eval x = .slice (some ⟨g, 0, none⟩) 1 1) (hc : w.cell? ⟨g, 0, none⟩ = some (.int .u8 (b.toNat : Int)))
    (h : K (a.put o.dst (.string ⟨#[b]⟩)) w) : if Region.wanted o (yielded ops a.tmps) = true then Oper.wp P o a w K Q else E := by
  have hwt : Region.wanted o (yielded ops a.tmps) = true := by simp [Region.wanted, hgd]
  rw [if_pos hwt]
  unfold Oper.wp execOp
  have hr : (convert t dst (.slice (some ⟨g, 0, none⟩) 1 1)).run P w = .ok (.string ⟨[b].toArray⟩) w := by
    refine run_convert_bytes_back w t dst e _ _ [b] ht he hd fun j hj => ?_
    have : j = 0 := by simpa using hj
    subst this
    exact hc
  simp only [ho, hx, Sem.run_bind, hr, Result.andThen_ok, Sem.run_pure]
  exact h
end
end Go.Proofs.EB
namespace Go.Proofs.YtmikeifkmjhioaaDoor
open Go.RowKit Go.Proofs.EB
open Go.Lib (byteCells)
set_option maxHeartbeats 1000000
attribute [local go_sem] World.cell?_alloc_some

theorem run_conv1 (w : World) (g : Nat) (b : UInt8) (hc : w.cell? ⟨g, 0, none⟩ = some (.int .u8 (b.toNat : Int))) : (convert 114 9 (.slice (some ⟨g, 0, none⟩) 1 1)).run Tryd.prog w = .ok (.string ⟨#[b]⟩) w := by
  refine run_convert_bytes_back w 114 9 5 _ _ [b] Tryd.underlying114 Tryd.underlying5 Tryd.underlying9 fun j hj => ?_
  have : j = 0 := by simpa using hj
  subst this
  exact hc
theorem run_conv1_new (w : World) (b : UInt8) : (convert 114 9 (.slice (some ⟨w.heap.size, 0, none⟩) 1 1)).run Tryd.prog (w.alloc (.cells #[.int .u8 (b.toNat : Int)] 5)) = .ok (.string ⟨#[b]⟩) (w.alloc (.cells #[.int .u8 (b.toNat : Int)] 5)) :=
  run_conv1 _ _ _ (by simp)
theorem run_conv1_drew (w : World) (b : UInt8) : (convert 114 9 (.slice (some ⟨w.heap.size, 0, none⟩) 1 1)).run Tryd.prog (w.alloc (.cells #[.int .u8 (b.toNat : Int)] 5)).drew = .ok (.string ⟨#[b]⟩) (w.alloc (.cells #[.int .u8 (b.toNat : Int)] 5)).drew :=
  run_conv1 _ _ _ (by simp [go_sem])
theorem run_conv1_drew2 (w : World) (b : UInt8) : (convert 114 9 (.slice (some ⟨w.heap.size, 0, none⟩) 1 1)).run Tryd.prog (w.alloc (.cells #[.int .u8 (b.toNat : Int)] 5)).drew.drew = .ok (.string ⟨#[b]⟩) (w.alloc (.cells #[.int .u8 (b.toNat : Int)] 5)).drew.drew :=
  run_conv1 _ _ _ (by simp [go_sem])
theorem digits_small (n : Nat) (h10 : n < 10) (w : World) : Calls Tryd.prog 108 #[.int .i64 n] w fun e w' => e = .returned (.string ⟨(Lib.decDigits n).toArray⟩) ∧ Below w.heap.size w w' := by
  have hbb : ((UInt8.ofNat (48 + n)).toNat : Int) = 48 + (n : Int) := by rw [UInt8.toNat_ofNat']; omega
  rw [Lib.decDigits_one h10]
  generalize UInt8.ofNat (48 + n) = b at *
  have hu : IntKind.u8.wrap (48 + (n : Int)) = (b.toNat : Int) := by rw [hbb, IntWalk.u8_in _ (by omega)]
  have h1 : (n : Int) < 10 := by omega
  have h0 : (0 : Int) ≤ (n : Int) := by omega
  have hown : OwnsB (w.alloc (.cells #[.int .u8 (b.toNat : Int)] 5)) w.heap.size 5 (.slice (some ⟨w.heap.size, 0, none⟩) 1 1) [b] := owns_of_block (B := w.heap.size) [b] (heap_alloc_new _ _) (Nat.le_refl _) rfl (by simp [maxLen])
  clear hbb h10
  go_enter Tryd.func108, Tryd.ntmps108
  go_wp2_with (refine wpList_b2s Tryd.underlying9 Tryd.underlying114 Tryd.underlying5 _ rfl (.tmp 14) rfl _ (.slice (some ⟨w.heap.size, 0, none⟩) 1 1) [b] rfl hown ?_)
  go_ret
  exact ⟨rfl, (Below.refl _ _).alloc (Nat.le_refl _) _⟩
theorem digit_byte {n : Nat} (h : n < 10) : ((UInt8.ofNat (48 + n)).toNat : Int) = 48 + (n : Int) := by
  rw [UInt8.toNat_ofNat']
  omega
theorem str_snoc (ds : List UInt8) (b : UInt8) : (⟨ds.toArray⟩ : ByteArray) ++ ⟨#[b]⟩ = ⟨(ds ++ [b]).toArray⟩ := by
  apply ByteArray.ext
  simp
theorem str_cons (b : UInt8) (ds : List UInt8) : (⟨#[b]⟩ : ByteArray) ++ ⟨ds.toArray⟩ = ⟨(b :: ds).toArray⟩ := by
  apply ByteArray.ext
  simp
theorem digits_len : ∀ (u n : Nat), n ≤ u → (Lib.decDigits n).length ≤ n + 1 := by
  intro u
  induction u with
  | zero => intro n hn; rw [Lib.decDigits_one (by omega)]; simp
  | succ u ih =>
    intro n hn
    by_cases h : n < 10
    · rw [Lib.decDigits_one h]; simp
    · rw [Lib.decDigits, dif_neg h]
      have := ih (n / 10) (by omega)
      simp; omega
attribute [local go_sem] run_conv1_new run_conv1_drew run_conv1_drew2 in
theorem digits_nat : ∀ (u n : Nat), n ≤ u → n < 1000000000000 → ∀ w : World, Calls Tryd.prog 108 #[.int .i64 n] w fun e w' => e = .returned (.string ⟨(Lib.decDigits n).toArray⟩) ∧ Below w.heap.size w w' := by
  intro u
  induction u with
  | zero => exact fun n hn hb w => digits_small n (by omega) w
  | succ u ih =>
    intro n hn hb w
    by_cases h10 : n < 10
    · exact digits_small n h10 w
    · have hd : Lib.decDigits n = Lib.decDigits (n / 10) ++ [UInt8.ofNat (48 + n % 10)] := by rw [Lib.decDigits, dif_neg h10]
      have hbb := digit_byte (n := n % 10) (by omega)
      rw [hd]
      have ihq : ∀ w : World, Calls Tryd.prog 108 #[.int .i64 ((n : Int) / 10)] w fun e w' => e = .returned (.string ⟨(Lib.decDigits (n / 10)).toArray⟩) ∧ Below w.heap.size w w' := by
        intro w
        have := ih (n / 10) (by omega) (by omega) w
        rwa [show (((n / 10 : Nat)) : Int) = (n : Int) / 10 by omega] at this
      have hds : (⟨(Lib.decDigits (n / 10)).toArray⟩ : ByteArray).size ≤ 1000000000001 := by have := digits_len _ (n / 10) (Nat.le_refl _); simp [ByteArray.size]; omega
      have hdl : (Lib.decDigits (n / 10)).length ≤ 1000000000001 := by have := digits_len _ (n / 10) (Nat.le_refl _); omega
      have hbs : (⟨#[UInt8.ofNat (48 + n % 10)]⟩ : ByteArray).size = 1 := rfl
      clear hd ih hn
      generalize Lib.decDigits (n / 10) = ds at *
      generalize UInt8.ofNat (48 + n % 10) = b at *
      have h0 : (0 : Int) ≤ (n : Int) := by omega
      have h1 : (10 : Int) ≤ (n : Int) := by omega
      have hm : ((n : Int)).tmod 10 = (n : Int) % 10 := Int.tmod_eq_emod_of_nonneg (by omega)
      have hq : ((n : Int)).tdiv 10 = (n : Int) / 10 := Int.tdiv_eq_ediv_of_nonneg (by omega)
      have hq2 : IntKind.i64.wrap ((n : Int) / 10) = (n : Int) / 10 := IntWalk.i64_in _ (by omega)
      have hs : IntKind.i64.wrap (48 + (n : Int) % 10) = 48 + (n : Int) % 10 := IntWalk.i64_in _ (by omega)
      have hu : IntKind.u8.wrap (48 + (n : Int) % 10) = (b.toNat : Int) := by rw [hbb, IntWalk.u8_in _ (by omega)]; omega
      clear hbb
      go_enter Tryd.func108, Tryd.ntmps108
      go_wp2_with fail
      set_option maxRecDepth 40000 in
      go_region_with (go_at_call 108; refine (ihq _).mono ?_; rintro e w1 ⟨rfl, hb1⟩; have hr := fun h1 h2 => run_conv1 w1 w.heap.size b ((World.cell?_of_block (hb1.block w.heap.size h1)).trans h2))
      all_goals
        go_wp2_with fail
        go_ret
        refine ⟨congrArg (fun x => Ending.returned (.string x)) (str_snoc ds b), ?_⟩
        have hA : Below w.heap.size w (w.alloc (.cells #[.int .u8 (b.toNat : Int)] 5)) := (Below.refl _ _).alloc (Nat.le_refl _) _
        first
          | exact hb1.alloc hb1.size _
          | exact (((Below.refl w.heap.size w).drew).trans hb1).alloc hb1.size _
          | exact (((Below.refl w.heap.size w).drew.drew).trans hb1).alloc hb1.size _
          | exact hA.trans (hb1.mono hA.size)
          | exact hA.drew.trans (hb1.mono hA.size)
          | exact hA.drew.drew.trans (hb1.mono hA.size)
theorem digits_any (n : Int) (h0 : -1000000000000 < n) (h1 : n < 1000000000000) (w : World) : Calls Tryd.prog 108 #[.int .i64 n] w fun e w' => e = .returned (.string ⟨(Lib.itoa n).toArray⟩) ∧ Below w.heap.size w w' := by
  by_cases hn : n < 0
  · have hq2 : IntKind.i64.wrap (-n) = -n := IntWalk.i64_in _ (by omega)
    have hit : Lib.itoa n = 45 :: Lib.decDigits n.natAbs := by rw [Lib.itoa, if_pos hn]
    have hd := digits_nat n.natAbs n.natAbs (Nat.le_refl _) (by omega)
    have hdl := digits_len _ n.natAbs (Nat.le_refl _)
    rw [show ((n.natAbs : Nat) : Int) = -n by omega] at hd
    have hdl2 : (Lib.decDigits n.natAbs).length ≤ 1000000000001 := by omega
    rw [hit]
    generalize Lib.decDigits n.natAbs = ds at *
    clear hdl hit
    go_enter Tryd.func108, Tryd.ntmps108
    go_wp2_with fail
    refine (hd _).mono ?_
    rintro e w1 ⟨rfl, hb1⟩
    go_wp2_with fail
    go_ret
    exact ⟨congrArg (fun x => Ending.returned (.string x)) (str_cons 45 ds), hb1⟩
  · have hit : Lib.itoa n = Lib.decDigits n.toNat := by rw [Lib.itoa, if_neg hn]
    have hd := digits_nat n.toNat n.toNat (Nat.le_refl _) (by omega) w
    rw [show ((n.toNat : Nat) : Int) = n by omega] at hd
    rw [hit]
    exact hd
end Go.Proofs.YtmikeifkmjhioaaDoor
