/- The reference of layer 4: the error of a column in the order of the reference (plain). -/
import Derived.Test.YtjnhighilmchaaaGreatDoorDo
namespace Go.Proofs.YtjnhighilmchaaaGreatDoor
open Go.RowKit Go.Proofs.EB Go.Proofs.TX
set_option maxHeartbeats 4000000

theorem nameE_eq (x : ByteArray) (l : List ByteArray) : nameE x l = if nmB x = false then 3 else if anyB x l = true then 4 else 0 := rfl
/-- The first two tests of a column. -/
def colN (x : Co) : Bool := nmB x.name && (emp x.ns || nmB x.ns)
/-- The parts of a column fit together, in the order of the reference. -/
def colR (t : Ta) (x : Co) (i : Nat) (kp : Bool) : Bool :=
  !(!emp x.ns && !emp x.refs) && (ownB t.cols.l (-1) x.own.l && (inB x.joint 0 1 && (!(decide (x.own.l = []) && (x.joint != 0 || x.duty != 0)))))
    && (inB x.duty 0 1048576 && (!(t.retain != 0 && decide (t.retain < x.duty)) && !(decide (i = 0) && (!decide (x.own.l = []) && t.erase != 1))))
    && !(kp && !x.own.l.contains (i : Int))
theorem colB_colR (t : Ta) (x : Co) (i : Nat) (kp : Bool) (hr : 0 ≤ t.retain) : (colB t x i = false ∨ (kp = true ∧ x.own.l.contains (i : Int) = false)) ↔ colR t x i kp = false := by
  have h1 : (x.joint == 0 || x.joint == 1) = inB x.joint 0 1 := by
    unfold inB
    rw [Bool.eq_iff_iff]
    simp only [Bool.or_eq_true, beq_iff_eq, Bool.and_eq_true, decide_eq_true_eq]
    omega
  have h2 : dutyB x.duty t.retain = (inB x.duty 0 1048576 && !(t.retain != 0 && decide (t.retain < x.duty))) := by
    unfold dutyB
    congr 1
    by_cases h : t.retain = 0 <;> by_cases g : x.duty ≤ t.retain
    · simp [h]
    · simp [h]
    · have g2 : ¬ t.retain < x.duty := by omega
      simp [g, g2]
    · have g2 : t.retain < x.duty := by omega
      simp [g, g2]
      cases h5 : (t.retain == 0) <;> simp_all
  have h3 : (decide (i ≠ 0) || t.erase == 1) = !(decide (i = 0) && t.erase != 1) := by
    by_cases h : i = 0 <;> cases g : (t.erase == 1) <;> simp [h, bne, g]
  unfold colB colR
  rw [h1, h2, h3]
  cases e1 : emp x.ns <;> cases e2 : emp x.refs
  · simp
  all_goals
    by_cases ho : x.own.l = []
    · rw [ho]
      have h4 : (t.retain != 0 && decide (t.retain < x.duty)) = true → x.duty ≠ 0 := by
        simp only [Bool.and_eq_true, bne_iff_ne, decide_eq_true_eq]; omega
      by_cases hd : x.duty = 0
      · have h5 : (t.retain != 0 && decide (t.retain < x.duty)) = false := by
          rw [Bool.eq_false_iff]; exact fun h => h4 h hd
        rw [h5, hd]
        by_cases hj : x.joint = 0
        · rw [hj]; cases kp <;> simp [ownB, inB]
        · have h6 : (x.joint == 0) = false := beq_eq_false_iff_ne.2 hj
          simp [h6, hj, ownB]
      · have h6 : (x.duty == 0) = false := beq_eq_false_iff_ne.2 hd
        have h7 : (x.duty != 0) = true := bne_iff_ne.2 hd
        simp [h6, h7, ownB]
    · simp only [ho, decide_false, Bool.not_false, Bool.true_and, Bool.false_and, Bool.and_true, and_self, and_false, false_and, if_false, Bool.true_eq_false]
      cases ownB t.cols.l (-1) x.own.l <;> cases inB x.joint 0 1 <;> cases inB x.duty 0 1048576 <;> cases (t.retain != 0 && decide (t.retain < x.duty)) <;> cases (decide (i = 0) && t.erase != 1) <;> cases kp <;> cases x.own.l.contains (i : Int) <;> simp
/-- What a column's error is, case by case. -/
theorem colE_cases (pre : List Ta) (t : Ta) (i : Nat) (x : Co) (hx : t.cols.l.getD i Co.z = x) (hr : 0 ≤ t.retain) (k : Int) (hk : idx x.refs (pre.map (·.name)) = k) (kc : Co) (hkc : (pre.getD k.toNat Ta.z).cols.l.getD 0 Co.z = kc) :
    colE pre t i = if colN x = false then 3 else if anyB x.name ((t.cols.l.take i).map (·.name)) = true then 4
      else if (!emp x.refs && decide (k < 0)) = true then 7
      else if (!inB x.ty 1 2 || (!emp x.refs && kc.ty != x.ty)) = true then 5
      else if colR t x i (!emp x.refs && !decide (kc.own.l = [])) = false then 1 else 0 := by
  unfold colE
  simp only [hx]
  unfold colN
  by_cases h1 : emp x.ns = false ∧ nmB x.ns = false
  · rw [if_pos h1, h1.1, h1.2]; simp
  · rw [if_neg h1]
    have h2 : (emp x.ns || nmB x.ns) = true := by
      cases e1 : emp x.ns
      · cases e2 : nmB x.ns
        · exact absurd ⟨e1, e2⟩ h1
        · rfl
      · rfl
    rw [h2, Bool.and_true, nameE_eq]
    cases e3 : nmB x.name
    · simp
    · cases e4 : anyB x.name ((t.cols.l.take i).map (·.name))
      · have hty : (x.ty ≠ 1 ∧ x.ty ≠ 2) ↔ inB x.ty 1 2 = false := by
          unfold inB
          rw [Bool.and_eq_false_iff, decide_eq_false_iff_not, decide_eq_false_iff_not]
          omega
        simp only [Bool.true_eq_false, if_false, Bool.false_eq_true, ne_eq, not_true_eq_false]
        unfold keyE
        cases e5 : emp x.refs
        · simp only [Bool.false_eq_true, if_false, Bool.not_false, Bool.true_and, hk, hkc]
          by_cases h6 : k < 0
          · simp [h6]
          · simp only [h6, if_false, decide_false, Bool.false_eq_true]
            have h7 : ((x.ty ≠ 1 ∧ x.ty ≠ 2) ∨ x.ty ≠ kc.ty) ↔ (!inB x.ty 1 2 || kc.ty != x.ty) = true := by
              rw [hty, Bool.or_eq_true, Bool.not_eq_true', bne_iff_ne]
              constructor <;> rintro (h | h)
              · exact .inl h
              · exact .inr (Ne.symm h)
              · exact .inl h
              · exact .inr (Ne.symm h)
            have h8 : (!kc.own.l.isEmpty) = !decide (kc.own.l = []) := by cases kc.own.l <;> simp
            rw [h8]
            by_cases h9 : (!inB x.ty 1 2 || kc.ty != x.ty) = true
            · rw [if_pos (h7.2 h9), if_pos h9]
            · rw [if_neg (fun h => h9 (h7.1 h)), if_neg h9]
              by_cases h10 : colR t x i (!decide (kc.own.l = [])) = false
              · rw [if_pos ((colB_colR t x i _ hr).2 h10), if_pos h10]
              · rw [if_neg (fun h => h10 ((colB_colR t x i _ hr).1 h)), if_neg h10]
        · simp only [if_true, Bool.not_true, Bool.false_and, Bool.false_eq_true, if_false, Bool.or_false]
          have h7 : (¬x.ty = 1 ∧ ¬x.ty = 2 ∨ ¬True) ↔ (!inB x.ty 1 2) = true := by rw [Bool.not_eq_true', ← hty]; simp
          by_cases h9 : (!inB x.ty 1 2) = true
          · rw [if_pos (h7.2 h9), if_pos h9]
          · rw [if_neg (fun h => h9 (h7.1 h)), if_neg h9]
            have h11 : (colB t x i = false ∨ False ∧ x.own.l.contains (i : Int) = false) ↔ colR t x i false = false := by rw [← colB_colR t x i false hr]; simp
            by_cases h10 : colR t x i false = false
            · rw [if_pos (h11.2 h10), if_pos h10]
            · rw [if_neg (fun h => h10 (h11.1 h)), if_neg h10]
      · simp
end Go.Proofs.YtjnhighilmchaaaGreatDoor
