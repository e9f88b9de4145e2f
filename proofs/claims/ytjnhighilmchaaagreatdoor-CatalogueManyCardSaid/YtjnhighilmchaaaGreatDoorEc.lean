/- The law CatalogueMany, plain: its catalogues and what is wrong with them. -/
import Derived.Test.YtjnhighilmchaaaGreatDoorDy
namespace Go.Proofs.YtjnhighilmchaaaGreatDoor
open Go.RowKit Go.Proofs.EB Go.Proofs.TX
set_option maxHeartbeats 4000000
set_option maxRecDepth 100000

def nmN (b : UInt8) (j : Nat) : ByteArray := ⟨#[b, UInt8.ofNat (97 + j)]⟩
def coK : Co := ⟨⟨#[107]⟩, 1, ⟨#[]⟩, ⟨#[]⟩, nilS, 0, 0⟩
def mkTa (p : Option Addr × Nat) (j : Nat) : Ta := ⟨nmN 116 j, ⟨p.1, p.2, [coK]⟩, 0, 0⟩
def mkTs : Nat → List (Option Addr × Nat) → List Ta
  | _, [] => []
  | j, p :: l => mkTa p j :: mkTs (j + 1) l
theorem mkTs_snoc (p : Option Addr × Nat) : ∀ (l : List (Option Addr × Nat)) (j : Nat), mkTs j (l ++ [p]) = mkTs j l ++ [mkTa p (j + l.length)]
  | [], j => by simp [mkTs]
  | q :: l, j => by
    rw [List.cons_append, mkTs, mkTs, mkTs_snoc p l (j + 1), List.length_cons, show j + 1 + l.length = j + (l.length + 1) by omega]; rfl
theorem mkTs_len : ∀ (l : List (Option Addr × Nat)) (j : Nat), (mkTs j l).length = l.length
  | [], _ => rfl
  | _ :: l, j => by rw [mkTs, List.length_cons, List.length_cons, mkTs_len l (j + 1)]
theorem mkTs_mem : ∀ (l : List (Option Addr × Nat)) (j : Nat) (t : Ta), t ∈ mkTs j l → ∃ p k, p ∈ l ∧ k < j + l.length ∧ t = mkTa p k
  | [], _, _, h => by cases h
  | q :: l, j, t, h => by
    rw [mkTs] at h
    rcases List.mem_cons.1 h with rfl | h
    · exact ⟨q, j, by simp, by simp, rfl⟩
    · obtain ⟨p, k, hp, hk, e⟩ := mkTs_mem l (j + 1) t h
      exact ⟨p, k, List.mem_cons_of_mem _ hp, by rw [List.length_cons]; omega, e⟩
def sTa : ByteArray := ⟨#[116, 97]⟩
def mkV (j : Nat) : Vw := ⟨nmN 118 j, 2, sTa, sTa, nilS, nilS, nilS, false, nilS⟩
def mkM (j : Nat) : St := ⟨nmN 109 j, sTa⟩
def catC (ts : SL Ta) (vs : SL Vw) (ms : SL St) : Cat := ⟨ts, vs, nilS, nilS, nilS, nilS, ms, nilS⟩
theorem manyT8 (p0 p1 p2 p3 p4 p5 p6 p7 : Option Addr × Nat) (ao : Option Addr) (cap : Nat) : (catC ⟨ao, cap, mkTs 0 [p0, p1, p2, p3, p4, p5, p6, p7]⟩ nilS nilS).chk = (0, 0) := by kernel_rfl
theorem manyT9 (p0 p1 p2 p3 p4 p5 p6 p7 p8 : Option Addr × Nat) (ao : Option Addr) (cap : Nat) : (catC ⟨ao, cap, mkTs 0 [p0, p1, p2, p3, p4, p5, p6, p7, p8]⟩ nilS nilS).chk = (0, 8) := by kernel_rfl
theorem manyV12 (p : Option Addr × Nat) (ao a2 : Option Addr) (cap c2 : Nat) : (catC ⟨ao, cap, [mkTa p 0]⟩ ⟨a2, c2, (List.range 12).map mkV⟩ nilS).chk = (0, 0) := by kernel_rfl
theorem manyV13 (p : Option Addr × Nat) (ao a2 : Option Addr) (cap c2 : Nat) : (catC ⟨ao, cap, [mkTa p 0]⟩ ⟨a2, c2, (List.range 13).map mkV⟩ nilS).chk = (0, 8) := by kernel_rfl
theorem manyM16 (p : Option Addr × Nat) (ao a2 : Option Addr) (cap c2 : Nat) : (catC ⟨ao, cap, [mkTa p 0]⟩ nilS ⟨a2, c2, (List.range 16).map mkM⟩).chk = (0, 0) := by kernel_rfl
theorem manyM17 (p : Option Addr × Nat) (ao a2 : Option Addr) (cap c2 : Nat) : (catC ⟨ao, cap, [mkTa p 0]⟩ nilS ⟨a2, c2, (List.range 17).map mkM⟩).chk = (0, 8) := by kernel_rfl
end Go.Proofs.YtjnhighilmchaaaGreatDoor
