/- The laws of layer 4: the catalogue of example 1, plain and in memory. -/
import Derived.Test.YtjnhighilmchaaaGreatDoorDw
namespace Go.Proofs.YtjnhighilmchaaaGreatDoor
open Go.RowKit Go.Proofs.EB Go.Proofs.TX
set_option maxHeartbeats 4000000
set_option maxRecDepth 100000

def nilS {α : Type} : SL α := ⟨none, 0, []⟩
theorem nilS_ok {α : Type} {enc : α → List Value} {m : Nat} {P : World → Nat → α → Prop} {w : World} {B : Nat} : RdS enc m P w B (nilS : SL α) :=
  ⟨.inl rfl, fun _ => rfl, Nat.le_refl _, Nat.zero_le _, fun a ha => by cases ha⟩
def coId (own0 : SL Int) : Co := ⟨⟨#[105, 100]⟩, 1, sPerson, ⟨#[]⟩, own0, 0, 0⟩
def coMail (g1 : Nat) : Co := ⟨⟨#[109, 97, 105, 108]⟩, 2, ⟨#[]⟩, ⟨#[]⟩, ⟨some ⟨g1, 0, none⟩, 1, [0]⟩, 0, 0⟩
def taPers (g1 g2 : Nat) (own0 : SL Int) (er : Int) : Ta := ⟨sPerson, ⟨some ⟨g2, 0, none⟩, 2, [coId own0, coMail g1]⟩, er, 0⟩
def persC (g1 g2 g3 : Nat) (own0 : SL Int) (er : Int) : Cat := ⟨⟨some ⟨g3, 0, none⟩, 1, [taPers g1 g2 own0 er]⟩, nilS, nilS, nilS, nilS, nilS, nilS, nilS⟩
theorem persC_val (g1 g2 g3 : Nat) (own0 : SL Int) (er : Int) : (persC g1 g2 g3 own0 er).val = persV g3 := rfl
theorem persC_at {w : World} {g1 g2 g3 : Nat} {own0 : SL Int} {er : Int} (h : PersB w g1 g2 g3 (.slice own0.ao own0.l.length own0.cap) er) (ho : IntsS w w.heap.size own0) (her : i64B er) : CatAt w w.heap.size (persC g1 g2 g3 own0 er) := by
  have i0 : i64B 0 := ⟨by decide, by decide⟩
  have i1 : i64B 1 := ⟨by decide, by decide⟩
  have i2 : i64B 2 := ⟨by decide, by decide⟩
  have hsz : ∀ s ∈ [(⟨#[]⟩ : ByteArray), sPerson, ⟨#[105, 100]⟩, ⟨#[109, 97, 105, 108]⟩], s.size ≤ maxLen := by
    intro s hs
    simp only [List.mem_cons, List.not_mem_nil, or_false] at hs
    rcases hs with rfl | rfl | rfl | rfl <;> decide
  refine ⟨⟨rAt_block (enc := encTa) (m := 4) (fun _ => rfl) h.b3 rfl, (fun e => by cases e), Nat.le_refl _, (by show 1 ≤ maxLen; decide), fun a ha => ?_⟩, nilS_ok, nilS_ok, nilS_ok, nilS_ok, nilS_ok, nilS_ok, nilS_ok⟩
  obtain rfl : a = taPers g1 g2 own0 er := by simpa [persC] using ha
  refine ⟨hsz _ (by simp [taPers]), her, i0, ⟨rAt_block (enc := encCo) (m := 7) (fun _ => rfl) h.b2 rfl, (fun e => by cases e), Nat.le_refl _, (by show 2 ≤ maxLen; decide), fun x hx => ?_⟩⟩
  have hx2 : x = coId own0 ∨ x = coMail g1 := by simpa [taPers] using hx
  rcases hx2 with rfl | rfl
  · exact ⟨hsz _ (by simp [coId]), hsz _ (by simp [coId]), hsz _ (by simp [coId]), i1, i0, i0, ho⟩
  · exact ⟨hsz _ (by simp [coMail]), hsz _ (by simp [coMail]), hsz _ (by simp [coMail]), i2, i0, i0, ⟨rAt_block (enc := encInt) (m := 1) (fun _ => rfl) h.b1 rfl, (fun e => by cases e), Nat.le_refl _, (by show 1 ≤ maxLen; decide), fun n hn => by
      obtain rfl : n = 0 := by simpa [coMail] using hn
      exact i0⟩⟩
theorem persC_sml (g1 g2 g3 : Nat) (own0 : SL Int) (er : Int) (ho : own0.l.length ≤ 100) : (persC g1 g2 g3 own0 er).Sml := by
  refine ⟨by simp [persC], ?_, ?_, by simp [persC, nilS], ?_, ?_, ?_, ?_, by simp [persC, nilS], by simp [persC, nilS], by simp [persC, nilS], by simp [persC, nilS], by simp [persC, nilS], by simp [persC, nilS], ?_⟩
  · intro t ht
    obtain rfl : t = taPers g1 g2 own0 er := by simpa [persC] using ht
    simp [taPers]
  · intro t ht x hx
    obtain rfl : t = taPers g1 g2 own0 er := by simpa [persC] using ht
    have hx2 : x = coId own0 ∨ x = coMail g1 := by simpa [taPers] using hx
    rcases hx2 with rfl | rfl
    · exact ho
    · simp [coMail]
  all_goals
    intro v hv
    simp [persC, nilS] at hv
theorem pers_chk0 (g1 g2 g3 : Nat) : (persC g1 g2 g3 nilS 0).chk = (0, 0) := by kernel_rfl
theorem pers_chk1 (g1 g2 g3 k : Nat) : (persC g1 g2 g3 ⟨some ⟨k, 0, none⟩, 1, [0]⟩ 0).chk = (0, 1) := by kernel_rfl
theorem pers_chk2 (g1 g2 g3 k : Nat) : (persC g1 g2 g3 ⟨some ⟨k, 0, none⟩, 1, [0]⟩ 1).chk = (0, 0) := by kernel_rfl
theorem pers_cols (g1 g2 g3 : Nat) : (persC g1 g2 g3 nilS 0).tcols 0 = ⟨some ⟨g2, 0, none⟩, 2, [coId nilS, coMail g1]⟩ := by
  have h := tcols_at (c := persC g1 g2 g3 nilS 0) (m := 0) (by simp [persC]) (by rw [pers_chk0])
  exact h
theorem pers_pers (g1 : Nat) : persI 0 [coId nilS, coMail g1] = [1] := rfl
theorem pers_fix (g1 : Nat) : fixI [coId nilS, coMail g1] = [0] := rfl
end Go.Proofs.YtjnhighilmchaaaGreatDoor
