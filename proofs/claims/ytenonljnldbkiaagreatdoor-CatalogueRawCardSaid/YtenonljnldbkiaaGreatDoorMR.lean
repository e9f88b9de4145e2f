/- The laws of layer 4: person, checks. -/
import Derived.Test.YtenonljnldbkiaaGreatDoorDu
import Derived.Test.YtenonljnldbkiaaGreatDoorDv
import Derived.BigQuiet
namespace Go.Proofs.YtenonljnldbkiaaGreatDoor
open Go.RowKit Go.Proofs.EB Go.Proofs.TX
set_option maxHeartbeats 4000000
set_option maxRecDepth 100000
attribute [local go_sem] World.cell?_alloc_some

theorem checks_any (c : Cat) (hs : c.Sml) (w : World) (hops : Ops w) (hcat : CatAt w w.heap.size c) : Calls Tryz.prog 10 #[c.val] w (Gives (.bool true) w) := by
  have hb1 := al1 w (.cells #[.slice c.ts.ao c.ts.l.length c.ts.cap, .slice c.vs.ao c.vs.l.length c.vs.cap, .slice c.xs.ao c.xs.l.length c.xs.cap, .slice c.ks.ao c.ks.l.length c.ks.cap, .slice c.hs.ao c.hs.l.length c.hs.cap, .slice c.rs.ao c.rs.l.length c.rs.cap, .slice c.ms.ao c.ms.l.length c.ms.cap, .slice c.bs.ao c.bs.l.length c.bs.cap] 31)
  have hg1 := alloc_new w (.cells #[.slice c.ts.ao c.ts.l.length c.ts.cap, .slice c.vs.ao c.vs.l.length c.vs.cap, .slice c.xs.ao c.xs.l.length c.xs.cap, .slice c.ks.ao c.ks.l.length c.ks.cap, .slice c.hs.ao c.hs.l.length c.hs.cap, .slice c.rs.ao c.rs.l.length c.rs.cap, .slice c.ms.ao c.ms.l.length c.ms.cap, .slice c.bs.ao c.bs.l.length c.bs.cap] 31)
  obtain ⟨W1, hW1⟩ : ∃ W1, W1 = w.alloc (.cells #[.slice c.ts.ao c.ts.l.length c.ts.cap, .slice c.vs.ao c.vs.l.length c.vs.cap, .slice c.xs.ao c.xs.l.length c.xs.cap, .slice c.ks.ao c.ks.l.length c.ks.cap, .slice c.hs.ao c.hs.l.length c.hs.cap, .slice c.rs.ao c.rs.l.length c.rs.cap, .slice c.ms.ao c.ms.l.length c.ms.cap, .slice c.bs.ao c.bs.l.length c.bs.cap] 31) := ⟨_, rfl⟩
  rw [← hW1] at hb1 hg1
  have HD := Lib.hid (fun (W : World) (hb : Below W1.heap.size W1 W) => (⟨boxC (c := c) (keep_box hb hg1), bt hb1 hb⟩ : _ ∧ Below w.heap.size w W))
  have h1 := fun (W : World) (hW : Below w.heap.size w W) => Check_any c hs W (hops.below hW) (hcat.later hW)
  have h2 := fun (W : World) (hW : Below w.heap.size w W) => rCheck_any c hs W (hcat.later hW)
  have h3 := fun (W : World) (hW : Below w.heap.size w W) => Valid_any c hs W (hops.below hW) (hcat.later hW)
  obtain ⟨p1, hp1⟩ : ∃ p, c.chk.1 = p := ⟨_, rfl⟩
  obtain ⟨p2, hp2⟩ : ∃ p, c.chk.2 = p := ⟨_, rfl⟩
  rw [hp1, hp2] at h1 h2
  rw [hp2] at h3
  have H1 := Lib.hid h1
  have H2 := Lib.hid h2
  have H3 := Lib.hid h3
  have HW1 := Lib.hid hW1
  obtain ⟨⟨d1, d2, d3, d4, d5, d6, d7, d8⟩, hP1⟩ := HD.out W1 (Below.refl _ _)
  have HP1 := Lib.hid hP1
  clear h1 h2 h3 hp1 hp2 hW1 hb1 hg1 hP1 hs hops hcat
  unfold Cat.val at *
  cases hz : (p2 == 0)
  all_goals
    rw [hz] at H3
    go_enter Tryz.func10, Tryz.ntmps10
    go_upto_region 1 with fail
    rw [← HW1.out]
    go_wp2_with fail
    refine (H1.out W1 HP1.out).mono ?_
    rintro e w2 ⟨rfl, hb2⟩
    obtain ⟨⟨e1, e2, e3, e4, e5, e6, e7, e8⟩, hP2⟩ := HD.out w2 hb2
    have HP2 := Lib.hid hP2
    have HB2 := Lib.hid hb2
    clear hb2 hP2
    go_wp2_with fail
    refine (H2.out w2 HP2.out).mono ?_
    rintro e w3 ⟨rfl, hb3⟩
    obtain ⟨⟨f1, f2, f3, f4, f5, f6, f7, f8⟩, hP3⟩ := HD.out w3 (bt HB2.out hb3)
    have HP3 := Lib.hid hP3
    clear hb3 hP3
    go_wp2_with fail
    refine (H3.out w3 HP3.out).mono ?_
    rintro e w4 ⟨rfl, hb4⟩
    have HP4 := Lib.hid (bt HP3.out hb4)
    clear hb4
    go_wp2_with fail
    go_ret
    exact ⟨rfl, HP4.out⟩
def sPerson : ByteArray := ⟨#[112, 101, 114, 115, 111, 110]⟩
def persCols (g1 : Nat) (own0 : Value) : Array Value := #[.string ⟨#[105, 100]⟩, .int .i64 1, .string sPerson, .string ⟨#[]⟩, own0, .int .i64 0, .int .i64 0, .string ⟨#[109, 97, 105, 108]⟩, .int .i64 2, .string ⟨#[]⟩, .string ⟨#[]⟩, .slice (some ⟨g1, 0, none⟩) 1 1, .int .i64 0, .int .i64 0]
def persTabs (g2 : Nat) (er : Int) : Array Value := #[.string sPerson, .slice (some ⟨g2, 0, none⟩) 2 2, .int .i64 er, .int .i64 0]
structure PersB (w : World) (g1 g2 g3 : Nat) (own0 : Value) (er : Int) : Prop where
  b1 : w.heap[g1]? = some (.cells #[.int .i64 0] 3 (0, 0))
  b2 : w.heap[g2]? = some (.cells (persCols g1 own0) 52 (0, 0))
  b3 : w.heap[g3]? = some (.cells (persTabs g2 er) 50 (0, 0))
def persV (g3 : Nat) : Value := .agg #[.slice (some ⟨g3, 0, none⟩) 1 1, .slice none 0 0, .slice none 0 0, .slice none 0 0, .slice none 0 0, .slice none 0 0, .slice none 0 0, .slice none 0 0]
def PersP (w : World) (e : Ending) (w' : World) : Prop := e = .returned (persV (w.heap.size + 3)) ∧ PersB w' (w.heap.size + 1) (w.heap.size + 2) (w.heap.size + 3) (.slice none 0 0) 0 ∧ w'.heap.size = w.heap.size + 4 ∧ Below w.heap.size w w'
theorem alloc4 (w : World) (a b c d : Obj) : ((((w.alloc a).alloc b).alloc c).alloc d).heap[w.heap.size]? = some a ∧ ((((w.alloc a).alloc b).alloc c).alloc d).heap[w.heap.size + 1]? = some b ∧ ((((w.alloc a).alloc b).alloc c).alloc d).heap[w.heap.size + 2]? = some c ∧ ((((w.alloc a).alloc b).alloc c).alloc d).heap[w.heap.size + 3]? = some d ∧ ((((w.alloc a).alloc b).alloc c).alloc d).heap.size = w.heap.size + 4 ∧ Below w.heap.size w ((((w.alloc a).alloc b).alloc c).alloc d) := by
  obtain ⟨h1, h2⟩ := two_new w a b
  have s2 : ((w.alloc a).alloc b).heap.size = w.heap.size + 2 := by rw [alloc_size, alloc_size]
  obtain ⟨h3, h4⟩ := two_new ((w.alloc a).alloc b) c d
  rw [s2] at h3 h4
  have hb : Below ((w.alloc a).alloc b).heap.size ((w.alloc a).alloc b) ((((w.alloc a).alloc b).alloc c).alloc d) := bt (al1 _ _) (al1 _ _)
  exact ⟨keep_box hb h1, keep_box hb h2, h3, h4, by rw [alloc_size, alloc_size, s2], bt (bt (al1 _ _) (al1 _ _)) hb⟩
theorem person_any (w : World) : Calls Tryz.prog 26 #[] w (PersP w) := by
  obtain ⟨h1, h2, h3, h4, h5, h6⟩ := alloc4 w (.cells #[.slice (some ⟨w.heap.size + 3, 0, none⟩) 1 1, .slice none 0 0, .slice none 0 0, .slice none 0 0, .slice none 0 0, .slice none 0 0, .slice none 0 0, .slice none 0 0] 31) (.cells #[.int .i64 0] 3) (.cells (persCols (w.heap.size + 1) (.slice none 0 0)) 52) (.cells (persTabs (w.heap.size + 2) 0) 50)
  have c0 := box_at (i := 0) h1 rfl
  have c1 := box_at (i := 1) h1 rfl
  have c2 := box_at (i := 2) h1 rfl
  have c3 := box_at (i := 3) h1 rfl
  have c4 := box_at (i := 4) h1 rfl
  have c5 := box_at (i := 5) h1 rfl
  have c6 := box_at (i := 6) h1 rfl
  have c7 := box_at (i := 7) h1 rfl
  have HP : Hid (PersP w (.returned (persV (w.heap.size + 3))) _) := ⟨rfl, ⟨h2, h3, h4⟩, h5, h6⟩
  unfold persCols persTabs sPerson at c0 c1 c2 c3 c4 c5 c6 c7
  clear h1 h2 h3 h4 h5 h6
  go_enter Tryz.func26, Tryz.ntmps26
  go_wp2_with fail
  exact bodyPost_ret (v := persV (w.heap.size + 3)) (by simp [results, Tryz.results26, go_sem, c0, c1, c2, c3, c4, c5, c6, c7, persV]) rfl HP.out
end Go.Proofs.YtenonljnldbkiaaGreatDoor
/- The laws of layer 4: the catalogue of example 1, plain and in memory. -/
namespace Go.Proofs.YtenonljnldbkiaaGreatDoor
open Go.RowKit Go.Proofs.EB Go.Proofs.TX
set_option maxHeartbeats 4000000
set_option maxRecDepth 100000

def nilS {α : Type} : SL α := ⟨none, 0, []⟩
theorem nilS_ok {α : Type} {enc : α → List Value} {m : Nat} {P : World → Nat → α → Prop} {w : World} {B : Nat} : RdS enc m P w B (nilS : SL α) :=
  ⟨.inl rfl, fun _ => rfl, Nat.le_refl _, Nat.zero_le _, fun a ha => by cases ha⟩
def coId (own0 : SL Int) : Co := ⟨⟨#[105, 100]⟩, 1, sPerson, ⟨#[]⟩, own0, 0, 0⟩
def coMail (g1 : Nat) : Co := ⟨⟨#[109, 97, 105, 108]⟩, 2, ⟨#[]⟩, ⟨#[]⟩, ⟨some ⟨g1, 0, none⟩, 1, [0]⟩, 0, 0⟩
def taPers (g1 g2 : Nat) (own0 : SL Int) (er : Int) : Ta := ⟨sPerson, ⟨some ⟨g2, 0, none⟩, 2, [coId own0, coMail g1]⟩, er, 0⟩
def persC (g1 g2 g3 : Nat) (own0 : SL Int) (er : Int) : Cat := ⟨⟨some ⟨g3, 0, none⟩, 1, [taPers g1 g2 own0 er]⟩, nilS, nilS, nilS, nilS, nilS, nilS, nilS⟩
theorem persC_val (g1 g2 g3 : Nat) (own0 : SL Int) (er : Int) : (persC g1 g2 g3 own0 er).val = persV g3 := rfl
theorem persC_at {w : World} {g1 g2 g3 : Nat} {own0 : SL Int} {er : Int} (h : PersB w g1 g2 g3 (.slice own0.ao own0.l.length own0.cap) er) (ho : IntsS w w.heap.size own0) (her : i64B er) : CatAt w w.heap.size (persC g1 g2 g3 own0 er) := by
  have i0 : i64B 0 := ⟨by decide, by decide⟩
  have i1 : i64B 1 := ⟨by decide, by decide⟩
  have i2 : i64B 2 := ⟨by decide, by decide⟩
  have hsz : ∀ s ∈ [(⟨#[]⟩ : ByteArray), sPerson, ⟨#[105, 100]⟩, ⟨#[109, 97, 105, 108]⟩], s.size ≤ maxLen := by
    intro s hs
    simp only [List.mem_cons, List.not_mem_nil, or_false] at hs
    rcases hs with rfl | rfl | rfl | rfl <;> decide
  refine ⟨⟨rAt_block (enc := encTa) (m := 4) (fun _ => rfl) h.b3 rfl, (fun e => by cases e), Nat.le_refl _, (by show 1 ≤ maxLen; decide), fun a ha => ?_⟩, nilS_ok, nilS_ok, nilS_ok, nilS_ok, nilS_ok, nilS_ok, nilS_ok⟩
  obtain rfl : a = taPers g1 g2 own0 er := by simpa [persC] using ha
  refine ⟨hsz _ (by simp [taPers]), her, i0, ⟨rAt_block (enc := encCo) (m := 7) (fun _ => rfl) h.b2 rfl, (fun e => by cases e), Nat.le_refl _, (by show 2 ≤ maxLen; decide), fun x hx => ?_⟩⟩
  have hx2 : x = coId own0 ∨ x = coMail g1 := by simpa [taPers] using hx
  rcases hx2 with rfl | rfl
  · exact ⟨hsz _ (by simp [coId]), hsz _ (by simp [coId]), hsz _ (by simp [coId]), i1, i0, i0, ho⟩
  · exact ⟨hsz _ (by simp [coMail]), hsz _ (by simp [coMail]), hsz _ (by simp [coMail]), i2, i0, i0, ⟨rAt_block (enc := encInt) (m := 1) (fun _ => rfl) h.b1 rfl, (fun e => by cases e), Nat.le_refl _, (by show 1 ≤ maxLen; decide), fun n hn => by
      obtain rfl : n = 0 := by simpa [coMail] using hn
      exact i0⟩⟩
theorem persC_sml (g1 g2 g3 : Nat) (own0 : SL Int) (er : Int) (ho : own0.l.length ≤ 100) : (persC g1 g2 g3 own0 er).Sml := by
  refine ⟨by simp [persC], ?_, ?_, by simp [persC, nilS], ?_, ?_, ?_, ?_, by simp [persC, nilS], by simp [persC, nilS], by simp [persC, nilS], by simp [persC, nilS], by simp [persC, nilS], by simp [persC, nilS], ?_⟩
  · intro t ht
    obtain rfl : t = taPers g1 g2 own0 er := by simpa [persC] using ht
    simp [taPers]
  · intro t ht x hx
    obtain rfl : t = taPers g1 g2 own0 er := by simpa [persC] using ht
    have hx2 : x = coId own0 ∨ x = coMail g1 := by simpa [taPers] using hx
    rcases hx2 with rfl | rfl
    · exact ho
    · simp [coMail]
  all_goals
    intro v hv
    simp [persC, nilS] at hv
theorem pers_chk0 (g1 g2 g3 : Nat) : (persC g1 g2 g3 nilS 0).chk = (0, 0) := by kernel_rfl
theorem pers_chk1 (g1 g2 g3 k : Nat) : (persC g1 g2 g3 ⟨some ⟨k, 0, none⟩, 1, [0]⟩ 0).chk = (0, 1) := by kernel_rfl
theorem pers_chk2 (g1 g2 g3 k : Nat) : (persC g1 g2 g3 ⟨some ⟨k, 0, none⟩, 1, [0]⟩ 1).chk = (0, 0) := by kernel_rfl
theorem pers_cols (g1 g2 g3 : Nat) : (persC g1 g2 g3 nilS 0).tcols 0 = ⟨some ⟨g2, 0, none⟩, 2, [coId nilS, coMail g1]⟩ := by
  have h := tcols_at (c := persC g1 g2 g3 nilS 0) (m := 0) (by simp [persC]) (by rw [pers_chk0])
  exact h
theorem pers_pers (g1 : Nat) : persI 0 [coId nilS, coMail g1] = [1] := rfl
theorem pers_fix (g1 : Nat) : fixI [coId nilS, coMail g1] = [0] := rfl
end Go.Proofs.YtenonljnldbkiaaGreatDoor
/- The laws of layer 4: awake. -/
namespace Go.Proofs.YtenonljnldbkiaaGreatDoor
open Go.RowKit Go.Proofs.EB Go.Proofs.TX
set_option maxHeartbeats 4000000
set_option maxRecDepth 100000
attribute [local go_sem] World.cell?_alloc_some

def PersX (w : World) (e : Ending) (w' : World) : Prop := ∃ g1 g2 g3, e = .returned (.agg #[.slice (some ⟨g3, 0, none⟩) 1 1, .slice none 0 0, .slice none 0 0, .slice none 0 0, .slice none 0 0, .slice none 0 0, .slice none 0 0, .slice none 0 0]) ∧ PersB w' g1 g2 g3 (.slice none 0 0) 0 ∧ w.heap.size ≤ g1 ∧ g1 < g2 ∧ g2 < g3 ∧ g3 < w'.heap.size ∧ Below w.heap.size w w'
theorem person_ex (w : World) : Calls Tryz.prog 26 #[] w (PersX w) :=
  (person_any w).mono fun _ _ ⟨h1, h2, h3, h4⟩ => ⟨_, _, _, h1, h2, by omega, by omega, by omega, by omega, h4⟩
theorem PersB.keep {w w' : World} {g1 g2 g3 : Nat} {o : Value} {er : Int} (h : PersB w g1 g2 g3 o er) (hb : Below w.heap.size w w') : PersB w' g1 g2 g3 o er := ⟨keep_box hb h.b1, keep_box hb h.b2, keep_box hb h.b3⟩
theorem boxP {w : World} {g g3 : Nat} (h : w.heap[g]? = some (.cells #[.slice (some ⟨g3, 0, none⟩) 1 1, .slice none 0 0, .slice none 0 0, .slice none 0 0, .slice none 0 0, .slice none 0 0, .slice none 0 0, .slice none 0 0] 31 (0, 0))) : w.cell? ⟨g, 0, none⟩ = some (.slice (some ⟨g3, 0, none⟩) 1 1) ∧ w.cell? ⟨g, 1, none⟩ = some (.slice none 0 0) ∧ w.cell? ⟨g, 2, none⟩ = some (.slice none 0 0) ∧ w.cell? ⟨g, 3, none⟩ = some (.slice none 0 0) ∧ w.cell? ⟨g, 4, none⟩ = some (.slice none 0 0) ∧ w.cell? ⟨g, 5, none⟩ = some (.slice none 0 0) ∧ w.cell? ⟨g, 6, none⟩ = some (.slice none 0 0) ∧ w.cell? ⟨g, 7, none⟩ = some (.slice none 0 0) :=
  ⟨box_at (i := 0) h rfl, box_at (i := 1) h rfl, box_at (i := 2) h rfl, box_at (i := 3) h rfl, box_at (i := 4) h rfl, box_at (i := 5) h rfl, box_at (i := 6) h rfl, box_at (i := 7) h rfl⟩
theorem awake4_any (w : World) (hops : Ops w) : Calls Tryz.prog 9 #[] w (Gives (.bool true) w) := by
  have Hops := Lib.hid hops
  clear hops
  go_enter Tryz.func9, Tryz.ntmps9
  go_wp2_with fail
  refine (person_ex w).mono ?_
  rintro e w1 ⟨a1, a2, a3, rfl, hA, hA1, hA2, hA3, hA4, hb1⟩
  have hg2 := alloc_new w1 (.cells #[.slice (some ⟨a3, 0, none⟩) 1 1, .slice none 0 0, .slice none 0 0, .slice none 0 0, .slice none 0 0, .slice none 0 0, .slice none 0 0, .slice none 0 0] 31)
  have hal2 := al1 w1 (.cells #[.slice (some ⟨a3, 0, none⟩) 1 1, .slice none 0 0, .slice none 0 0, .slice none 0 0, .slice none 0 0, .slice none 0 0, .slice none 0 0, .slice none 0 0] 31)
  obtain ⟨W2, hW2⟩ : ∃ W2, W2 = w1.alloc (.cells #[.slice (some ⟨a3, 0, none⟩) 1 1, .slice none 0 0, .slice none 0 0, .slice none 0 0, .slice none 0 0, .slice none 0 0, .slice none 0 0, .slice none 0 0] 31) := ⟨_, rfl⟩
  rw [← hW2] at hg2 hal2
  have hP2 := bt hb1 hal2
  have hA' := hA.keep hal2
  have HW2 := Lib.hid hW2
  have HA := Lib.hid hA'
  have HP2 := Lib.hid hP2
  have HG2 := Lib.hid hg2
  have hsz2 := hal2.size
  clear hW2 hA hA' hal2 hP2 hb1 hg2
  go_wp2_with fail
  rw [← HW2.out]
  refine (person_ex W2).mono ?_
  rintro e w3 ⟨d1, d2, d3, rfl, hD, hD1, hD2, hD3, hD4, hb3⟩
  have hg4 := alloc_new w3 (.cells #[.slice (some ⟨d3, 0, none⟩) 1 1, .slice none 0 0, .slice none 0 0, .slice none 0 0, .slice none 0 0, .slice none 0 0, .slice none 0 0, .slice none 0 0] 31)
  have hal4 := al1 w3 (.cells #[.slice (some ⟨d3, 0, none⟩) 1 1, .slice none 0 0, .slice none 0 0, .slice none 0 0, .slice none 0 0, .slice none 0 0, .slice none 0 0, .slice none 0 0] 31)
  obtain ⟨W4, hW4⟩ : ∃ W4, W4 = w3.alloc (.cells #[.slice (some ⟨d3, 0, none⟩) 1 1, .slice none 0 0, .slice none 0 0, .slice none 0 0, .slice none 0 0, .slice none 0 0, .slice none 0 0, .slice none 0 0] 31) := ⟨_, rfl⟩
  rw [← hW4] at hg4 hal4
  have hD' := hD.keep hal4
  have hP4 := bt hb3 hal4
  have hs4 := hal4.size
  have hsw4 : w3.heap.size < W4.heap.size := (Array.getElem?_eq_some_iff.1 hg4).1
  -- the store of the owners
  have hal5 := al1 W4 (.cells #[.int .i64 0] 3)
  have hg5 := alloc_new W4 (.cells #[.int .i64 0] 3)
  have hD5 := hD'.keep hal5
  obtain ⟨W6, hW6⟩ : ∃ W6, W6 = (W4.alloc (.cells #[.int .i64 0] 3)).setCell ⟨d2, 4, none⟩ (.slice (some ⟨W4.heap.size, 0, none⟩) 1 1) := ⟨_, rfl⟩
  have hx5 : (W4.alloc (.cells #[.int .i64 0] 3)).frozen? ⟨d2, 4, none⟩ = false := frozen_box hD5.b2
  have hy5 : (W4.alloc (.cells #[.int .i64 0] 3)).cell? ⟨d2, 4, none⟩ = some (.slice none 0 0) := box_at hD5.b2 rfl
  have h5d : Below d2 W4 (W4.alloc (.cells #[.int .i64 0] 3)) := hal5.mono (by omega)
  have hb64 : Below d2 W4 W6 := by rw [hW6]; exact h5d.setCell (Nat.le_refl _) _
  have hoth : ∀ k, k ≠ d2 → W6.heap[k]? = (W4.alloc (.cells #[.int .i64 0] 3)).heap[k]? := fun k hk => by rw [hW6, Below.heap_setCell _ _ _ _ hk]
  have hD6 : PersB W6 d1 d2 d3 (.slice (some ⟨W4.heap.size, 0, none⟩) 1 1) 0 := by
    refine ⟨by rw [hoth _ (by omega)]; exact hD5.b1, ?_, by rw [hoth _ (by omega)]; exact hD5.b3⟩
    rw [hW6, heap_setCell_same _ d2 4 _ _ _ hD5.b2]; rfl
  have hk6 : W6.heap[W4.heap.size]? = some (.cells #[.int .i64 0] 3 (0, 0)) := by rw [hoth _ (by omega)]; exact hg5
  have hbx6 : W6.heap[w3.heap.size]? = some (.cells #[.slice (some ⟨d3, 0, none⟩) 1 1, .slice none 0 0, .slice none 0 0, .slice none 0 0, .slice none 0 0, .slice none 0 0, .slice none 0 0, .slice none 0 0] 31 (0, 0)) := by rw [hoth _ (by omega), hal5.block _ hsw4]; exact hg4
  have hA6 : PersB W6 a1 a2 a3 (.slice none 0 0) 0 := by
    have h1 := HA.out.keep hP4
    have h2 := h1.keep hal5
    exact ⟨by rw [hoth _ (by omega)]; exact h2.b1, by rw [hoth _ (by omega)]; exact h2.b2, by rw [hoth _ (by omega)]; exact h2.b3⟩
  have hbx6a : W6.heap[w1.heap.size]? = some (.cells #[.slice (some ⟨a3, 0, none⟩) 1 1, .slice none 0 0, .slice none 0 0, .slice none 0 0, .slice none 0 0, .slice none 0 0, .slice none 0 0, .slice none 0 0] 31 (0, 0)) := by
    have h1 := keep_box hP4 HG2.out
    have h2 := keep_box hal5 h1
    have h3 := (Array.getElem?_eq_some_iff.1 HG2.out).1
    rw [hoth _ (by omega)]; exact h2
  have hw6 : Below w.heap.size w W6 := (bt HP2.out hP4).trans (hb64.mono (by have := HP2.out.size; omega))
  have e1 := (boxP hg4).1
  have e2 : W4.cell? ⟨d3, 1, none⟩ = some (.slice (some ⟨d2, 0, none⟩) 2 2) := box_at hD'.b3 rfl
  have hint : ∀ W, W.heap[W4.heap.size]? = some (.cells #[.int .i64 0] 3 (0, 0)) → IntsS W W.heap.size ⟨some ⟨W4.heap.size, 0, none⟩, 1, [0]⟩ := fun W h => ⟨rAt_block (enc := encInt) (m := 1) (fun _ => rfl) h rfl, (fun e => by cases e), Nat.le_refl _, (by show 1 ≤ maxLen; decide), fun n hn => by
    obtain rfl : n = 0 := by simpa using hn
    exact ⟨by decide, by decide⟩⟩
  have hCk := Check_any (persC d1 d2 d3 ⟨some ⟨W4.heap.size, 0, none⟩, 1, [0]⟩ 0) (persC_sml _ _ _ _ _ (by simp)) W6 (Hops.out.below hw6) (persC_at hD6 (hint _ hk6) ⟨by decide, by decide⟩)
  rw [pers_chk1, persC_val] at hCk
  unfold persV at hCk
  have HCk := Lib.hid hCk
  have HW4 := Lib.hid hW4
  have HW6 := Lib.hid hW6
  have HD6 := Lib.hid hD6
  have HA6 := Lib.hid hA6
  have Hk6 := Lib.hid hk6
  have Hw6 := Lib.hid hw6
  have Hbx6 := Lib.hid hbx6
  have Hbx6a := Lib.hid hbx6a
  have Hint := Lib.hid hint
  have hszk : W4.heap.size < W6.heap.size := (Array.getElem?_eq_some_iff.1 hk6).1
  have hne1 : w1.heap.size ≠ d3 := by have h3 := (Array.getElem?_eq_some_iff.1 HG2.out).1; omega
  have hne2 : w3.heap.size ≠ d3 := by omega
  have hne3 : W4.heap.size ≠ d3 := by omega
  have hne4 : a3 < d2 := by omega
  have hlow : w.heap.size ≤ d3 := by have := HP2.out.size; omega
  obtain ⟨K, hK⟩ : ∃ K, K = W4.heap.size := ⟨_, rfl⟩
  clear h5d hCk hW4 hW6 hD6 hA6 hk6 hw6 hbx6 hbx6a hint hoth hb64 hal5 hg5 hD5 hD' hD hal4 hb3 hP4 hK HA HP2
  have e0 := boxP hg4
  clear hg4
  go_upto_region 3 with fail
  rw [← HW4.out]
  go_upto_region 4 with fail
  rw [← HW6.out]
  obtain ⟨c0, c1, c2, c3, c4, c5, c6, c7⟩ := boxP Hbx6.out
  clear e0 e1 e2 hx5 hy5
  go_wp2_with fail
  refine HCk.out.mono ?_
  rintro e w7 ⟨rfl, hb7⟩
  have hD7 := HD6.out.keep hb7
  have hx7 : w7.frozen? ⟨d3, 2, none⟩ = false := frozen_box hD7.b3
  have hy7 : w7.cell? ⟨d3, 2, none⟩ = some (.int .i64 0) := box_at hD7.b3 rfl
  have hbxd7 := keep_box hb7 Hbx6.out
  have k0 := (boxP hbxd7).1
  obtain ⟨W8, hW8⟩ : ∃ W8, W8 = w7.setCell ⟨d3, 2, none⟩ (.int .i64 1) := ⟨_, rfl⟩
  have hoth : ∀ k, k ≠ d3 → W8.heap[k]? = w7.heap[k]? := fun k hk => by rw [hW8, Below.heap_setCell _ _ _ _ hk]
  have hD8 : PersB W8 d1 d2 d3 (.slice (some ⟨W4.heap.size, 0, none⟩) 1 1) 1 := by
    refine ⟨by rw [hoth _ (by omega)]; exact hD7.b1, by rw [hoth _ (by omega)]; exact hD7.b2, ?_⟩
    rw [hW8, heap_setCell_same _ d3 2 _ _ _ hD7.b3]; rfl
  have hA8 : PersB W8 a1 a2 a3 (.slice none 0 0) 0 := by
    have h2 := HA6.out.keep hb7
    exact ⟨by rw [hoth _ (by omega)]; exact h2.b1, by rw [hoth _ (by omega)]; exact h2.b2, by rw [hoth _ (by omega)]; exact h2.b3⟩
  have hk8 : W8.heap[W4.heap.size]? = some (.cells #[.int .i64 0] 3 (0, 0)) := by rw [hoth _ hne3]; exact keep_box hb7 Hk6.out
  have hbd8 : W8.heap[w3.heap.size]? = some (.cells #[.slice (some ⟨d3, 0, none⟩) 1 1, .slice none 0 0, .slice none 0 0, .slice none 0 0, .slice none 0 0, .slice none 0 0, .slice none 0 0, .slice none 0 0] 31 (0, 0)) := by rw [hoth _ hne2]; exact hbxd7
  have hba8 : W8.heap[w1.heap.size]? = some (.cells #[.slice (some ⟨a3, 0, none⟩) 1 1, .slice none 0 0, .slice none 0 0, .slice none 0 0, .slice none 0 0, .slice none 0 0, .slice none 0 0, .slice none 0 0] 31 (0, 0)) := by rw [hoth _ hne1]; exact keep_box hb7 Hbx6a.out
  have hw8 : Below w.heap.size w W8 := by rw [hW8]; exact (bt Hw6.out hb7).setCell hlow _
  have HC := Lib.hid (fun (W : World) (hb : Below W8.heap.size W8 W) => (⟨boxP (keep_box hb hba8), boxP (keep_box hb hbd8), bt hw8 hb⟩ : _ ∧ _ ∧ Below w.heap.size w W))
  have hV0 := fun (W : World) (hb : Below W8.heap.size W8 W) => Valid_any (persC a1 a2 a3 nilS 0) (persC_sml _ _ _ _ _ (by simp [nilS])) W (Hops.out.below (bt hw8 hb)) (persC_at (hA8.keep hb) nilS_ok ⟨by decide, by decide⟩)
  have hP0 := fun (W : World) (hb : Below W8.heap.size W8 W) => Personal_any (persC a1 a2 a3 nilS 0) (persC_sml _ _ _ _ _ (by simp [nilS])) 0 W (Hops.out.below (bt hw8 hb)) (persC_at (hA8.keep hb) nilS_ok ⟨by decide, by decide⟩)
  have hF0 := fun (W : World) (hb : Below W8.heap.size W8 W) => Fixed_any (persC a1 a2 a3 nilS 0) (persC_sml _ _ _ _ _ (by simp [nilS])) 0 W (Hops.out.below (bt hw8 hb)) (persC_at (hA8.keep hb) nilS_ok ⟨by decide, by decide⟩)
  have hV1 := fun (W : World) (hb : Below W8.heap.size W8 W) => Valid_any (persC d1 d2 d3 ⟨some ⟨W4.heap.size, 0, none⟩, 1, [0]⟩ 1) (persC_sml _ _ _ _ _ (by simp)) W (Hops.out.below (bt hw8 hb)) (persC_at (hD8.keep hb) (Hint.out _ (keep_box hb hk8)) ⟨by decide, by decide⟩)
  rw [pers_chk0, persC_val] at hV0
  rw [pers_cols, pers_pers, persC_val] at hP0
  rw [pers_cols, pers_fix, persC_val] at hF0
  rw [pers_chk2, persC_val] at hV1
  unfold persV at hV0 hP0 hF0 hV1
  have HV0 := Lib.hid hV0
  have HP0 := Lib.hid hP0
  have HF0 := Lib.hid hF0
  have HV1 := Lib.hid hV1
  have HW8 := Lib.hid hW8
  clear hV0 hP0 hF0 hV1 hW8 hw8 hba8 hbd8 hk8 hA8 hD8 hoth hbxd7 hD7 hb7 c0 c1 c2 c3 c4 c5 c6 c7 HCk Hbx6 Hbx6a HD6 HA6 Hk6 Hw6
  go_upto_region 6 with fail
  rw [← HW8.out]
  obtain ⟨⟨c0, c1, c2, c3, c4, c5, c6, c7⟩, _, _⟩ := HC.out W8 (Below.refl _ _)
  clear hx7 hy7 k0
  go_wp2_with fail
  refine (HV0.out W8 (Below.refl _ _)).mono ?_
  rintro e w9 ⟨rfl, hb9⟩
  have HB9 := Lib.hid hb9
  clear hb9 c0 c1 c2 c3 c4 c5 c6 c7
  obtain ⟨⟨c0, c1, c2, c3, c4, c5, c6, c7⟩, _, _⟩ := HC.out w9 HB9.out
  go_wp2_with fail
  refine (HP0.out w9 HB9.out).mono ?_
  rintro e wp ⟨ap, cp, rfl, hrp, _, _, _, hbp, _⟩
  have hrp2 := hrp.later (al1 wp (.cells #[.int .i64 1] 3))
  have hS1 : Calls Tryz.prog 28 #[.slice ap 1 cp, .slice (some ⟨wp.heap.size, 0, none⟩) 1 1] (wp.alloc (.cells #[.int .i64 1] 3)) (Gives (.bool true) (wp.alloc (.cells #[.int .i64 1] 3))) := sameInts_refl ap (some ⟨wp.heap.size, 0, none⟩) cp 1 [1] (by show 1 ≤ maxLen; decide) _ hrp2 (rAt_block (enc := encInt) (m := 1) (fun _ => rfl) (alloc_new _ _) rfl)
  have HS1 := Lib.hid hS1
  have HBp := Lib.hid (bt (bt HB9.out hbp) (al1 wp (.cells #[.int .i64 1] 3)))
  clear hrp hrp2 hS1 hbp c0 c1 c2 c3 c4 c5 c6 c7
  go_wp2_with fail
  refine HS1.out.mono ?_
  rintro e wq ⟨rfl, hbq⟩
  have HBq := Lib.hid (bt HBp.out hbq)
  clear hbq
  obtain ⟨⟨c0, c1, c2, c3, c4, c5, c6, c7⟩, _, _⟩ := HC.out wq HBq.out
  go_wp2_with fail
  refine (HF0.out wq HBq.out).mono ?_
  rintro e wf ⟨af, cf, rfl, hrf, _, _, _, hbf, _⟩
  have hrf2 := hrf.later (al1 wf (.cells #[.int .i64 0] 3))
  have hS2 : Calls Tryz.prog 28 #[.slice af 1 cf, .slice (some ⟨wf.heap.size, 0, none⟩) 1 1] (wf.alloc (.cells #[.int .i64 0] 3)) (Gives (.bool true) (wf.alloc (.cells #[.int .i64 0] 3))) := sameInts_refl af (some ⟨wf.heap.size, 0, none⟩) cf 1 [0] (by show 1 ≤ maxLen; decide) _ hrf2 (rAt_block (enc := encInt) (m := 1) (fun _ => rfl) (alloc_new _ _) rfl)
  have HS2 := Lib.hid hS2
  have HBf := Lib.hid (bt (bt HBq.out hbf) (al1 wf (.cells #[.int .i64 0] 3)))
  clear hrf hrf2 hS2 hbf c0 c1 c2 c3 c4 c5 c6 c7
  go_wp2_with fail
  refine HS2.out.mono ?_
  rintro e wg ⟨rfl, hbg⟩
  have HBg := Lib.hid (bt HBf.out hbg)
  clear hbg
  obtain ⟨_, ⟨c0, c1, c2, c3, c4, c5, c6, c7⟩, _⟩ := HC.out wg HBg.out
  go_wp2_with fail
  refine (HV1.out wg HBg.out).mono ?_
  rintro e wh ⟨rfl, hbh⟩
  have Hfin := Lib.hid (HC.out wh (bt HBg.out hbh)).2.2
  clear hbh
  go_wp2_with fail
  go_ret
  exact ⟨rfl, Hfin.out⟩
end Go.Proofs.YtenonljnldbkiaaGreatDoor
