/- The laws of layer 4: person, checks. -/
import Derived.Test.YtjnhighilmchaaaGreatDoorDu
import Derived.Test.YtjnhighilmchaaaGreatDoorDv
import Derived.BigQuiet
namespace Go.Proofs.YtjnhighilmchaaaGreatDoor
open Go.RowKit Go.Proofs.EB Go.Proofs.TX
set_option maxHeartbeats 4000000
set_option maxRecDepth 100000
attribute [local go_sem] World.cell?_alloc_some

theorem checks_any (c : Cat) (hs : c.Sml) (w : World) (hops : Ops w) (hcat : CatAt w w.heap.size c) : Calls Tryz.prog 11 #[c.val] w (Gives (.bool true) w) := by
  have hb1 := al1 w (.cells #[.slice c.ts.ao c.ts.l.length c.ts.cap, .slice c.vs.ao c.vs.l.length c.vs.cap, .slice c.xs.ao c.xs.l.length c.xs.cap, .slice c.ks.ao c.ks.l.length c.ks.cap, .slice c.hs.ao c.hs.l.length c.hs.cap, .slice c.rs.ao c.rs.l.length c.rs.cap, .slice c.ms.ao c.ms.l.length c.ms.cap, .slice c.bs.ao c.bs.l.length c.bs.cap] 31)
  have hg1 := alloc_new w (.cells #[.slice c.ts.ao c.ts.l.length c.ts.cap, .slice c.vs.ao c.vs.l.length c.vs.cap, .slice c.xs.ao c.xs.l.length c.xs.cap, .slice c.ks.ao c.ks.l.length c.ks.cap, .slice c.hs.ao c.hs.l.length c.hs.cap, .slice c.rs.ao c.rs.l.length c.rs.cap, .slice c.ms.ao c.ms.l.length c.ms.cap, .slice c.bs.ao c.bs.l.length c.bs.cap] 31)
  obtain ⟨W1, hW1⟩ : ∃ W1, W1 = w.alloc (.cells #[.slice c.ts.ao c.ts.l.length c.ts.cap, .slice c.vs.ao c.vs.l.length c.vs.cap, .slice c.xs.ao c.xs.l.length c.xs.cap, .slice c.ks.ao c.ks.l.length c.ks.cap, .slice c.hs.ao c.hs.l.length c.hs.cap, .slice c.rs.ao c.rs.l.length c.rs.cap, .slice c.ms.ao c.ms.l.length c.ms.cap, .slice c.bs.ao c.bs.l.length c.bs.cap] 31) := ⟨_, rfl⟩
  rw [← hW1] at hb1 hg1
  have HD := Lib.hid (fun (W : World) (hb : Below W1.heap.size W1 W) => (⟨boxC (c := c) (keep_box hb hg1), bt hb1 hb⟩ : _ ∧ Below w.heap.size w W))
  have h1 := fun (W : World) (hW : Below w.heap.size w W) => Check_any c hs W (hops.below hW) (hcat.later hW)
  have h2 := fun (W : World) (hW : Below w.heap.size w W) => rCheck_any c hs W (hcat.later hW)
  have h3 := fun (W : World) (hW : Below w.heap.size w W) => Valid_any c hs W (hops.below hW) (hcat.later hW)
  obtain ⟨p1, hp1⟩ : ∃ p, c.chk.1 = p := ⟨_, rfl⟩
  obtain ⟨p2, hp2⟩ : ∃ p, c.chk.2 = p := ⟨_, rfl⟩
  rw [hp1, hp2] at h1 h2
  rw [hp2] at h3
  have H1 := Lib.hid h1
  have H2 := Lib.hid h2
  have H3 := Lib.hid h3
  have HW1 := Lib.hid hW1
  obtain ⟨⟨d1, d2, d3, d4, d5, d6, d7, d8⟩, hP1⟩ := HD.out W1 (Below.refl _ _)
  have HP1 := Lib.hid hP1
  clear h1 h2 h3 hp1 hp2 hW1 hb1 hg1 hP1 hs hops hcat
  unfold Cat.val at *
  cases hz : (p2 == 0)
  all_goals
    rw [hz] at H3
    go_enter Tryz.func11, Tryz.ntmps11
    go_upto_region 1 with fail
    rw [← HW1.out]
    go_wp2_with fail
    refine (H1.out W1 HP1.out).mono ?_
    rintro e w2 ⟨rfl, hb2⟩
    obtain ⟨⟨e1, e2, e3, e4, e5, e6, e7, e8⟩, hP2⟩ := HD.out w2 hb2
    have HP2 := Lib.hid hP2
    have HB2 := Lib.hid hb2
    clear hb2 hP2
    go_wp2_with fail
    refine (H2.out w2 HP2.out).mono ?_
    rintro e w3 ⟨rfl, hb3⟩
    obtain ⟨⟨f1, f2, f3, f4, f5, f6, f7, f8⟩, hP3⟩ := HD.out w3 (bt HB2.out hb3)
    have HP3 := Lib.hid hP3
    clear hb3 hP3
    go_wp2_with fail
    refine (H3.out w3 HP3.out).mono ?_
    rintro e w4 ⟨rfl, hb4⟩
    have HP4 := Lib.hid (bt HP3.out hb4)
    clear hb4
    go_wp2_with fail
    go_ret
    exact ⟨rfl, HP4.out⟩
def sPerson : ByteArray := ⟨#[112, 101, 114, 115, 111, 110]⟩
def persCols (g1 : Nat) (own0 : Value) : Array Value := #[.string ⟨#[105, 100]⟩, .int .i64 1, .string sPerson, .string ⟨#[]⟩, own0, .int .i64 0, .int .i64 0, .string ⟨#[109, 97, 105, 108]⟩, .int .i64 2, .string ⟨#[]⟩, .string ⟨#[]⟩, .slice (some ⟨g1, 0, none⟩) 1 1, .int .i64 0, .int .i64 0]
def persTabs (g2 : Nat) (er : Int) : Array Value := #[.string sPerson, .slice (some ⟨g2, 0, none⟩) 2 2, .int .i64 er, .int .i64 0]
structure PersB (w : World) (g1 g2 g3 : Nat) (own0 : Value) (er : Int) : Prop where
  b1 : w.heap[g1]? = some (.cells #[.int .i64 0] 3 (0, 0))
  b2 : w.heap[g2]? = some (.cells (persCols g1 own0) 39 (0, 0))
  b3 : w.heap[g3]? = some (.cells (persTabs g2 er) 42 (0, 0))
def persV (g3 : Nat) : Value := .agg #[.slice (some ⟨g3, 0, none⟩) 1 1, .slice none 0 0, .slice none 0 0, .slice none 0 0, .slice none 0 0, .slice none 0 0, .slice none 0 0, .slice none 0 0]
def PersP (w : World) (e : Ending) (w' : World) : Prop := e = .returned (persV (w.heap.size + 3)) ∧ PersB w' (w.heap.size + 1) (w.heap.size + 2) (w.heap.size + 3) (.slice none 0 0) 0 ∧ w'.heap.size = w.heap.size + 4 ∧ Below w.heap.size w w'
theorem alloc4 (w : World) (a b c d : Obj) : ((((w.alloc a).alloc b).alloc c).alloc d).heap[w.heap.size]? = some a ∧ ((((w.alloc a).alloc b).alloc c).alloc d).heap[w.heap.size + 1]? = some b ∧ ((((w.alloc a).alloc b).alloc c).alloc d).heap[w.heap.size + 2]? = some c ∧ ((((w.alloc a).alloc b).alloc c).alloc d).heap[w.heap.size + 3]? = some d ∧ ((((w.alloc a).alloc b).alloc c).alloc d).heap.size = w.heap.size + 4 ∧ Below w.heap.size w ((((w.alloc a).alloc b).alloc c).alloc d) := by
  obtain ⟨h1, h2⟩ := two_new w a b
  have s2 : ((w.alloc a).alloc b).heap.size = w.heap.size + 2 := by rw [alloc_size, alloc_size]
  obtain ⟨h3, h4⟩ := two_new ((w.alloc a).alloc b) c d
  rw [s2] at h3 h4
  have hb : Below ((w.alloc a).alloc b).heap.size ((w.alloc a).alloc b) ((((w.alloc a).alloc b).alloc c).alloc d) := bt (al1 _ _) (al1 _ _)
  exact ⟨keep_box hb h1, keep_box hb h2, h3, h4, by rw [alloc_size, alloc_size, s2], bt (bt (al1 _ _) (al1 _ _)) hb⟩
theorem person_any (w : World) : Calls Tryz.prog 27 #[] w (PersP w) := by
  obtain ⟨h1, h2, h3, h4, h5, h6⟩ := alloc4 w (.cells #[.slice (some ⟨w.heap.size + 3, 0, none⟩) 1 1, .slice none 0 0, .slice none 0 0, .slice none 0 0, .slice none 0 0, .slice none 0 0, .slice none 0 0, .slice none 0 0] 31) (.cells #[.int .i64 0] 3) (.cells (persCols (w.heap.size + 1) (.slice none 0 0)) 39) (.cells (persTabs (w.heap.size + 2) 0) 42)
  have c0 := box_at (i := 0) h1 rfl
  have c1 := box_at (i := 1) h1 rfl
  have c2 := box_at (i := 2) h1 rfl
  have c3 := box_at (i := 3) h1 rfl
  have c4 := box_at (i := 4) h1 rfl
  have c5 := box_at (i := 5) h1 rfl
  have c6 := box_at (i := 6) h1 rfl
  have c7 := box_at (i := 7) h1 rfl
  have HP : Hid (PersP w (.returned (persV (w.heap.size + 3))) _) := ⟨rfl, ⟨h2, h3, h4⟩, h5, h6⟩
  unfold persCols persTabs sPerson at c0 c1 c2 c3 c4 c5 c6 c7
  clear h1 h2 h3 h4 h5 h6
  go_enter Tryz.func27, Tryz.ntmps27
  go_wp2_with fail
  exact bodyPost_ret (v := persV (w.heap.size + 3)) (by simp [results, Tryz.results27, go_sem, c0, c1, c2, c3, c4, c5, c6, c7, persV]) rfl HP.out
end Go.Proofs.YtjnhighilmchaaaGreatDoor
