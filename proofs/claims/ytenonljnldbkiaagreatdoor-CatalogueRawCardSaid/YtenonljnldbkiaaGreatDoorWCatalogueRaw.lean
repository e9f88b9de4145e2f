/- The walk of the law CatalogueRaw. -/
import Derived.Test.YtenonljnldbkiaaGreatDoorLk
namespace Go.Proofs.YtenonljnldbkiaaGreatDoor
open Go.RowKit Go.Proofs.EB Go.Proofs.TX
set_option maxHeartbeats 4000000
set_option maxRecDepth 100000
attribute [local go_sem] World.cell?_alloc_some

theorem catalogueRaw_any (c : Cat) (n : Int) (w : World) (hops : Ops w) (hcat : CatAt w w.heap.size c) :
    Calls Tryz.prog 3 #[c.val, .int .i64 n] w (Gives (.bool true) w) := by
  have hb1 := al1 w (.cells #[.slice c.ts.ao c.ts.l.length c.ts.cap, .slice c.vs.ao c.vs.l.length c.vs.cap, .slice c.xs.ao c.xs.l.length c.xs.cap, .slice c.ks.ao c.ks.l.length c.ks.cap, .slice c.hs.ao c.hs.l.length c.hs.cap, .slice c.rs.ao c.rs.l.length c.rs.cap, .slice c.ms.ao c.ms.l.length c.ms.cap, .slice c.bs.ao c.bs.l.length c.bs.cap] 31)
  have hg1 := alloc_new w (.cells #[.slice c.ts.ao c.ts.l.length c.ts.cap, .slice c.vs.ao c.vs.l.length c.vs.cap, .slice c.xs.ao c.xs.l.length c.xs.cap, .slice c.ks.ao c.ks.l.length c.ks.cap, .slice c.hs.ao c.hs.l.length c.hs.cap, .slice c.rs.ao c.rs.l.length c.rs.cap, .slice c.ms.ao c.ms.l.length c.ms.cap, .slice c.bs.ao c.bs.l.length c.bs.cap] 31)
  obtain ⟨W1, hW1⟩ : ∃ W1, W1 = w.alloc (.cells #[.slice c.ts.ao c.ts.l.length c.ts.cap, .slice c.vs.ao c.vs.l.length c.vs.cap, .slice c.xs.ao c.xs.l.length c.xs.cap, .slice c.ks.ao c.ks.l.length c.ks.cap, .slice c.hs.ao c.hs.l.length c.hs.cap, .slice c.rs.ao c.rs.l.length c.rs.cap, .slice c.ms.ao c.ms.l.length c.ms.cap, .slice c.bs.ao c.bs.l.length c.bs.cap] 31) := ⟨_, rfl⟩
  rw [← hW1] at hb1 hg1
  have HD := Lib.hid (fun (W : World) (hb : Below W1.heap.size W1 W) => (⟨boxC (c := c) (keep_box hb hg1), bt hb1 hb, hops.below (bt hb1 hb), hcat.later (bt hb1 hb)⟩ : _ ∧ Below w.heap.size w W ∧ Ops W ∧ CatAt W W.heap.size c))
  obtain ⟨⟨d1, d2, d3, d4, d5, d6, d7, d8⟩, _⟩ := HD.out W1 (Below.refl _ _)
  have HW1 := Lib.hid hW1
  have HS := Lib.hid (Small_any c W1 (HD.out W1 (Below.refl _ _)).2.2.2)
  have HA := Lib.hid (fun (W : World) (hb : Below W1.heap.size W1 W) => awake4_any W (HD.out W hb).2.2.1)
  have HC := Lib.hid (fun (hs : c.Sml) (W : World) (hb : Below W1.heap.size W1 W) => checks_any c hs W (HD.out W hb).2.2.1 (HD.out W hb).2.2.2)
  have HL := Lib.hid (fun (hs : c.Sml) (m : Int) (x : ByteArray) (W : World) (hb : Below W1.heap.size W1 W) => looks_any c hs m x W (HD.out W hb).2.2.1 (HD.out W hb).2.2.2)
  clear hW1 hb1 hg1 hcat hops
  unfold Cat.val at *
  go_enter Tryz.func3, Tryz.ntmps3
  go_upto_region 1 with fail
  rw [← HW1.out]
  go_wp2_with fail
  refine HS.out.mono ?_
  rintro e w2 ⟨b, rfl, hbs, hb2⟩
  have Hbs := Lib.hid hbs
  have HB2 := Lib.hid hb2
  clear hbs hb2 d1 d2 d3 d4 d5 d6 d7 d8
  obtain ⟨⟨d1, d2, d3, d4, d5, d6, d7, d8⟩, _⟩ := HD.out w2 HB2.out
  cases b
  · go_wp2_with fail
    refine (HA.out w2 HB2.out).mono ?_
    rintro e w3 ⟨rfl, hb3⟩
    have HE := Lib.hid (HD.out w3 (bt HB2.out hb3)).2.1
    clear hb3
    go_wp2_with fail
    go_ret
    exact ⟨rfl, HE.out⟩
  · have hs := Lib.hid (Hbs.out rfl)
    go_wp2_with fail
    refine (HC.out hs.out w2 HB2.out).mono ?_
    rintro e w3 ⟨rfl, hb3⟩
    have HB3 := Lib.hid (bt HB2.out hb3)
    clear hb3 d1 d2 d3 d4 d5 d6 d7 d8
    obtain ⟨⟨d1, d2, d3, d4, d5, d6, d7, d8⟩, _⟩ := HD.out w3 HB3.out
    go_wp2_with fail
    refine (HL.out hs.out _ _ w3 HB3.out).mono ?_
    rintro e w4 ⟨rfl, hb4⟩
    have HB4 := Lib.hid (bt HB3.out hb4)
    clear hb4 d1 d2 d3 d4 d5 d6 d7 d8
    obtain ⟨⟨d1, d2, d3, d4, d5, d6, d7, d8⟩, _⟩ := HD.out w4 HB4.out
    go_wp2_with fail
    refine (HL.out hs.out _ _ w4 HB4.out).mono ?_
    rintro e w5 ⟨rfl, hb5⟩
    have HB5 := Lib.hid (bt HB4.out hb5)
    clear hb5 d1 d2 d3 d4 d5 d6 d7 d8
    go_wp2_with fail
    refine (HA.out w5 HB5.out).mono ?_
    rintro e w6 ⟨rfl, hb6⟩
    have HE := Lib.hid (HD.out w6 (bt HB5.out hb6)).2.1
    clear hb6
    go_wp2_with fail
    go_ret
    exact ⟨rfl, HE.out⟩
theorem W_CatalogueRaw (c : Cat) (n : Int) (w : World) (hcat : CatAt w w.heap.size c) (_hn : (Lit.int .i64 n).wf = true) (hops : Ops w) :
    Calls Tryz.prog 3 #[c.val, .int .i64 n] w fun e w' => e = .returned (.bool true) ∧ Below w.heap.size w w' :=
  catalogueRaw_any c n w hops hcat
end Go.Proofs.YtenonljnldbkiaaGreatDoor
