/- The program's Find, Names and Types. -/
import Derived.Test.YtenonljnldbkiaaGreatDoorMO
namespace Go.Proofs.YtenonljnldbkiaaGreatDoor
open Go.RowKit Go.Proofs.EB Go.Proofs.TX
set_option maxHeartbeats 4000000
set_option maxRecDepth 100000
attribute [local go_sem] World.cell?_alloc_some

theorem Find_any (c : Cat) (hs : c.Sml) (x : ByteArray) (w : World) (hops : Ops w) (hcat : CatAt w w.heap.size c) : Calls Tryz.prog 17 #[c.val, .string x] w (Gives (.int .i64 (c.findI x)) w) := by
  have hb1 := al1 w (.cells #[.slice c.ts.ao c.ts.l.length c.ts.cap, .slice c.vs.ao c.vs.l.length c.vs.cap, .slice c.xs.ao c.xs.l.length c.xs.cap, .slice c.ks.ao c.ks.l.length c.ks.cap, .slice c.hs.ao c.hs.l.length c.hs.cap, .slice c.rs.ao c.rs.l.length c.rs.cap, .slice c.ms.ao c.ms.l.length c.ms.cap, .slice c.bs.ao c.bs.l.length c.bs.cap] 31)
  have hg1 := alloc_new w (.cells #[.slice c.ts.ao c.ts.l.length c.ts.cap, .slice c.vs.ao c.vs.l.length c.vs.cap, .slice c.xs.ao c.xs.l.length c.xs.cap, .slice c.ks.ao c.ks.l.length c.ks.cap, .slice c.hs.ao c.hs.l.length c.hs.cap, .slice c.rs.ao c.rs.l.length c.rs.cap, .slice c.ms.ao c.ms.l.length c.ms.cap, .slice c.bs.ao c.bs.l.length c.bs.cap] 31)
  obtain ⟨W1, hW1⟩ : ∃ W1, W1 = w.alloc (.cells #[.slice c.ts.ao c.ts.l.length c.ts.cap, .slice c.vs.ao c.vs.l.length c.vs.cap, .slice c.xs.ao c.xs.l.length c.xs.cap, .slice c.ks.ao c.ks.l.length c.ks.cap, .slice c.hs.ao c.hs.l.length c.hs.cap, .slice c.rs.ao c.rs.l.length c.rs.cap, .slice c.ms.ao c.ms.l.length c.ms.cap, .slice c.bs.ao c.bs.l.length c.bs.cap] 31) := ⟨_, rfl⟩
  rw [← hW1] at hb1 hg1
  have HC := Lib.hid (check_any c hs W1 (hops.below hb1) (hcat.later hb1))
  obtain ⟨d1, d2, d3, d4, d5, d6, d7, d8⟩ := boxC (c := c) hg1
  have HW1 := Lib.hid hW1
  have Hb1 := Lib.hid hb1
  have Hnl := Lib.hid c.names_len
  have Hsl := Lib.hid c.sts_len
  clear hW1 hb1 hg1 hs hcat hops
  obtain ⟨v, hv⟩ : ∃ v, c.findI x = v := ⟨_, rfl⟩
  have Hv := Lib.hid hv
  rw [hv]
  clear hv
  unfold Cat.val at *
  go_enter Tryz.func17, Tryz.ntmps17
  go_upto_region 1 with fail
  rw [← HW1.out]
  go_wp2_with fail
  refine HC.out.mono ?_
  rintro e w2 ⟨g, rfl, hlow, hg, ⟨C, hC, h11, _⟩, hgood⟩
  have c11 := box_at hC h11
  have HP2 := Lib.hid (bt Hb1.out hlow)
  have HGd := Lib.hid hgood
  clear hC h11 hlow hg hgood
  by_cases hz : c.chk.2 = 0
  · obtain ⟨_, Pr, B, sts, n, _, hk, hcs⟩ := HGd.out hz
    have hl : sts.length = c.nS := by have := congrArg List.length hcs; rw [List.length_map, Hsl.out] at this; exact this
    have hF := find_any Pr B g c c.names sts n 0 x w2 hk (by rw [hl, Hnl.out]; omega)
    rw [hl, show idx x (c.names.take c.nS) = v by rw [← Hv.out]; unfold Cat.findI; rw [if_pos hz]] at hF
    have HF := Lib.hid hF
    have hzz : (c.chk.2 != 0) = false := by rw [hz]; rfl
    clear hF hl hcs hk hz
    go_wp2_with fail
    refine HF.out.mono ?_
    rintro e w3 ⟨rfl, hb3⟩
    have HP3 := Lib.hid (bt HP2.out hb3)
    clear hb3
    go_wp2_with fail
    go_ret
    exact ⟨rfl, HP3.out⟩
  · have Hx := Lib.hid (show v = -1 by rw [← Hv.out]; unfold Cat.findI; rw [if_neg hz])
    have hzz : (c.chk.2 != 0) = true := by rw [bne_iff_ne]; exact hz
    clear hz
    go_wp2_with fail
    go_ret
    exact ⟨ret_i Hx.out.symm, HP2.out⟩
theorem hasStoreB_any {w : World} {g : Nat} {C : Array Value} {e : Int} (n : Int) (hC : w.heap[g]? = some (.cells C 90 (0, 0))) (h11 : C[11]? = some (.int .i64 e)) (he : e ≠ 0) :
    Calls Tryz.prog 50 #[.pointer (some ⟨g, 0, none⟩), .int .i64 n] w (Gives (.bool false) w) := by
  have c11 := box_at hC h11
  have hz : (e == 0) = false := beq_eq_false_iff_ne.2 he
  clear hC h11 he
  go_enter Tryz.func50, Tryz.ntmps50
  go_wp2_with fail
  go_ret
  exact ⟨rfl, ⟨rfl, rfl, rfl, Nat.le_refl _, fun _ _ => rfl⟩⟩
/-- A row of strings or numbers lies in no block of slices. -/
theorem row_ne {α : Type} {enc : α → List Value} {w : World} {B : Nat} {ao : Option Addr} {l : List α} {r : Nat} {u v : Value} {T : TypeId} (h : RAt enc 1 w B ao l) (hr : w.heap[r]? = some (.cells #[u, v] T (0, 0))) (hu : ∀ a, (enc a)[0]? ≠ some u ∧ (enc a)[0]? ≠ some v) (he : ∀ a, ∃ x, (enc a)[0]? = some x) (hl : l ≠ []) : ∀ b o, ao = some ⟨b, o, none⟩ → b ≠ r := by
  rintro b o rfl rfl
  have hp := List.length_pos_iff.2 hl
  obtain ⟨x, hx⟩ := he l[0]
  have hc := RAt.cell h hp hx
  simp only [World.cell?, hr] at hc
  have h1 := hu l[0]
  rcases o with _ | _ | o
  · simp at hc; rw [hc] at h1; exact h1.1 hx
  · simp at hc; rw [hc] at h1; exact h1.2 hx
  · simp at hc
theorem row_set {α : Type} {enc : α → List Value} {w w' : World} {ao : Option Addr} {l : List α} {r : Nat} (h : RAt enc 1 w w.heap.size ao l) (hne : l ≠ [] → ∀ b o, ao = some ⟨b, o, none⟩ → b ≠ r) (hsz : w.heap.size ≤ w'.heap.size) (hk : ∀ k, k ≠ r → w'.heap[k]? = w.heap[k]?) : RAt enc 1 w' w'.heap.size ao l := by
  by_cases hl : l = []
  · exact .inl hl
  · rcases h with h0 | ⟨b, off, e, hlt, hc⟩
    · exact .inl h0
    · refine .inr ⟨b, off, e, Nat.lt_of_lt_of_le hlt hsz, fun i hi j u hu => ?_⟩
      rw [World.cell?_of_block (hk b (hne hl b off e))]
      exact hc i hi j u hu
/-- The columns that columnsOf gives. -/
def ColsR (L : List ByteArray) (T : List Int) (w : World) (e : Ending) (w' : World) : Prop := ∃ a1 c1 a2 c2, e = .returned (.agg #[.slice a1 L.length c1, .slice a2 T.length c2]) ∧ RAt encStr' 1 w' w'.heap.size a1 L ∧ RAt encInt 1 w' w'.heap.size a2 T ∧ Below w.heap.size w w'
def RowSt (L : List ByteArray) (w : World) (e : Ending) (w' : World) : Prop := ∃ ao cap, e = .returned (.slice ao L.length cap) ∧ RAt encStr' 1 w' w'.heap.size ao L ∧ Below w.heap.size w w'
theorem columnsOf_any (c : Cat) (hs : c.Sml) (n : Int) (w : World) (hops : Ops w) (hcat : CatAt w w.heap.size c) : Calls Tryz.prog 46 #[c.val, .int .i64 n] w (ColsR (c.namesI n) (c.typesI n) w) := by
  have hts := hs.ts
  have hvs := hs.vs
  have hb1 := al1 w (.cells #[.slice c.ts.ao c.ts.l.length c.ts.cap, .slice c.vs.ao c.vs.l.length c.vs.cap, .slice c.xs.ao c.xs.l.length c.xs.cap, .slice c.ks.ao c.ks.l.length c.ks.cap, .slice c.hs.ao c.hs.l.length c.hs.cap, .slice c.rs.ao c.rs.l.length c.rs.cap, .slice c.ms.ao c.ms.l.length c.ms.cap, .slice c.bs.ao c.bs.l.length c.bs.cap] 31)
  have hg1 := alloc_new w (.cells #[.slice c.ts.ao c.ts.l.length c.ts.cap, .slice c.vs.ao c.vs.l.length c.vs.cap, .slice c.xs.ao c.xs.l.length c.xs.cap, .slice c.ks.ao c.ks.l.length c.ks.cap, .slice c.hs.ao c.hs.l.length c.hs.cap, .slice c.rs.ao c.rs.l.length c.rs.cap, .slice c.ms.ao c.ms.l.length c.ms.cap, .slice c.bs.ao c.bs.l.length c.bs.cap] 31)
  obtain ⟨W1, hW1⟩ : ∃ W1, W1 = w.alloc (.cells #[.slice c.ts.ao c.ts.l.length c.ts.cap, .slice c.vs.ao c.vs.l.length c.vs.cap, .slice c.xs.ao c.xs.l.length c.xs.cap, .slice c.ks.ao c.ks.l.length c.ks.cap, .slice c.hs.ao c.hs.l.length c.hs.cap, .slice c.rs.ao c.rs.l.length c.rs.cap, .slice c.ms.ao c.ms.l.length c.ms.cap, .slice c.bs.ao c.bs.l.length c.bs.cap] 31) := ⟨_, rfl⟩
  rw [← hW1] at hb1 hg1
  have hal2 := al1 W1 (.cells #[.slice none 0 0, .slice none 0 0] 95)
  have hg2 := alloc_new W1 (.cells #[.slice none 0 0, .slice none 0 0] 95)
  obtain ⟨W2, hW2⟩ : ∃ W2, W2 = W1.alloc (.cells #[.slice none 0 0, .slice none 0 0] 95) := ⟨_, rfl⟩
  rw [← hW2] at hal2 hg2
  have hs1 : W1.heap.size = w.heap.size + 1 := by rw [hW1]; exact alloc_size _ _
  rw [hs1] at hg2
  have hb2 := bt hb1 hal2
  have HC := Lib.hid (check_any c hs W2 (hops.below hb2) (hcat.later hb2))
  obtain ⟨d1, d2, d3, d4, d5, d6, d7, d8⟩ := boxC (c := c) (keep_box hal2 hg1)
  have HW1 := Lib.hid hW1
  have HW2 := Lib.hid hW2
  have Hb2 := Lib.hid hb2
  have Hg2 := Lib.hid hg2
  have Hsl := Lib.hid c.sts_len
  have hw1s : w.heap.size ≤ W1.heap.size := hb1.size
  clear hW1 hW2 hb1 hb2 hg1 hg2 hal2 hs hcat hops
  obtain ⟨L, hL⟩ : ∃ v, c.namesI n = v := ⟨_, rfl⟩
  obtain ⟨T, hT⟩ : ∃ v, c.typesI n = v := ⟨_, rfl⟩
  have HL := Lib.hid hL
  have HT := Lib.hid hT
  rw [hL, hT]
  clear hL hT
  unfold Cat.val at *
  go_enter Tryz.func46, Tryz.ntmps46
  go_upto_region 1 with fail
  rw [← HW1.out]
  rw [← HW2.out]
  go_wp2_with fail
  refine HC.out.mono ?_
  rintro e w3 ⟨g, rfl, hlow, hg, ⟨C, hC, h11, _⟩, hgood⟩
  have HP3 := Lib.hid (bt Hb2.out hlow)
  have HGd := Lib.hid hgood
  have hg3 := keep_box hlow Hg2.out
  have e0 : w3.cell? ⟨(w.heap.size + 1), 0, none⟩ = some (.slice none 0 0) := box_at hg3 rfl
  have e1 : w3.cell? ⟨(w.heap.size + 1), 1, none⟩ = some (.slice none 0 0) := box_at hg3 rfl
  have z0 : w3.frozen? ⟨(w.heap.size + 1), 0, none⟩ = false := frozen_box hg3
  have z1 : w3.frozen? ⟨(w.heap.size + 1), 1, none⟩ = false := frozen_box hg3
  have hwr : Hid (∀ (W : World) (u v : Value), Below w3.heap.size w3 W → ((W.setCell ⟨(w.heap.size + 1), 0, none⟩ u).setCell ⟨(w.heap.size + 1), 1, none⟩ v).heap[(w.heap.size + 1)]? = some (.cells #[u, v] 95 (0, 0)) ∧ Below w.heap.size w ((W.setCell ⟨(w.heap.size + 1), 0, none⟩ u).setCell ⟨(w.heap.size + 1), 1, none⟩ v)) := fun W u v hb => by
    have h1 := keep_box hb hg3
    have h2 := heap_setCell_same W (w.heap.size + 1) 0 _ _ u h1
    have h3 := heap_setCell_same _ (w.heap.size + 1) 1 _ _ v h2
    exact ⟨h3, ((bt HP3.out hb).setCell (Nat.le_succ _) _).setCell (Nat.le_succ _) _⟩
  have hkp := Lib.hid (fun (W : World) (u v : Value) (k : Nat) (h : k ≠ (w.heap.size + 1)) => ((Below.heap_setCell (W.setCell ⟨(w.heap.size + 1), 0, none⟩ u) ⟨(w.heap.size + 1), 1, none⟩ v k h).trans (Below.heap_setCell W ⟨(w.heap.size + 1), 0, none⟩ u k h)))
  have Hg3 := Lib.hid hg3
  by_cases hz : c.chk.2 = 0
  · obtain ⟨_, Pr, B, sts, m, _, hk, hcs⟩ := HGd.out hz
    have hl : sts.length = c.nS := by have := congrArg List.length hcs; rw [List.length_map, Hsl.out] at this; exact this
    have hHs := hasStore_any Pr B g c c.names sts m 0 n w3 hk
    have hsi : ((0 : Int) == 0 && decide (0 ≤ n) && decide (n < (sts.length : Int))) = c.isSt n := by
      have e : decide (n < ((c.ts.l.length + c.vs.l.length : Nat) : Int)) = decide (n ≤ (c.ts.l.length : Int) + (c.vs.l.length : Int) - 1) := by rw [decide_eq_decide]; omega
      rw [hl]
      unfold Cat.isSt inB Cat.nS
      rw [hz, e]
      cases decide (0 ≤ n) <;> cases decide (n ≤ (c.ts.l.length : Int) + (c.vs.l.length : Int) - 1) <;> rfl
    rw [hsi] at hHs
    have HHs := Lib.hid hHs
    cases hi : c.isSt n
    · have HL0 := Lib.hid (show L = [] by rw [← HL.out]; unfold Cat.namesI; rw [if_neg (by rw [hi]; decide)])
      have HT0 := Lib.hid (show T = [] by rw [← HT.out]; unfold Cat.typesI; rw [if_neg (by rw [hi]; decide)])
      rw [hi] at HHs
      clear hHs hsi hl hk hcs hz hi hC h11 hlow hg hgood hg3
      go_wp2_with fail
      refine HHs.out.mono ?_
      rintro e w4 ⟨rfl, hb4⟩
      have hg4 := keep_box hb4 Hg3.out
      obtain ⟨k1, k2⟩ := hwr.out w4 (.slice none 0 0) (.slice none 0 0) hb4
      have r0 := (box_at (i := 0) k1 rfl : _ = some (Value.slice none 0 0))
      have r1 := (box_at (i := 1) k1 rfl : _ = some (Value.slice none 0 0))
      have y0 : w4.cell? ⟨(w.heap.size + 1), 0, none⟩ = some (.slice none 0 0) := box_at hg4 rfl
      have y1 : w4.cell? ⟨(w.heap.size + 1), 1, none⟩ = some (.slice none 0 0) := box_at hg4 rfl
      have y2 : w4.frozen? ⟨(w.heap.size + 1), 0, none⟩ = false := frozen_box hg4
      have y3 : w4.frozen? ⟨(w.heap.size + 1), 1, none⟩ = false := frozen_box hg4
      have HK2 := Lib.hid k2
      clear k1 k2 hg4 hb4 e0 e1 z0 z1
      go_wp2_with fail
      exact bodyPost_ret (v := .agg #[.slice none 0 0, .slice none 0 0]) (by simp [results, Tryz.results46, go_sem, r0, r1]) rfl ⟨none, 0, none, 0, by rw [HL0.out, HT0.out]; rfl, by rw [HL0.out]; exact .inl rfl, by rw [HT0.out]; exact .inl rfl, HK2.out⟩
    · obtain ⟨_, k, rfl, hks⟩ := isSt_ok hi
      have hkl : k < sts.length := by omega
      have hcsk : sts[k].cs = c.sts.getD k ([], []) := by
        have h1 : c.sts[k]? = some sts[k].cs := by rw [← hcs]; simp [hkl]
        rw [List.getD_eq_getElem?_getD, h1]; rfl
      have hLk : sts[k].ns.l = L := by
        rw [← HL.out]; unfold Cat.namesI; rw [if_pos hi, show ((k : Int)).toNat = k from rfl, ← hcsk]; rfl
      have hTk : sts[k].ts.l = T := by
        rw [← HT.out]; unfold Cat.typesI; rw [if_pos hi, show ((k : Int)).toNat = k from rfl, ← hcsk]; rfl
      have hcell := Lib.hid (fun wr b off (hs : RAt encCn 2 wr wr.heap.size (some ⟨b, off, none⟩) sts) => And.intro (RAt.cell hs hkl (j := 0) rfl) (RAt.cell hs hkl (j := 1) rfl))
      have hcn : CnOk Pr w3 sts[k] := by
        obtain ⟨_, _, hv⟩ := hk
        exact hv.each _ (List.getElem_mem _)
      have HCn := Lib.hid hcn
      have q0 : decide ((k : Int) < 0) = false := by rw [decide_eq_false_iff_not]; omega
      have q1 : (k : Int) < (sts.length : Int) := by omega
      generalize sts[k] = s at *
      rw [hi] at HHs
      have HCk := Lib.hid hk
      have HLk := Lib.hid hLk
      have HTk := Lib.hid hTk
      clear hHs hsi hks hcs hz hi hC h11 hlow hg hgood hg3 hk hcn hcsk hLk hTk
      go_wp2_with fail
      refine HHs.out.mono ?_
      rintro e w4 ⟨rfl, hb4⟩
      have hg4 := keep_box hb4 Hg3.out
      obtain ⟨k1, k2⟩ := hwr.out w4 (.slice s.ns.ao s.ns.l.length s.ns.cap) (.slice s.ts.ao s.ts.l.length s.ts.cap) hb4
      have r0 := (box_at (i := 0) k1 rfl : _ = some (Value.slice s.ns.ao s.ns.l.length s.ns.cap))
      have r1 := (box_at (i := 1) k1 rfl : _ = some (Value.slice s.ts.ao s.ts.l.length s.ts.cap))
      have y0 : w4.cell? ⟨(w.heap.size + 1), 0, none⟩ = some (.slice none 0 0) := box_at hg4 rfl
      have y1 : w4.cell? ⟨(w.heap.size + 1), 1, none⟩ = some (.slice none 0 0) := box_at hg4 rfl
      have y2 : w4.frozen? ⟨(w.heap.size + 1), 0, none⟩ = false := frozen_box hg4
      have y3 : w4.frozen? ⟨(w.heap.size + 1), 1, none⟩ = false := frozen_box hg4
      have HN := Lib.hid (RAt.later HCn.out.ns.row hb4)
      have HTS := Lib.hid (RAt.later HCn.out.ts.row hb4)
      obtain ⟨na, ncap, sa, scap, _, c9, _, _, _, hs, _, _, l3, l4⟩ := (HCk.out.below hb4).read
      unfold maxLen at l4
      obtain ⟨b, off, rfl, hlt⟩ := hs.form (by omega)
      obtain ⟨x0, x1⟩ := hcell.out _ _ _ hs
      rw [Nat.add_zero] at x0
      have HK2 := Lib.hid k2
      have HK4 := Lib.hid hg4
      have hF := Lib.hid (fun k h => hkp.out w4 (.slice s.ns.ao s.ns.l.length s.ns.cap) (.slice s.ts.ao s.ts.l.length s.ts.cap) k h)
      clear k1 k2 hg4 hb4 e0 e1 z0 z1 hs hwr hkp
      go_wp2_with fail
      refine bodyPost_ret (v := .agg #[.slice s.ns.ao s.ns.l.length s.ns.cap, .slice s.ts.ao s.ts.l.length s.ts.cap]) (by simp [results, Tryz.results46, go_sem, r0, r1]) rfl ⟨s.ns.ao, s.ns.cap, s.ts.ao, s.ts.cap, by rw [← HLk.out, ← HTk.out], ?_, ?_, HK2.out⟩
      · rw [← HLk.out]
        exact row_set HN.out (fun hl => row_ne HN.out HK4.out (fun a => ⟨by simp [encStr'], by simp [encStr']⟩) (fun a => ⟨_, rfl⟩) hl) (by simp) hF.out
      · rw [← HTk.out]
        exact row_set HTS.out (fun hl => row_ne HTS.out HK4.out (fun a => ⟨by simp [encInt], by simp [encInt]⟩) (fun a => ⟨_, rfl⟩) hl) (by simp) hF.out
  · have hHs := hasStoreB_any n hC h11 hz
    have hi : c.isSt n = false := by unfold Cat.isSt; rw [beq_eq_false_iff_ne.2 hz, Bool.and_false]
    have HL0 := Lib.hid (show L = [] by rw [← HL.out]; unfold Cat.namesI; rw [if_neg (by rw [hi]; decide)])
    have HT0 := Lib.hid (show T = [] by rw [← HT.out]; unfold Cat.typesI; rw [if_neg (by rw [hi]; decide)])
    have HHs := Lib.hid hHs
    clear hHs hz hi hC h11 hlow hg hgood hg3
    go_wp2_with fail
    refine HHs.out.mono ?_
    rintro e w4 ⟨rfl, hb4⟩
    have hg4 := keep_box hb4 Hg3.out
    obtain ⟨k1, k2⟩ := hwr.out w4 (.slice none 0 0) (.slice none 0 0) hb4
    have r0 := (box_at (i := 0) k1 rfl : _ = some (Value.slice none 0 0))
    have r1 := (box_at (i := 1) k1 rfl : _ = some (Value.slice none 0 0))
    have y0 : w4.cell? ⟨(w.heap.size + 1), 0, none⟩ = some (.slice none 0 0) := box_at hg4 rfl
    have y1 : w4.cell? ⟨(w.heap.size + 1), 1, none⟩ = some (.slice none 0 0) := box_at hg4 rfl
    have y2 : w4.frozen? ⟨(w.heap.size + 1), 0, none⟩ = false := frozen_box hg4
    have y3 : w4.frozen? ⟨(w.heap.size + 1), 1, none⟩ = false := frozen_box hg4
    have HK2 := Lib.hid k2
    clear k1 k2 hg4 hb4 e0 e1 z0 z1
    go_wp2_with fail
    exact bodyPost_ret (v := .agg #[.slice none 0 0, .slice none 0 0]) (by simp [results, Tryz.results46, go_sem, r0, r1]) rfl ⟨none, 0, none, 0, by rw [HL0.out, HT0.out]; rfl, by rw [HL0.out]; exact .inl rfl, by rw [HT0.out]; exact .inl rfl, HK2.out⟩
theorem fieldCo0 (x y : Value) (w : World) : (Instr.field 95 (.agg #[x, y]) 0).run Tryz.prog w = .ok x w := by
  have u1 := Tryz.underlying95
  have u2 := Tryz.isAgg40
  have u3 := Tryz.sizeOf40
  have u4 := Tryz.sizeOf40
  unfold Instr.field
  go_simp
  simp [asAgg, Sem.run_pure, Result.andThen_ok]
theorem fieldCo1 (x y : Value) (w : World) : (Instr.field 95 (.agg #[x, y]) 1).run Tryz.prog w = .ok y w := by
  have u1 := Tryz.underlying95
  have u2 := Tryz.isAgg36
  have u3 := Tryz.sizeOf36
  have u4 := Tryz.sizeOf40
  unfold Instr.field
  go_simp
  simp [asAgg, Sem.run_pure, Result.andThen_ok]
theorem Names_any (c : Cat) (hs : c.Sml) (n : Int) (w : World) (hops : Ops w) (hcat : CatAt w w.heap.size c) : Calls Tryz.prog 18 #[c.val, .int .i64 n] w (RowSt (c.namesI n) w) := by
  have hb1 := al1 w (.cells #[.slice c.ts.ao c.ts.l.length c.ts.cap, .slice c.vs.ao c.vs.l.length c.vs.cap, .slice c.xs.ao c.xs.l.length c.xs.cap, .slice c.ks.ao c.ks.l.length c.ks.cap, .slice c.hs.ao c.hs.l.length c.hs.cap, .slice c.rs.ao c.rs.l.length c.rs.cap, .slice c.ms.ao c.ms.l.length c.ms.cap, .slice c.bs.ao c.bs.l.length c.bs.cap] 31)
  have hg1 := alloc_new w (.cells #[.slice c.ts.ao c.ts.l.length c.ts.cap, .slice c.vs.ao c.vs.l.length c.vs.cap, .slice c.xs.ao c.xs.l.length c.xs.cap, .slice c.ks.ao c.ks.l.length c.ks.cap, .slice c.hs.ao c.hs.l.length c.hs.cap, .slice c.rs.ao c.rs.l.length c.rs.cap, .slice c.ms.ao c.ms.l.length c.ms.cap, .slice c.bs.ao c.bs.l.length c.bs.cap] 31)
  obtain ⟨W1, hW1⟩ : ∃ W1, W1 = w.alloc (.cells #[.slice c.ts.ao c.ts.l.length c.ts.cap, .slice c.vs.ao c.vs.l.length c.vs.cap, .slice c.xs.ao c.xs.l.length c.xs.cap, .slice c.ks.ao c.ks.l.length c.ks.cap, .slice c.hs.ao c.hs.l.length c.hs.cap, .slice c.rs.ao c.rs.l.length c.rs.cap, .slice c.ms.ao c.ms.l.length c.ms.cap, .slice c.bs.ao c.bs.l.length c.bs.cap] 31) := ⟨_, rfl⟩
  rw [← hW1] at hb1 hg1
  have HC := Lib.hid (columnsOf_any c hs n W1 (hops.below hb1) (hcat.later hb1))
  obtain ⟨d1, d2, d3, d4, d5, d6, d7, d8⟩ := boxC (c := c) hg1
  have HW1 := Lib.hid hW1
  have Hb1 := Lib.hid hb1
  clear hW1 hb1 hg1 hs hcat hops
  unfold Cat.val at *
  go_enter Tryz.func18, Tryz.ntmps18
  go_upto_region 1 with fail
  rw [← HW1.out]
  go_wp2_with fail
  refine HC.out.mono ?_
  rintro e w2 ⟨a1, c1, a2, c2, rfl, hr1, hr2, hb⟩
  have Hr1 := Lib.hid hr1
  have Hr2 := Lib.hid hr2
  have HB := Lib.hid (bt Hb1.out hb)
  clear hr1 hr2 hb
  have hfd := fieldCo0 (.slice a1 (c.namesI n).length c1) (.slice a2 (c.typesI n).length c2)
  go_wp2_with fail
  go_ret
  exact ⟨a1, c1, rfl, Hr1.out, HB.out⟩
theorem Types_any (c : Cat) (hs : c.Sml) (n : Int) (w : World) (hops : Ops w) (hcat : CatAt w w.heap.size c) : Calls Tryz.prog 19 #[c.val, .int .i64 n] w (RowG (c.typesI n) w) := by
  have hb1 := al1 w (.cells #[.slice c.ts.ao c.ts.l.length c.ts.cap, .slice c.vs.ao c.vs.l.length c.vs.cap, .slice c.xs.ao c.xs.l.length c.xs.cap, .slice c.ks.ao c.ks.l.length c.ks.cap, .slice c.hs.ao c.hs.l.length c.hs.cap, .slice c.rs.ao c.rs.l.length c.rs.cap, .slice c.ms.ao c.ms.l.length c.ms.cap, .slice c.bs.ao c.bs.l.length c.bs.cap] 31)
  have hg1 := alloc_new w (.cells #[.slice c.ts.ao c.ts.l.length c.ts.cap, .slice c.vs.ao c.vs.l.length c.vs.cap, .slice c.xs.ao c.xs.l.length c.xs.cap, .slice c.ks.ao c.ks.l.length c.ks.cap, .slice c.hs.ao c.hs.l.length c.hs.cap, .slice c.rs.ao c.rs.l.length c.rs.cap, .slice c.ms.ao c.ms.l.length c.ms.cap, .slice c.bs.ao c.bs.l.length c.bs.cap] 31)
  obtain ⟨W1, hW1⟩ : ∃ W1, W1 = w.alloc (.cells #[.slice c.ts.ao c.ts.l.length c.ts.cap, .slice c.vs.ao c.vs.l.length c.vs.cap, .slice c.xs.ao c.xs.l.length c.xs.cap, .slice c.ks.ao c.ks.l.length c.ks.cap, .slice c.hs.ao c.hs.l.length c.hs.cap, .slice c.rs.ao c.rs.l.length c.rs.cap, .slice c.ms.ao c.ms.l.length c.ms.cap, .slice c.bs.ao c.bs.l.length c.bs.cap] 31) := ⟨_, rfl⟩
  rw [← hW1] at hb1 hg1
  have HC := Lib.hid (columnsOf_any c hs n W1 (hops.below hb1) (hcat.later hb1))
  obtain ⟨d1, d2, d3, d4, d5, d6, d7, d8⟩ := boxC (c := c) hg1
  have HW1 := Lib.hid hW1
  have Hb1 := Lib.hid hb1
  clear hW1 hb1 hg1 hs hcat hops
  unfold Cat.val at *
  go_enter Tryz.func19, Tryz.ntmps19
  go_upto_region 1 with fail
  rw [← HW1.out]
  go_wp2_with fail
  refine HC.out.mono ?_
  rintro e w2 ⟨a1, c1, a2, c2, rfl, hr1, hr2, hb⟩
  have Hr1 := Lib.hid hr1
  have Hr2 := Lib.hid hr2
  have HB := Lib.hid (bt Hb1.out hb)
  clear hr1 hr2 hb
  have hfd := fieldCo1 (.slice a1 (c.namesI n).length c1) (.slice a2 (c.typesI n).length c2)
  go_wp2_with fail
  go_ret
  exact ⟨a2, c2, rfl, Hr2.out, HB.out⟩
end Go.Proofs.YtenonljnldbkiaaGreatDoor
