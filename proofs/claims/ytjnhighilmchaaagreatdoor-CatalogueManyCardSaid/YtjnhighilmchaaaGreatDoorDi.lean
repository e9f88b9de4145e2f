/- The reference of layer 4: a source and one of its columns. -/
import Derived.Test.YtjnhighilmchaaaGreatDoorDh
namespace Go.Proofs.YtjnhighilmchaaaGreatDoor
open Go.RowKit Go.Proofs.EB Go.Proofs.TX
set_option maxHeartbeats 4000000
set_option maxRecDepth 100000
attribute [local go_sem] World.cell?_alloc_some

theorem plE_none {nms : List ByteArray} {sts : List Cs} {src : ByteArray} {col : Int} (h : idx src nms < 0) : plE nms sts src col = (0, 7) := by unfold plE srcOf; rw [if_pos h]
theorem plE_some {nms : List ByteArray} {sts : List Cs} {src : ByteArray} {col : Int} {k : Nat} (h : idx src nms = k) : plE nms sts src col = if inB col 0 ((sts.getD k ([], [])).2.length - 1) = false then (0, 3) else ((sts.getD k ([], [])).2.getD col.toNat 0, 0) := by
  unfold plE srcOf
  rw [if_neg (by omega), h]
  rfl
theorem rsource_any (c : Cat) (hs : c.Sml) (hg : c.Good c.nS) (x : ByteArray) (col : Int) (w : World) (hcat : CatAt w w.heap.size c) :
    Calls Tryz.prog 107 #[c.val, .string x, .int .i64 col] w (Gives (.tuple #[.int .i64 (plE (c.names.take c.nS) c.sts x col).1, .int .i64 (plE (c.names.take c.nS) c.sts x col).2]) w) := by
  have hb1 := al1 w (.cells #[.slice c.ts.ao c.ts.l.length c.ts.cap, .slice c.vs.ao c.vs.l.length c.vs.cap, .slice c.xs.ao c.xs.l.length c.xs.cap, .slice c.ks.ao c.ks.l.length c.ks.cap, .slice c.hs.ao c.hs.l.length c.hs.cap, .slice c.rs.ao c.rs.l.length c.rs.cap, .slice c.ms.ao c.ms.l.length c.ms.cap, .slice c.bs.ao c.bs.l.length c.bs.cap] 31)
  have hbx := alloc_new w (.cells #[.slice c.ts.ao c.ts.l.length c.ts.cap, .slice c.vs.ao c.vs.l.length c.vs.cap, .slice c.xs.ao c.xs.l.length c.xs.cap, .slice c.ks.ao c.ks.l.length c.ks.cap, .slice c.hs.ao c.hs.l.length c.hs.cap, .slice c.rs.ao c.rs.l.length c.rs.cap, .slice c.ms.ao c.ms.l.length c.ms.cap, .slice c.bs.ao c.bs.l.length c.bs.cap] 31)
  have hF := rfind_any c hs x (c.nS : Nat) c.nS ⟨Nat.le_refl _, .inl rfl⟩ (w.alloc (.cells #[.slice c.ts.ao c.ts.l.length c.ts.cap, .slice c.vs.ao c.vs.l.length c.vs.cap, .slice c.xs.ao c.xs.l.length c.xs.cap, .slice c.ks.ao c.ks.l.length c.ks.cap, .slice c.hs.ao c.hs.l.length c.hs.cap, .slice c.rs.ao c.rs.l.length c.rs.cap, .slice c.ms.ao c.ms.l.length c.ms.cap, .slice c.bs.ao c.bs.l.length c.bs.cap] 31)) (hcat.later hb1)
  have e0 : ((c.nS : Nat) : Int) = (c.ts.l.length : Int) + (c.vs.l.length : Int) := by unfold Cat.nS; omega
  rw [e0] at hF
  have hD := fun (w' : World) (hb : Below (w.alloc (.cells #[.slice c.ts.ao c.ts.l.length c.ts.cap, .slice c.vs.ao c.vs.l.length c.vs.cap, .slice c.xs.ao c.xs.l.length c.xs.cap, .slice c.ks.ao c.ks.l.length c.ks.cap, .slice c.hs.ao c.hs.l.length c.hs.cap, .slice c.rs.ao c.rs.l.length c.rs.cap, .slice c.ms.ao c.ms.l.length c.ms.cap, .slice c.bs.ao c.bs.l.length c.bs.cap] 31)).heap.size (w.alloc (.cells #[.slice c.ts.ao c.ts.l.length c.ts.cap, .slice c.vs.ao c.vs.l.length c.vs.cap, .slice c.xs.ao c.xs.l.length c.xs.cap, .slice c.ks.ao c.ks.l.length c.ks.cap, .slice c.hs.ao c.hs.l.length c.hs.cap, .slice c.rs.ao c.rs.l.length c.rs.cap, .slice c.ms.ao c.ms.l.length c.ms.cap, .slice c.bs.ao c.bs.l.length c.bs.cap] 31)) w') => boxC (c := c) (keep_box hb hbx)
  have HD := Lib.hid hD
  have Hb1 := Lib.hid hb1
  have hts := hs.ts
  have hvs := hs.vs
  rcases idx_cases x (c.names.take c.nS) with ⟨hi, _⟩ | ⟨k, hk, hi, hq1, hq2⟩
  · rw [plE_none (by omega)]
    rw [hi] at hF
    have HF := Lib.hid hF
    clear hF hD hbx hb1 hs hcat hg hi e0
    unfold Cat.val at *
    go_enter Tryz.func107, Tryz.ntmps107
    go_wp2_with fail
    refine HF.out.mono ?_
    rintro e w2 ⟨rfl, hb2⟩
    have HB := Lib.hid (bt Hb1.out hb2)
    clear hb2
    go_wp2_with fail
    exact bodyPost_ret (v := .tuple #[.int .i64 0, .int .i64 7]) (by simp [results, Tryz.results107, go_sem]) rfl ⟨rfl, HB.out⟩
  · rw [plE_some hi]
    rw [hi] at hF
    have HF := Lib.hid hF
    have hk2 : k < c.nS := by rw [List.length_take] at hk; omega
    have hT := rcolTypes_any c hs k hk2 (hg.mono (by omega))
    unfold TysP at hT
    have hlen := hg.lens k hk2 hk2 (c.sts.getD k ([], [])) (by have h3 : k < c.sts.length := (by rw [c.sts_len]; exact hk2); simp [List.getD_eq_getElem?_getD, h3])
    obtain ⟨T, hTe⟩ : ∃ T, T = (c.sts.getD k ([], [])).2 := ⟨_, rfl⟩
    rw [← hTe] at hT hlen ⊢
    have hT2 := fun (W : World) (hW : Below w.heap.size w W) => hT W (hcat.later hW)
    have HT := Lib.hid hT2
    have hl := hlen.2
    have z0 : ¬ ((k : Int) < 0) := by omega
    clear hq1 hq2 hF hD hbx hb1 hs hcat hg hi e0 hk hk2 hT hTe hlen hT2
    unfold Cat.val at *
    cases i1 : inB col 0 ((T.length : Int) - 1)
    · rw [if_pos rfl]
      go_enter Tryz.func107, Tryz.ntmps107
      go_wp2_with fail
      refine HF.out.mono ?_
      rintro e w2 ⟨rfl, hb2⟩
      obtain ⟨d1, d2, d3, d4, d5, d6, d7, d8⟩ := HD.out w2 hb2
      have HB := Lib.hid (bt Hb1.out hb2)
      clear hb2
      go_wp2_with fail
      refine (HT.out w2 HB.out).mono ?_
      rintro e w3 ⟨ao, cap, rfl, hr, _, hc, _, hb3, _⟩
      have HB3 := Lib.hid (bt HB.out hb3)
      clear hr hb3
      go_wp2_with fail
      refine (rwithin_any _ _ _ _).mono ?_
      rintro e w4 ⟨rfl, rfl⟩
      go_wp2_with fail
      exact bodyPost_ret (v := .tuple #[.int .i64 0, .int .i64 3]) (by simp [results, Tryz.results107, go_sem]) rfl ⟨rfl, HB3.out⟩
    · rw [if_neg (by decide)]
      obtain ⟨a, rfl, ha⟩ := inB_nat i1
      have g1 : T.getD (a : Int).toNat 0 = T[a] := by simp [List.getD_eq_getElem?_getD, ha]
      rw [g1]
      have Hg := Lib.hid (rfl : T[a] = T[a])
      obtain ⟨y, hy⟩ : ∃ y, y = T[a] := ⟨_, rfl⟩
      rw [← hy]
      have Hy := Lib.hid hy
      have hal : (a : Int) < (T.length : Int) := by omega
      clear g1 Hg hy
      go_enter Tryz.func107, Tryz.ntmps107
      go_wp2_with fail
      refine HF.out.mono ?_
      rintro e w2 ⟨rfl, hb2⟩
      obtain ⟨d1, d2, d3, d4, d5, d6, d7, d8⟩ := HD.out w2 hb2
      have HB := Lib.hid (bt Hb1.out hb2)
      clear hb2
      go_wp2_with fail
      refine (HT.out w2 HB.out).mono ?_
      rintro e w3 ⟨ao, cap, rfl, hr, _, hc, _, hb3, _⟩
      obtain ⟨b, off, rfl, _⟩ := hr.form (by omega)
      have c0 := RAt.int hr ha
      rw [← Hy.out] at c0
      have HB3 := Lib.hid (bt HB.out hb3)
      clear hr hb3
      go_wp2_with fail
      refine (rwithin_any _ _ _ _).mono ?_
      rintro e w4 ⟨rfl, rfl⟩
      go_wp2_with fail
      exact bodyPost_ret (v := .tuple #[.int .i64 y, .int .i64 0]) (by simp [results, Tryz.results107, go_sem]) rfl ⟨rfl, HB3.out⟩
end Go.Proofs.YtjnhighilmchaaaGreatDoor
