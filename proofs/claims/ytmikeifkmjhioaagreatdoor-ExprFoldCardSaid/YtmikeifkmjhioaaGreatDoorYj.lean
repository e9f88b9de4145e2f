/- Eval of package expr: its function at one term, reduce with it, Eval and Holds. -/
import Derived.Test.YtmikeifkmjhioaaGreatDoorYi
namespace Go.Proofs.YtmikeifkmjhioaaGreatDoor
open Go.RowKit Go.Proofs.EB
set_option maxHeartbeats 2000000
set_option maxRecDepth 100000
attribute [local go_sem] World.cell?_alloc_some

/-- A row whose header lies in a box. -/
structure RowIn (w : World) (gr : Nat) (row : List V) : Prop where
  box : ∃ ro cap, w.cell? ⟨gr, 0, none⟩ = some (.slice ro row.length cap) ∧ RAt encVal 3 w w.heap.size ro row
  small : ∀ v ∈ row, v.s.size ≤ maxLen
  len : row.length ≤ maxLen
theorem RowIn.below {w w' : World} {gr : Nat} {row : List V} (h : RowIn w gr row) (hb : Below w.heap.size w w') : RowIn w' gr row := by
  obtain ⟨ro, cap, hc, hr⟩ := h.box
  exact ⟨⟨ro, cap, (hb.cell (World.block_lt_of_cell? w _ hc)).trans hc, hr.later hb⟩, h.small, h.len⟩
theorem zero_val : V.zero = ⟨0, 0, ⟨#[]⟩⟩ := rfl
theorem evalC_any (o tk tn tc : Int) (ts : ByteArray) (l : List V) (ak an bk bn ck cn : Int) (as' bs cs : ByteArray) (row : List V) (gr : Nat) (w : World) (hO : Ops w) (hR : RowIn w gr row) (ht : termB ⟨o, ⟨tk, tn, ts⟩, tc⟩ = true) (hl : arityI o = l.length)
    (hv : ∀ v ∈ l, vB v = true) (he : l = [⟨ak, an, as'⟩, ⟨bk, bn, bs⟩, ⟨ck, cn, cs⟩].take l.length) :
    Calls Tryz.prog 31 #[.agg #[.int .i64 o, .int .i64 tk, .int .i64 tn, .string ts, .int .i64 tc], .agg #[.int .i64 ak, .int .i64 an, .string as', .int .i64 bk, .int .i64 bn, .string bs, .int .i64 ck, .int .i64 cn, .string cs], .pointer (some ⟨gr, 0, none⟩)] w (GivesV (evT cmpV row ⟨o, ⟨tk, tn, ts⟩, tc⟩ l) w) := by
  by_cases h1 : o = 1
  · subst h1
    have e : evT cmpV row ⟨1, ⟨tk, tn, ts⟩, tc⟩ l = ⟨tk, tn, ts⟩ := by simp [evT]
    rw [e]
    clear hO hR ht hl hv he e
    go_enter Tryz.func31, Tryz.ntmps31
    go_wp2_with fail
    refine bodyPost_ret (by simp [results, Tryz.results31, go_sem]; rfl) rfl ?_
    exact GivesV.mk rfl (al3 _ _ _ _)
  · have y1 : (o == 1) = false := by simpa using h1
    by_cases h2 : o = 2
    · subst h2
      rw [termB_col] at ht
      obtain ⟨m, rfl⟩ : ∃ m : Nat, tc = m := ⟨tc.toNat, by simp at ht; omega⟩
      have e : evT cmpV row ⟨2, ⟨tk, tn, ts⟩, m⟩ l = colV row m := by simp [evT]
      rw [e]
      obtain ⟨⟨ro, cap, hc, hr⟩, hs, hlen⟩ := hR
      unfold maxLen at hlen
      have hgl : gr < w.heap.size := World.block_lt_of_cell? w _ hc
      obtain ⟨hq3, _⟩ := bcell (al3 w (.cells #[.int .i64 2, .int .i64 tk, .int .i64 tn, .string ts, .int .i64 (m : Int)] 48) (.cells #[.int .i64 ak, .int .i64 an, .string as', .int .i64 bk, .int .i64 bn, .string bs, .int .i64 ck, .int .i64 cn, .string cs] 55) (.cells #[.int .i64 0, .int .i64 0, .string ⟨#[]⟩] 31))
      by_cases hm : m < row.length
      · obtain ⟨b, off, rfl, _⟩ := hr.form (by omega)
        obtain ⟨c0, c1, c2⟩ := RAt.val hr hm
        have hsz := hs _ (List.getElem_mem hm)
        have hbl : b < w.heap.size := World.block_lt_of_cell? w _ c0
        have e2 : colV row m = cleanV ⟨row[m].k, row[m].n, row[m].s⟩ := by unfold colV; simp [List.getElem?_eq_getElem hm]
        rw [e2]
        generalize row[m].k = xk at *
        generalize row[m].n = xn at *
        generalize row[m].s = xs at *
        have Hsz := Lib.hid hsz
        clear hO ht hl hv he e e2 hr hs hsz y1 h1
        go_enter Tryz.func31, Tryz.ntmps31
        go_wp2_with fail
        refine (clean_any _ _ _ _ Hsz.out).mono ?_
        rintro e w1 ⟨k1, n1, s1, rfl, hcl, hb1⟩
        have Hcl := Lib.hid hcl
        obtain ⟨hc, hf⟩ := bcell hb1
        have hz := hb1.size
        simp at hz
        clear hcl
        go_wp2_with fail
        refine bodyPost_ret (by simp [results, Tryz.results31, go_sem, hc]; rfl) rfl ?_
        exact GivesV.mk Hcl.out.symm (bl3 (bt (al3 _ _ _ _) hb1) (by omega))
      · have e2 : colV row m = V.zero := by unfold colV; simp [List.getElem?_eq_none (show row.length ≤ m by omega)]
        rw [e2]
        clear hO ht hl hv he e e2 hr hs y1 h1
        go_enter Tryz.func31, Tryz.ntmps31
        go_wp2_with fail
        refine (null_any _).mono ?_
        rintro e w1 ⟨rfl, hb1⟩
        obtain ⟨hc, hf⟩ := bcell hb1
        have hz := hb1.size
        simp at hz
        go_wp2_with fail
        refine bodyPost_ret (by simp [results, Tryz.results31, go_sem, hc]; rfl) rfl ?_
        exact GivesV.mk rfl (bl3 (bt (al3 _ _ _ _) hb1) (by omega))
    · have y2 : (o == 2) = false := by simpa using h2
      have e : evT cmpV row ⟨o, ⟨tk, tn, ts⟩, tc⟩ l = appV cmpV o l := by simp [evT, h1, h2]
      rw [e]
      have h0 : 0 < l.length := by
        have h3 : 0 ≤ arityI o := by unfold termB at ht; simp at ht; exact ht.1
        rcases Nat.eq_zero_or_pos l.length with h4 | h4
        · rcases arity0 (op := o) (by omega) with h | h <;> omega
        · exact h4
      have hA := fun w hO => apply_any o l ak an bk bn ck cn as' bs cs w hO hl h0 hv he
      generalize appV cmpV o l = v at *
      have HA := Lib.hid hA
      have HO := Lib.hid hO
      clear hA hO hR ht hl hv he e h0 h1 h2
      go_enter Tryz.func31, Tryz.ntmps31
      go_wp2_with fail
      refine (HA.out _ (HO.out.below (al3 _ _ _ _))).mono ?_
      rintro e w1 ⟨k1, n1, s1, hv, rfl, hb1⟩
      obtain ⟨hc, hf⟩ := bcell hb1
      have hz := hb1.size
      simp at hz
      go_wp2_with fail
      refine bodyPost_ret (by simp [results, Tryz.results31, go_sem, hc]; rfl) rfl ?_
      exact GivesV.mk hv.out (bl3 (bt (al3 _ _ _ _) hb1) (by omega))
end Go.Proofs.YtmikeifkmjhioaaGreatDoor
