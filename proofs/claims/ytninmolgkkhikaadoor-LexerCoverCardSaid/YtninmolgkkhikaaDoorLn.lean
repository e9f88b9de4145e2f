/- The text of a token: the reference. -/
import Derived.Test.YtninmolgkkhikaaDoorLm
namespace Go.Proofs.YtninmolgkkhikaaDoor
open Go.RowKit Go.Proofs.EB Go.Proofs.TX
set_option maxHeartbeats 2000000
attribute [local go_sem] World.cell?_alloc_some
/-- What the reference says of a token's text. -/
def RText (o : Option (List UInt8)) (w : World) (e : Ending) (w' : World) : Prop := ∃ (u : ByteArray) (ok : Bool), e = .returned (.tuple #[.string u, .bool ok]) ∧ Below w.heap.size w w' ∧ ok = o.isSome ∧ (ok = true → u = ⟨(o.getD []).toArray⟩)
theorem rText_mk {o : Option (List UInt8)} {w w' : World} {e : Ending} (u : ByteArray) (ok : Bool) (hb : Below w.heap.size w w') (h : ok = o.isSome ∧ (ok = true → u = ⟨(o.getD []).toArray⟩)) (he : e = .returned (.tuple #[.string u, .bool ok])) : RText o w e w' := ⟨u, ok, he, hb, h.1, h.2⟩
theorem same_below {w0 w : World} {n : Nat} (h : Below w0.heap.size w0 w) : Below w0.heap.size w0 (w.drewN n) := h.trans ((away_drewN none w n).below h.size (by simp))
theorem heldS {w0 wc w1 : World} {b o : Nat} {k n p : Int} {s : ByteArray} (hb : Below wc.heap.size wc w1)
    (h : wc.cell? ⟨b, o, none⟩ = some (.int .i64 k) ∧ wc.cell? ⟨b, o + 1, none⟩ = some (.string s) ∧ wc.cell? ⟨b, o + 2, none⟩ = some (.int .i64 n) ∧ wc.cell? ⟨b, o + 3, none⟩ = some (.int .i64 p) ∧ Below w0.heap.size w0 wc) :
    w1.cell? ⟨b, o, none⟩ = some (.int .i64 k) ∧ w1.cell? ⟨b, o + 1, none⟩ = some (.string s) ∧ w1.cell? ⟨b, o + 2, none⟩ = some (.int .i64 n) ∧ w1.cell? ⟨b, o + 3, none⟩ = some (.int .i64 p) ∧ Below w0.heap.size w0 w1 := by
  obtain ⟨c0, c1, c2, c3, h0⟩ := h
  have hlt := World.block_lt_of_cell? wc _ c0
  exact ⟨(hb.cell (p := ⟨b, o, none⟩) hlt).trans c0, (hb.cell (p := ⟨b, o + 1, none⟩) hlt).trans c1, (hb.cell (p := ⟨b, o + 2, none⟩) hlt).trans c2, (hb.cell (p := ⟨b, o + 3, none⟩) hlt).trans c3, h0.trans (hb.mono h0.size)⟩
theorem rtextT_any (k n p : Int) (s : ByteArray) (w : World) (hs : s.size ≤ 1000000) :
    Calls Tryd.prog 58 #[.agg #[.int .i64 k, .string s, .int .i64 n, .int .i64 p]] w (RText (textK k n s) w) := by
  have hb0 : Below w.heap.size w (w.alloc (.cells #[.int .i64 k, .string s, .int .i64 n, .int .i64 p] 50)) := (Below.refl _ _).alloc (Nat.le_refl _) _
  have hn0 : (w.alloc (.cells #[.int .i64 k, .string s, .int .i64 n, .int .i64 p] 50)).heap[w.heap.size]? = some (.cells #[.int .i64 k, .string s, .int .i64 n, .int .i64 p] 50) := heap_alloc_new _ _
  obtain ⟨c0, c1, c2, c3, _, _, _, _⟩ := box4 hn0
  have Hb0 := Lib.hid hb0
  obtain ⟨R, hR⟩ : ∃ R, R = textK k n s := ⟨_, rfl⟩
  rw [← hR]
  clear hn0
  by_cases h1 : k = 1
  · have z1 : (k == 1) = true := by simp [h1]
    have hN := fun w => risName_any s w hs
    have hR2 : R = if nameB s.data.toList = true then some s.data.toList else none := by rw [hR]; unfold textK; rw [if_pos h1]
    have HR : Hid (nameB s.data.toList = R.isSome ∧ (nameB s.data.toList = true → s = ⟨(R.getD []).toArray⟩)) := by
      unfold Hid; rw [hR2]
      cases nameB s.data.toList
      · simp
      · simp
    generalize nameB s.data.toList = ok at *
    have HN := Lib.hid hN
    clear hN hR hR2 h1 hb0
    go_enter Tryd.func58, Tryd.ntmps58
    go_wp2_with fail
    go_quiet ((go_at_call 24; exact Calls.quiet_of_same (HN.out _)))
    go_wp2_with fail
    go_ret2
    exact rText_mk s ok (same_below Hb0.out) HR.out rfl
  · have z1 : (k == 1) = false := by simp [h1]
    by_cases h2 : k = 2
    · have z2 : (k == 2) = true := by simp [h2]
      by_cases hr : 0 ≤ n ∧ n ≤ 4294967296
      · have hR2 : R = some (Lib.itoa n) := by rw [hR]; unfold textK; rw [if_neg h1, if_pos h2, if_pos hr]
        have hf := fun w => digits_any n (by omega) (by omega) w
        obtain ⟨u, hu⟩ : ∃ u : ByteArray, u = ⟨(Lib.itoa n).toArray⟩ := ⟨_, rfl⟩
        rw [← hu] at hf
        have HR : Hid (true = R.isSome ∧ u = ⟨(R.getD []).toArray⟩) := by unfold Hid; rw [hR2, hu]; exact ⟨rfl, rfl⟩
        have HF := Lib.hid hf
        have r0 := hr.1
        have r1 := hr.2
        clear hf h1 h2 hr hR hR2 hu hb0
        go_enter Tryd.func58, Tryd.ntmps58
        go_wp2_with fail
        refine (HF.out _).mono ?_
        rintro e w1 ⟨rfl, hb1⟩
        go_wp2_with fail
        go_ret2
        exact rText_mk u true (Hb0.out.trans (hb1.mono (by simp))) ⟨HR.out.1, fun _ => HR.out.2⟩ rfl
      · have hR2 : R = none := by rw [hR]; unfold textK; rw [if_neg h1, if_pos h2, if_neg hr]
        have HR : Hid (false = R.isSome) := by unfold Hid; rw [hR2]; rfl
        have hz : n < 0 ∨ (0 ≤ n ∧ 4294967296 < n) := by omega
        clear h1 h2 hr hR hR2 hb0
        rcases hz with hz | ⟨hz, hz2⟩
        all_goals
          go_enter Tryd.func58, Tryd.ntmps58
          go_wp2_with fail
          go_ret2
          exact rText_mk ⟨#[]⟩ false Hb0.out ⟨HR.out, fun h => by cases h⟩ rfl
    · have z2 : (k == 2) = false := by simp [h2]
      by_cases h3 : k = 3
      · have z3 : (k == 3) = true := by simp [h3]
        have hR2 : R = if s.size ≤ 32 then some (quoteL s.data.toList ++ [34]) else none := by rw [hR]; unfold textK; rw [if_neg h1, if_neg h2, if_pos h3]
        have hf := fun w => rquote_any s w hs
        obtain ⟨u, hu⟩ : ∃ u : ByteArray, u = ⟨(quoteL s.data.toList ++ [34]).toArray⟩ := ⟨_, rfl⟩
        rw [← hu] at hf
        have HF := Lib.hid hf
        obtain ⟨ok, hok⟩ : ∃ ok, ok = decide ((s.size : Int) ≤ 32) := ⟨_, rfl⟩
        have HR : Hid (ok = R.isSome ∧ (ok = true → u = ⟨(R.getD []).toArray⟩)) := by
          unfold Hid; rw [hR2, hok]
          by_cases h32 : s.size ≤ 32
          · rw [if_pos h32, decide_eq_true (by omega)]; exact ⟨rfl, fun _ => hu⟩
          · rw [if_neg h32, decide_eq_false (by omega)]; exact ⟨rfl, fun h => by cases h⟩
        have hok' := hok.symm
        clear hf h1 h2 h3 hR hR2 hu hok
        go_enter Tryd.func58, Tryd.ntmps58
        go_wp2_with fail
        go_region_held3 (fun w1 => w1.cell? ⟨w.heap.size, 0, none⟩ = some (.int .i64 k) ∧ w1.cell? ⟨w.heap.size, 0 + 1, none⟩ = some (.string s) ∧ w1.cell? ⟨w.heap.size, 0 + 2, none⟩ = some (.int .i64 n) ∧ w1.cell? ⟨w.heap.size, 0 + 3, none⟩ = some (.int .i64 p) ∧ Below w.heap.size w w1)
          (first | exact ⟨c0, c1, c2, c3, hb0.drew⟩ | exact heldS (hb := by assumption) (h := by assumption))
          ((go_at_call 45; refine (HF.out _).mono ?_; rintro e w1 ⟨rfl, hb1⟩))
        obtain ⟨_, _, _, _, hbf⟩ : w1.cell? ⟨w.heap.size, 0, none⟩ = some (.int .i64 k) ∧ w1.cell? ⟨w.heap.size, 0 + 1, none⟩ = some (.string s) ∧ w1.cell? ⟨w.heap.size, 0 + 2, none⟩ = some (.int .i64 n) ∧ w1.cell? ⟨w.heap.size, 0 + 3, none⟩ = some (.int .i64 p) ∧ Below w.heap.size w w1 := by assumption
        have Hbf := Lib.hid hbf
        clear hbf
        go_wp2_with fail
        go_ret2
        exact rText_mk u ok Hbf.out HR.out rfl
      · have z3 : (k == 3) = false := by simp [h3]
        by_cases h4 : k = 4
        · have z4 : (k == 4) = true := by simp [h4]
          have hN := fun w => isSign_any s w
          have hR2 : R = if sgnB s.data.toList = true then some s.data.toList else none := by rw [hR]; unfold textK; rw [if_neg h1, if_neg h2, if_neg h3, if_pos h4]
          have HR : Hid (sgnB s.data.toList = R.isSome ∧ (sgnB s.data.toList = true → s = ⟨(R.getD []).toArray⟩)) := by
            unfold Hid; rw [hR2]
            cases sgnB s.data.toList
            · simp
            · simp
          generalize sgnB s.data.toList = ok at *
          have HN := Lib.hid hN
          clear hN hR hR2 h1 h2 h3 h4 hb0
          go_enter Tryd.func58, Tryd.ntmps58
          go_wp2_with fail
          go_quiet ((go_at_call 79; exact Calls.quiet_of_same (HN.out _)))
          go_wp2_with fail
          go_ret2
          exact rText_mk s ok (same_below Hb0.out) HR.out rfl
        · have z4 : (k == 4) = false := by simp [h4]
          have hR2 : R = none := by rw [hR]; unfold textK; rw [if_neg h1, if_neg h2, if_neg h3, if_neg h4]
          have HR : Hid (false = R.isSome) := by unfold Hid; rw [hR2]; rfl
          clear h1 h2 h3 h4 hR hR2 hb0
          go_enter Tryd.func58, Tryd.ntmps58
          go_wp2_with fail
          go_ret2
          exact rText_mk ⟨#[]⟩ false Hb0.out ⟨HR.out, fun h => by cases h⟩ rfl
end Go.Proofs.YtninmolgkkhikaaDoor
