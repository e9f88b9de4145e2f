/- Format of package expr: its function at one term. -/
import Derived.Test.YtmikeifkmjhioaaGreatDoorYm
namespace Go.Proofs.YtmikeifkmjhioaaGreatDoor
open Go.RowKit Go.Proofs.EB
set_option maxHeartbeats 4000000
set_option maxRecDepth 100000
attribute [local go_sem] World.cell?_alloc_some

def encStr (s : ByteArray) : List Value := [.string s]
/-- A row of names whose header lies in a box. -/
structure NmIn (w : World) (gr : Nat) (names : List ByteArray) : Prop where
  box : ∃ ro cap, w.cell? ⟨gr, 0, none⟩ = some (.slice ro names.length cap) ∧ RAt encStr 1 w w.heap.size ro names
  small : ∀ s ∈ names, s.size ≤ 1000
  len : names.length ≤ maxLen
theorem NmIn.below {w w' : World} {gr : Nat} {names : List ByteArray} (h : NmIn w gr names) (hb : Below w.heap.size w w') : NmIn w' gr names := by
  obtain ⟨ro, cap, hc, hr⟩ := h.box
  exact ⟨⟨ro, cap, (hb.cell (World.block_lt_of_cell? w _ hc)).trans hc, hr.later hb⟩, h.small, h.len⟩
/-- A call that gives a text. -/
def GivesS (l : List UInt8) (w : World) (e : Ending) (w' : World) : Prop := ∃ s : ByteArray, Hid (s.data.toList = l) ∧ e = .returned (.string s) ∧ Below w.heap.size w w'
theorem fmtC_any (o tk tn tc : Int) (ts : ByteArray) (l : List (List UInt8)) (s0 s1 s2 : ByteArray) (names : List ByteArray) (gr : Nat) (w : World) (hO : Ops w) (hTab : Tab w) (hR : NmIn w gr names) (ht : termB ⟨o, ⟨tk, tn, ts⟩, tc⟩ = true) (hl : arityI o = l.length)
    (hv : ∀ x ∈ l, x.length ≤ 1000000) (he : l = ([s0, s1, s2].map (·.data.toList)).take l.length) :
    Calls Tryz.prog 63 #[.agg #[.int .i64 o, .int .i64 tk, .int .i64 tn, .string ts, .int .i64 tc], .agg #[.string s0, .string s1, .string s2], .pointer (some ⟨gr, 0, none⟩)] w (GivesS (fmtT names ⟨o, ⟨tk, tn, ts⟩, tc⟩ l) w) := by
  by_cases h1 : o = 1
  · subst h1
    rw [termB_const] at ht
    have hvb : vB ⟨tk, tn, ts⟩ = true := by simp at ht; exact ht.1.1
    have e : fmtT names ⟨1, ⟨tk, tn, ts⟩, tc⟩ l = fmtV (cleanV ⟨tk, tn, ts⟩) := by rw [cleanV_idem hvb]; simp [fmtT]
    rw [e]
    have hF := fun w hT => format_any tk tn ts w (vB_size hvb) hT
    generalize fmtV (cleanV ⟨tk, tn, ts⟩) = v at *
    obtain ⟨u, hu⟩ : ∃ u, u = (⟨v.toArray⟩ : ByteArray) := ⟨_, rfl⟩
    have hu2 : Hid (u.data.toList = v) := by unfold Hid; rw [hu]
    rw [← hu] at hF
    have HF := Lib.hid hF
    have HTb := Lib.hid hTab
    clear hO hR ht hl hv he e hF hu hvb hTab
    go_enter Tryz.func63, Tryz.ntmps63
    go_wp2_with fail
    refine (HF.out _ (tab_below HTb.out (al2 _ _ _))).mono ?_
    rintro e w1 ⟨rfl, hb1⟩
    have HB := Lib.hid (bt (al2 _ _ _) hb1)
    clear hb1
    go_wp2_with fail
    go_ret
    exact ⟨u, hu2, rfl, HB.out⟩
  · have y1 : (o == 1) = false := by simpa using h1
    by_cases h2 : o = 2
    · subst h2
      rw [termB_col] at ht
      obtain ⟨m, rfl⟩ : ∃ m : Nat, tc = m := ⟨tc.toNat, by simp at ht; omega⟩
      have e : fmtT names ⟨2, ⟨tk, tn, ts⟩, m⟩ l = colName names m := by simp [fmtT]
      rw [e]
      obtain ⟨⟨ro, cap, hc, hr⟩, hs, hlen⟩ := hR
      unfold maxLen at hlen
      have hgl : gr < w.heap.size := World.block_lt_of_cell? w _ hc
      obtain ⟨hq2, _⟩ := bcell (al2 w (.cells #[.int .i64 2, .int .i64 tk, .int .i64 tn, .string ts, .int .i64 (m : Int)] 48) (.cells #[.string s0, .string s1, .string s2] 92))
      by_cases hm : m < names.length
      · obtain ⟨b, off, rfl, _⟩ := hr.form (by omega)
        have c0 := RAt.cell hr hm (j := 0) (u := .string names[m]) rfl
        rw [Nat.mul_one, Nat.add_zero] at c0
        have e2 : colName names m = names[m].data.toList := by unfold colName; simp [List.getElem?_eq_getElem hm]
        have hbl : b < w.heap.size := World.block_lt_of_cell? w _ c0
        rw [e2]
        generalize names[m] = xs at *
        clear hO ht hl hv he e e2 hr hs y1 h1
        go_enter Tryz.func63, Tryz.ntmps63
        go_wp2_with fail
        go_ret
        exact ⟨xs, rfl, rfl, al2 _ _ _⟩
      · have e2 : colName names m = [63] := by unfold colName; simp [List.getElem?_eq_none (show names.length ≤ m by omega)]
        rw [e2]
        clear hO ht hl hv he e e2 hr hs y1 h1
        go_enter Tryz.func63, Tryz.ntmps63
        go_wp2_with fail
        go_ret
        exact ⟨⟨#[63]⟩, rfl, rfl, al2 _ _ _⟩
    · have y2 : (o == 2) = false := by simpa using h2
      have h3 : 0 ≤ arityI o := by unfold termB at ht; simp at ht; exact ht.1
      have hr := arity_in h3
      have h0 : 0 < l.length := by
        rcases Nat.eq_zero_or_pos l.length with h4 | h4
        · rcases arity0 (op := o) (by omega) with h | h <;> omega
        · exact h4
      have hl3 : l.length ≤ 3 := by
        have := congrArg List.length he
        rw [List.length_take] at this
        simp at this; omega
      obtain ⟨n, hn⟩ : ∃ n, n = l.length := ⟨_, rfl⟩
      have e : fmtT names ⟨o, ⟨tk, tn, ts⟩, tc⟩ l = opName o ++ [40] ++ Lib.join l [44, 32] ++ [41] := by simp [fmtT, h1, h2]
      rw [e]
      have hw2 := al2 w (.cells #[.int .i64 o, .int .i64 tk, .int .i64 tn, .string ts, .int .i64 tc] 48) (.cells #[.string s0, .string s1, .string s2] 92)
      obtain ⟨nm, asx, k, ao, cap, et, _, c0, _, _, _⟩ := (hO.below hw2).at hr.1 hr.2
      have hnm : Hid (opName o = nm) := by unfold Hid opName; rw [et]
      have hnl : nm.length ≤ 9 := by rw [← hnm.out]; exact opName_len o
      obtain ⟨un, hun⟩ : ∃ u, u = (⟨nm.toArray⟩ : ByteArray) := ⟨_, rfl⟩
      have hul : un.size ≤ 9 := by rw [hun]; simpa [ByteArray.size] using hnl
      rw [← hun] at c0
      have hA := fun w hO => arity_any o w hO
      rw [hl, ← hn] at hA
      have hj := lens_le (l := l) hl3 hv
      obtain ⟨uj, huj⟩ : ∃ u, u = (⟨(Lib.join l [44, 32]).toArray⟩ : ByteArray) := ⟨_, rfl⟩
      have hujl : uj.size ≤ 4000000 := by rw [huj]; simp [ByteArray.size]; omega
      have hJ : ∀ W : World, W.cell? ⟨w.heap.size + 1, 0, none⟩ = some (.string s0) → W.cell? ⟨w.heap.size + 1, 1, none⟩ = some (.string s1) → W.cell? ⟨w.heap.size + 1, 2, none⟩ = some (.string s2) →
          Calls Tryz.prog 65 #[.slice (some ⟨w.heap.size + 1, 0, none⟩) n 3, .string ⟨#[44, 32]⟩] W fun e w' => e = .returned (.string uj) ∧ Below W.heap.size W w' := by
        intro W k0 k1 k2
        have hcells : ∀ (j : Nat) x, ([s0, s1, s2].take n)[j]? = some x → W.cell? ⟨w.heap.size + 1, 0 + j, none⟩ = some (.string x) := by
          intro j x hx
          rw [Nat.zero_add]
          have hx2 : [s0, s1, s2][j]? = some x := by
            rw [List.getElem?_take] at hx
            split at hx
            · exact hx
            · cases hx
          match j, hx2 with
          | 0, h => simp at h; subst h; exact k0
          | 1, h => simp at h; subst h; exact k1
          | 2, h => simp at h; subst h; exact k2
          | j + 3, h => simp at h
        have hxl : ([s0, s1, s2].take n).length = n := by rw [List.length_take]; simp; omega
        have hmap : ([s0, s1, s2].take n).map (·.data.toList) = l := by rw [List.map_take, hn]; exact he.symm
        have h9 := Tryz.strings_Join (w.heap.size + 1) 0 3 ([s0, s1, s2].take n) ⟨#[44, 32]⟩ W hcells (World.block_lt_of_cell? W _ k0) (by rw [hxl]; omega) (by rw [hxl]; omega)
        rw [hmap, hxl] at h9
        have e9 : (⟨#[44, 32]⟩ : ByteArray).data.toList = [44, 32] := rfl
        rw [e9, ← huj] at h9
        exact h9 (by omega)
      have hfin : Hid ((un ++ ⟨#[40]⟩ ++ uj ++ ⟨#[41]⟩).data.toList = opName o ++ [40] ++ Lib.join l [44, 32] ++ [41]) := by
        unfold Hid
        rw [hnm.out, hun, huj]; simp
      have HA := Lib.hid hA
      have HJ := Lib.hid hJ
      have HO := Lib.hid (hO.below hw2)
      have Hw2 := Lib.hid hw2
      have z0 : (0 : Int) ≤ o := by omega
      have z1 : o < 19 := by omega
      have hn3 : n ≤ 3 := by omega
      clear hA hJ hO hR ht hl hv he e h0 h1 h2 h3 hr hj hun huj hnl et hw2 hn hl3 hTab
      generalize opName o ++ [40] ++ Lib.join l [44, 32] ++ [41] = res at *
      go_enter Tryz.func63, Tryz.ntmps63
      go_wp2_with fail
      have hal : Tryz.prog.arrayLen 92 = 3 := by kernel_rfl
      have hn3a : (n : Int) ≤ (Tryz.prog.arrayLen 92 : Nat) := by rw [hal]; omega
      have hn3b : (n : Int) ≤ 3 := by omega
      have b40 : (⟨#[40]⟩ : ByteArray).size = 1 := rfl
      have b41 : (⟨#[41]⟩ : ByteArray).size = 1 := rfl
      have g1 : ¬ (9223372036854775807 < un.size + 1) := by omega
      have g2 : ¬ (9223372036854775807 < un.size + 1 + uj.size) := by omega
      have g3 : ¬ (9223372036854775807 < un.size + 1 + uj.size + 1) := by omega
      go_region_law (go_simp; first | (go_at_call 51; first | (refine (HA.out _ HO.out).mono ?_; rintro e w1 ⟨rfl, rfl⟩) | (refine (HA.out _ (HO.out.below ((Below.refl _ _).drew))).mono ?_; rintro e w1 ⟨rfl, rfl⟩)) | (go_at_call 65; refine (HJ.out _ (by simp) (by simp) (by simp)).mono ?_; rintro e w1 ⟨rfl, hb⟩; obtain ⟨hc, hf⟩ := bcell hb))
      all_goals
        go_wp2_with fail
        go_ret
        refine ⟨un ++ ⟨#[40]⟩ ++ uj ++ ⟨#[41]⟩, hfin, rfl, ?_⟩
        first | exact bt Hw2.out hb | exact bt Hw2.out.drew hb | exact (bt Hw2.out hb).drew | exact (bt Hw2.out.drew hb).drew
end Go.Proofs.YtmikeifkmjhioaaGreatDoor
