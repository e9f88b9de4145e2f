/- Contracts of CompareRows of package value and of its reference. -/
import Derived.Test.YtdckpjkbchibjaaVh
namespace Go.Proofs.Ytdckpjkbchibjaa
open Go.RowKit Go.Proofs.EB
set_option maxHeartbeats 1000000
attribute [local go_sem] World.cell?_alloc_some

def cmpRows : List V → List V → Int
  | [], [] => 0
  | [], _ :: _ => -1
  | _ :: _, [] => 1
  | a :: l, b :: m => if cmpV a b = 0 then cmpRows l m else cmpV a b
theorem cmpRows_skip (k : Nat) : ∀ (a b : List V) (_ha : k ≤ a.length) (_hb : k ≤ b.length) (_h : ∀ j (h1 : j < a.length) (h2 : j < b.length), j < k → cmpV a[j] b[j] = 0), cmpRows a b = cmpRows (a.drop k) (b.drop k) := by
  induction k with
  | zero => intro a b _ _ _; rfl
  | succ k ih =>
    intro a b ha hb h
    match a, b, ha, hb, h with
    | x :: l, y :: m, ha, hb, h =>
      have h0 := h 0 (by simp) (by simp) (by omega)
      simp only [List.getElem_cons_zero] at h0
      simp only [cmpRows, h0, if_true, List.drop_succ_cons]
      exact ih l m (by simpa using ha) (by simpa using hb) fun j h1 h2 hj => by
        have := h (j + 1) (by simpa using h1) (by simpa using h2) (by omega)
        simpa using this
    | [], _, ha, _, _ => simp at ha
    | _ :: _, [], _, hb, _ => simp at hb
theorem cmpRows_hit {k : Nat} {a b : List V} (ha : k < a.length) (hb : k < b.length) (h : ∀ j (h1 : j < a.length) (h2 : j < b.length), j < k → cmpV a[j] b[j] = 0) (hne : cmpV a[k] b[k] ≠ 0) : cmpRows a b = cmpV a[k] b[k] := by
  rw [cmpRows_skip k a b (by omega) (by omega) h, List.drop_eq_getElem_cons ha, List.drop_eq_getElem_cons hb]
  simp [cmpRows, hne]
theorem cmpRows_end {a b : List V} (h : ∀ j (h1 : j < a.length) (h2 : j < b.length), j < min a.length b.length → cmpV a[j] b[j] = 0) : cmpRows a b = if a.length < b.length then -1 else if b.length < a.length then 1 else 0 := by
  rw [cmpRows_skip (min a.length b.length) a b (by omega) (by omega) h]
  rcases Nat.lt_trichotomy a.length b.length with hl | hl | hl
  · rw [Nat.min_eq_left (by omega), List.drop_of_length_le (Nat.le_refl _), List.drop_eq_getElem_cons hl]
    simp [cmpRows, hl]
  · rw [hl, Nat.min_self, List.drop_of_length_le (Nat.le_refl _), List.drop_of_length_le (by omega)]
    simp [cmpRows]
  · have h2 : ¬ a.length < b.length := by omega
    rw [Nat.min_eq_right (by omega), List.drop_of_length_le (Nat.le_refl b.length), List.drop_eq_getElem_cons hl]
    simp [cmpRows, hl, h2]

theorem heldVV_step {w0 wc w1 : World} {b o b' o' : Nat} {k n k' n' : Int} {s s' : ByteArray} (hb : Below wc.heap.size wc w1)
    (h : wc.cell? ⟨b, o, none⟩ = some (.int .i64 k) ∧ wc.cell? ⟨b, o + 1, none⟩ = some (.int .i64 n) ∧ wc.cell? ⟨b, o + 2, none⟩ = some (.string s) ∧ wc.cell? ⟨b', o', none⟩ = some (.int .i64 k') ∧ wc.cell? ⟨b', o' + 1, none⟩ = some (.int .i64 n') ∧ wc.cell? ⟨b', o' + 2, none⟩ = some (.string s') ∧ Below w0.heap.size w0 wc) :
    w1.cell? ⟨b, o, none⟩ = some (.int .i64 k) ∧ w1.cell? ⟨b, o + 1, none⟩ = some (.int .i64 n) ∧ w1.cell? ⟨b, o + 2, none⟩ = some (.string s) ∧ w1.cell? ⟨b', o', none⟩ = some (.int .i64 k') ∧ w1.cell? ⟨b', o' + 1, none⟩ = some (.int .i64 n') ∧ w1.cell? ⟨b', o' + 2, none⟩ = some (.string s') ∧ Below w0.heap.size w0 w1 := by
  obtain ⟨c0, c1, c2, d0, d1, d2, h0⟩ := h
  have hlt := World.block_lt_of_cell? wc _ c0
  have hlt' := World.block_lt_of_cell? wc _ d0
  exact ⟨(hb.cell (p := ⟨b, o, none⟩) hlt).trans c0, (hb.cell (p := ⟨b, o + 1, none⟩) hlt).trans c1, (hb.cell (p := ⟨b, o + 2, none⟩) hlt).trans c2, (hb.cell (p := ⟨b', o', none⟩) hlt').trans d0, (hb.cell (p := ⟨b', o' + 1, none⟩) hlt').trans d1, (hb.cell (p := ⟨b', o' + 2, none⟩) hlt').trans d2, h0.trans (hb.mono h0.size)⟩

theorem compareFunc_any (ao bo : Option Addr) (ca cb : Nat) (a b : List V) (w : World) (ha : a.length ≤ maxLen) (_hb : b.length ≤ maxLen) (hra : RowAt w w.heap.size ao a) (hrb : RowAt w w.heap.size bo b) :
    Calls Try.prog 63 #[.slice ao a.length ca, .slice bo b.length cb] w fun e w' => e = .returned (.int .i64 (cmpRows a b)) ∧ Below w.heap.size w w' := by
  unfold maxLen at ha
  go_enter Try.func63, Try.ntmps63
  go_wp2_with fail
  go_in
  go_wp2_with fail
  go_loopw [13] (fun i wr => ∃ k : Nat, k ≤ a.length ∧ k ≤ b.length ∧ i = .int .i64 k ∧ Below w.heap.size w wr ∧ Hid (∀ j (h1 : j < a.length) (h2 : j < b.length), j < k → cmpV a[j] b[j] = 0)) (fun i _ => a.length - (intOf i).toNat)
  case atStart => exact ⟨0, Nat.zero_le _, Nat.zero_le _, rfl, Below.refl _ _, fun j _ _ h => absurd h (by omega)⟩
  case round =>
    obtain ⟨i, hi, hi2, rfl, hbl, hall⟩ := hrel
    by_cases hlt : i < a.length
    · obtain ⟨b1, o1, k1, n1, s1, rfl, hB1, hv1, hok1, c1, c2, c3⟩ := (hra.below hbl).at hlt
      by_cases hlt2 : i < b.length
      · obtain ⟨b2, o2, k2, n2, s2, rfl, hB2, hv2, hok2, d1, d2, d3⟩ := (hrb.below hbl).at hlt2
        have Hv1 := Lib.hid hv1
        have Hv2 := Lib.hid hv2
        have Hok1 := Lib.hid hok1
        have Hok2 := Lib.hid hok2
        clear hv1 hv2 hok1 hok2
        obtain ⟨c, hc⟩ : ∃ c, cmpV ⟨k1, n1, s1⟩ ⟨k2, n2, s2⟩ = c := ⟨_, rfl⟩
        have Hc := Lib.hid hc
        clear hc
        have hs0 := hbl.size
        by_cases hz : c = 0
        · subst hz
          go_wp2_with fail
          refine (compare_any _ _ _ _ _ _ _ Hok1.out.2.2 Hok2.out.2.2).mono ?_
          simp only [Hc.out]
          rintro e w1 ⟨rfl, hb1⟩
          go_wp2_with fail
          go_roundw
          case rel =>
            refine ⟨i + 1, by omega, by omega, by go_num, ?_, ?_⟩
            · exact hbl.trans (((((Below.refl _ _).alloc (by omega) _).alloc (by simp; omega) _)).trans (hb1.mono (by simp; omega)))
            · intro j h1 h2 hj
              by_cases hje : j < i
              · exact hall.out j h1 h2 hje
              · obtain rfl : j = i := by omega
                rw [Hv1.out, Hv2.out]; exact Hc.out
          case measure => simp [intOf]; omega
        · have hz1 : (c == 0) = false := by simpa using hz
          have hz2 : (c != 0) = true := by simpa using hz
          have hres := cmpRows_hit hlt hlt2 hall.out (by rw [Hv1.out, Hv2.out, Hc.out]; exact hz)
          rw [Hv1.out, Hv2.out, Hc.out] at hres
          have Hres := Lib.hid hres
          clear hz hres
          go_wp2_with fail
          refine (compare_any _ _ _ _ _ _ _ Hok1.out.2.2 Hok2.out.2.2).mono ?_
          simp only [Hc.out]
          rintro e w1 ⟨rfl, hb1⟩
          go_wp2_with fail
          go_ret
          exact ⟨by rw [Hres.out] <;> rfl, hbl.trans (((((Below.refl _ _).alloc (by omega) _).alloc (by simp; omega) _)).trans (hb1.mono (by simp; omega)))⟩
      · have hs0 := hbl.size
        have hres := cmpRows_end (a := a) (b := b) (fun j h1 h2 hj => hall.out j h1 h2 (by omega))
        rw [if_neg (by omega), if_pos (by omega)] at hres
        have Hres := Lib.hid hres
        clear hres
        go_wp2_with fail
        go_ret
        exact ⟨by rw [Hres.out] <;> rfl, (hbl.alloc hs0 _)⟩
    · have hres := cmpRows_end (a := a) (b := b) (fun j h1 h2 hj => hall.out j h1 h2 (by omega))
      by_cases hl2 : a.length < b.length
      · rw [if_pos hl2] at hres
        have Hres := Lib.hid hres
        clear hres
        go_wp2_with fail
        go_ret
        exact ⟨by rw [Hres.out] <;> rfl, hbl⟩
      · rw [if_neg hl2, if_neg (by omega)] at hres
        have Hres := Lib.hid hres
        clear hres
        go_wp2_with fail
        go_ret
        exact ⟨by rw [Hres.out] <;> rfl, hbl⟩

theorem rcompareRows_any (ao bo : Option Addr) (ca cb : Nat) (a b : List V) (w : World) (ha : a.length ≤ maxLen) (_hb : b.length ≤ maxLen) (hra : RowAt w w.heap.size ao a) (hrb : RowAt w w.heap.size bo b) :
    Calls Try.prog 43 #[.slice ao a.length ca, .slice bo b.length cb] w fun e w' => e = .returned (.int .i64 (cmpRows a b)) ∧ Below w.heap.size w w' := by
  unfold maxLen at ha
  go_enter Try.func43, Try.ntmps43
  go_wp2_with fail
  go_loopw [5] (fun i wr => ∃ k : Nat, k ≤ a.length ∧ k ≤ b.length ∧ i = .int .i64 k ∧ Below w.heap.size w wr ∧ Hid (∀ j (h1 : j < a.length) (h2 : j < b.length), j < k → cmpV a[j] b[j] = 0)) (fun i _ => a.length - (intOf i).toNat)
  case atStart => exact ⟨0, Nat.zero_le _, Nat.zero_le _, rfl, Below.refl _ _, fun j _ _ h => absurd h (by omega)⟩
  case round =>
    obtain ⟨i, hi, hi2, rfl, hbl, hall⟩ := hrel
    by_cases hlt : i < a.length
    · obtain ⟨b1, o1, k1, n1, s1, rfl, hB1, hv1, hok1, c1, c2, c3⟩ := (hra.below hbl).at hlt
      by_cases hlt2 : i < b.length
      · obtain ⟨b2, o2, k2, n2, s2, rfl, hB2, hv2, hok2, d1, d2, d3⟩ := (hrb.below hbl).at hlt2
        have Hv1 := Lib.hid hv1
        have Hv2 := Lib.hid hv2
        have Hok1 := Lib.hid hok1
        have Hok2 := Lib.hid hok2
        have q1 : (i : Int) < (a.length : Int) := by omega
        have q2 : (i : Int) < (b.length : Int) := by omega
        have q3 : (0 : Int) ≤ (i : Int) := by omega
        clear hv1 hv2 hok1 hok2
        obtain ⟨c, hc⟩ : ∃ c, cmpV ⟨k1, n1, s1⟩ ⟨k2, n2, s2⟩ = c := ⟨_, rfl⟩
        have Hc := Lib.hid hc
        clear hc
        have hs0 := hbl.size
        by_cases hz : c = 0
        · subst hz
          go_wp2_with fail
          go_region_held3 (fun w1 => w1.cell? ⟨b1, o1 + i * 3, none⟩ = some (.int .i64 k1) ∧ w1.cell? ⟨b1, o1 + i * 3 + 1, none⟩ = some (.int .i64 n1) ∧ w1.cell? ⟨b1, o1 + i * 3 + 2, none⟩ = some (.string s1) ∧ w1.cell? ⟨b2, o2 + i * 3, none⟩ = some (.int .i64 k2) ∧ w1.cell? ⟨b2, o2 + i * 3 + 1, none⟩ = some (.int .i64 n2) ∧ w1.cell? ⟨b2, o2 + i * 3 + 2, none⟩ = some (.string s2) ∧ Below w.heap.size w w1)
            (first | exact ⟨c1, c2, c3, d1, d2, d3, hbl.drew⟩ | exact heldVV_step (hb := by assumption) (h := by assumption))
            ((go_at_call 65; refine (rcompare_any _ _ _ _ _ _ _ Hok1.out.2.2 Hok2.out.2.2).mono ?_; simp only [Hc.out]; rintro e w1 ⟨rfl, hb1⟩))
          obtain ⟨_, _, _, _, _, _, hbf⟩ : w1.cell? ⟨b1, o1 + i * 3, none⟩ = some (.int .i64 k1) ∧ w1.cell? ⟨b1, o1 + i * 3 + 1, none⟩ = some (.int .i64 n1) ∧ w1.cell? ⟨b1, o1 + i * 3 + 2, none⟩ = some (.string s1) ∧ w1.cell? ⟨b2, o2 + i * 3, none⟩ = some (.int .i64 k2) ∧ w1.cell? ⟨b2, o2 + i * 3 + 1, none⟩ = some (.int .i64 n2) ∧ w1.cell? ⟨b2, o2 + i * 3 + 2, none⟩ = some (.string s2) ∧ Below w.heap.size w w1 := by assumption
          go_wp2_with fail
          go_roundw
          case rel =>
            refine ⟨i + 1, by omega, by omega, by go_num, ?_, ?_⟩
            · exact hbf
            · intro j h1 h2 hj
              by_cases hje : j < i
              · exact hall.out j h1 h2 hje
              · obtain rfl : j = i := by omega
                rw [Hv1.out, Hv2.out]; exact Hc.out
          case measure => simp [intOf]; omega
        · have hz1 : (c == 0) = false := by simpa using hz
          have hz2 : (c != 0) = true := by simpa using hz
          have hres := cmpRows_hit hlt hlt2 hall.out (by rw [Hv1.out, Hv2.out, Hc.out]; exact hz)
          rw [Hv1.out, Hv2.out, Hc.out] at hres
          have Hres := Lib.hid hres
          clear hz hres
          go_wp2_with fail
          go_region_held3 (fun w1 => w1.cell? ⟨b1, o1 + i * 3, none⟩ = some (.int .i64 k1) ∧ w1.cell? ⟨b1, o1 + i * 3 + 1, none⟩ = some (.int .i64 n1) ∧ w1.cell? ⟨b1, o1 + i * 3 + 2, none⟩ = some (.string s1) ∧ w1.cell? ⟨b2, o2 + i * 3, none⟩ = some (.int .i64 k2) ∧ w1.cell? ⟨b2, o2 + i * 3 + 1, none⟩ = some (.int .i64 n2) ∧ w1.cell? ⟨b2, o2 + i * 3 + 2, none⟩ = some (.string s2) ∧ Below w.heap.size w w1)
            (first | exact ⟨c1, c2, c3, d1, d2, d3, hbl.drew⟩ | exact heldVV_step (hb := by assumption) (h := by assumption))
            ((go_at_call 65; refine (rcompare_any _ _ _ _ _ _ _ Hok1.out.2.2 Hok2.out.2.2).mono ?_; simp only [Hc.out]; rintro e w1 ⟨rfl, hb1⟩))
          obtain ⟨_, _, _, _, _, _, hbf⟩ : w1.cell? ⟨b1, o1 + i * 3, none⟩ = some (.int .i64 k1) ∧ w1.cell? ⟨b1, o1 + i * 3 + 1, none⟩ = some (.int .i64 n1) ∧ w1.cell? ⟨b1, o1 + i * 3 + 2, none⟩ = some (.string s1) ∧ w1.cell? ⟨b2, o2 + i * 3, none⟩ = some (.int .i64 k2) ∧ w1.cell? ⟨b2, o2 + i * 3 + 1, none⟩ = some (.int .i64 n2) ∧ w1.cell? ⟨b2, o2 + i * 3 + 2, none⟩ = some (.string s2) ∧ Below w.heap.size w w1 := by assumption
          go_wp2_with fail
          go_ret
          exact ⟨by rw [Hres.out] <;> rfl, hbf⟩
      · have hres := cmpRows_end (a := a) (b := b) (fun j h1 h2 hj => hall.out j h1 h2 (by omega))
        rw [if_neg (by omega), if_pos (by omega)] at hres
        have Hres := Lib.hid hres
        clear hres
        go_wp2_with fail
        go_ret
        exact ⟨by rw [Hres.out] <;> rfl, hbl⟩
    · have hres := cmpRows_end (a := a) (b := b) (fun j h1 h2 hj => hall.out j h1 h2 (by omega))
      by_cases hl2 : a.length < b.length
      · rw [if_pos hl2] at hres
        have Hres := Lib.hid hres
        clear hres
        go_wp2_with fail
        go_ret
        exact ⟨by rw [Hres.out] <;> rfl, hbl⟩
      · rw [if_neg hl2, if_neg (by omega)] at hres
        have Hres := Lib.hid hres
        clear hres
        go_wp2_with fail
        go_ret
        exact ⟨by rw [Hres.out] <;> rfl, hbl⟩
end Go.Proofs.Ytdckpjkbchibjaa
