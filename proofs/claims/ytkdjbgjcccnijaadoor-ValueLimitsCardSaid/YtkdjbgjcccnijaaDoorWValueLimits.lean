/- The walk of the law ValueLimits. -/
import Derived.Test.YtkdjbgjcccnijaaDoorVf
namespace Go.Proofs.YtkdjbgjcccnijaaDoor
open Go.RowKit Go.Proofs.EB
set_option maxHeartbeats 1000000
theorem infoV : (Tryd.prog.info? 27).map (fun i => (i.zero, i.size, i.bytes)) = some (some (.agg #[.int .i64 0, .int .i64 0, .string ⟨#[]⟩]), 3, 32) := by kernel_rfl
def xs (n : Nat) : ByteArray := ⟨(List.replicate n (120 : UInt8)).toArray⟩
theorem xs_size (n : Nat) : (xs n).size = n := by simp [xs, ByteArray.size]
theorem xs_succ (n : Nat) : xs n ++ ⟨#[120]⟩ = xs (n + 1) := by
  apply ByteArray.ext
  rw [ByteArray.data_append]
  simp only [xs]
  rw [List.replicate_succ']
  apply Array.ext'
  simp
theorem made_zero (n i j : Nat) (hi : i < n) (hj : j < 3) : (madeCells #[.int .i64 0, .int .i64 0, .string ⟨#[]⟩] (n * 3)).toList[i * 3 + j]? = some (#[Value.int .i64 0, .int .i64 0, .string ⟨#[]⟩][j]'(by simpa using hj)) := by
  have h1 : i * 3 + j < n * 3 := by omega
  have h2 : (i * 3 + j) % 3 = j := by omega
  have h3 : (#[.int .i64 0, .int .i64 0, .string ⟨#[]⟩] : Array Value).size = 3 := rfl
  simp only [madeCells, Array.toList_map, Array.toList_range, List.getElem?_map, List.getElem?_range h1, Option.map_some, h3, h2]
  match j, hj with
  | 0, _ => rfl
  | 1, _ => rfl
  | 2, _ => rfl
theorem zeroRow {w : World} {B g n : Nat} (h : w.ownsRow B 27 3 (.slice (some ⟨g, 0, none⟩) n n) n (madeCells #[.int .i64 0, .int .i64 0, .string ⟨#[]⟩] (n * 3)).toList) : RowAt w w.heap.size (some ⟨g, 0, none⟩) (List.replicate n V.zero) := by
  refine ⟨fun v hv => ?_, .inr ⟨g, 0, rfl, (h.lt g rfl).2, fun i hi => ?_⟩⟩
  · rw [(List.mem_replicate.1 hv).2]
    exact ⟨by simp [V.zero], by simp [V.zero], by simp [V.zero, maxLen, ByteArray.size]⟩
  · simp only [List.length_replicate] at hi
    simp only [List.getElem_replicate]
    have c0 := h.cells (g := g) rfl _ _ (made_zero n i 0 hi (by omega))
    have c1 := h.cells (g := g) rfl _ _ (made_zero n i 1 hi (by omega))
    have c2 := h.cells (g := g) rfl _ _ (made_zero n i 2 hi (by omega))
    rw [Go.WideShapes.add_plain] at c0 c1 c2
    exact ⟨by simpa [V.zero] using c0, by simpa [Nat.add_assoc, V.zero] using c1, by simpa [Nat.add_assoc, V.zero] using c2⟩
theorem rowB_zero (n : Nat) : rowB (List.replicate n V.zero) = decide (n ≤ 16) := by
  have h : (List.replicate n V.zero).all vB = true := by
    rw [List.all_eq_true]; intro x hx; rw [(List.mem_replicate.1 hx).2]; simp [vB, validB, V.zero]
  simp only [rowB, h, List.length_replicate, Bool.and_true]
theorem made_away {w w' : World} (h : w.grownBy w' none) : Away none w w' := ⟨h.os, h.tape, h.output, h.size, h.block⟩
theorem made_cell {w w' : World} {o : Obj} {b j : Nat} {v : Value} (h : Away none (w.alloc o) w') (hb : b < w.heap.size) (hc : w.cell? ⟨b, j, none⟩ = some v) : w'.cell? ⟨b, j, none⟩ = some v :=
  (h.cell (a := ⟨b, j, none⟩) (by simp; omega) (by simp)).trans ((World.cell?_of_block (Below.heap_alloc w o b hb)).trans hc)
theorem cells3_below {w w' : World} {b : Nat} {u0 u1 u2 : Value} (hb : Below w.heap.size w w') (hlt : b < w.heap.size) (h0 : w.cell? ⟨b, 0, none⟩ = some u0) (h1 : w.cell? ⟨b, 1, none⟩ = some u1) (h2 : w.cell? ⟨b, 2, none⟩ = some u2) :
    w'.cell? ⟨b, 0, none⟩ = some u0 ∧ w'.cell? ⟨b, 1, none⟩ = some u1 ∧ w'.cell? ⟨b, 2, none⟩ = some u2 :=
  ⟨(hb.cell (p := ⟨b, 0, none⟩) hlt).trans h0, (hb.cell (p := ⟨b, 1, none⟩) hlt).trans h1, (hb.cell (p := ⟨b, 2, none⟩) hlt).trans h2⟩
theorem validRow_zero (ao : Option Addr) (cap n : Nat) (w : World) (hn : n ≤ maxLen) (hr : RowAt w w.heap.size ao (List.replicate n V.zero)) :
    Calls Tryd.prog 20 #[.slice ao n cap] w fun e w' => e = .returned (.bool (rowB (List.replicate n V.zero))) ∧ Below w.heap.size w w' := by
  have := validRow_any ao cap (List.replicate n V.zero) w (by rw [List.length_replicate]; exact hn) hr
  rwa [List.length_replicate] at this
theorem tmod3 (n : Int) : n.tmod 3 = -2 ∨ n.tmod 3 = -1 ∨ n.tmod 3 = 0 ∨ n.tmod 3 = 1 ∨ n.tmod 3 = 2 := by
  have h1 : n.tmod 3 < 3 := Int.tmod_lt_of_pos n (by decide)
  have h2 : (-n).tmod 3 < 3 := Int.tmod_lt_of_pos (-n) (by decide)
  rw [Int.neg_tmod] at h2
  omega
theorem limits_m2 (n : Int) (hm : n.tmod 3 = -2) (w : World) :
    Calls Tryd.prog 4 #[.int .i8 n] w fun e w' => e = .returned (.bool true) ∧ Below w.heap.size w w' := by
  obtain ⟨i0, hi, hz0, hz1, hz2⟩ := info_parts infoV
  have hv1 : validB 1 (4294967294) ⟨#[]⟩ = true := by decide +kernel
  have hv2 : validB 1 (-4294967298) ⟨#[]⟩ = false := by decide +kernel
  have hv3 : validB 2 0 (xs 30) = true := by simp [validB, xs_size]
  have hv4 : rowB (List.replicate 14 V.zero) = true := by rw [rowB_zero]; decide
  have hlen : (List.replicate 14 V.zero).length = 14 := by simp
  have Hlen := Lib.hid hlen
  have Hb := Lib.hid hz2
  clear hlen hz2
  go_enter Tryd.func4, Tryd.ntmps4
  go_wp2_with fail
  have hb1 : Below w.heap.size w ((w.alloc (.cells #[.int .i64 1, .int .i64 (4294967294), .string ⟨#[]⟩] 27)).alloc (.cells #[.int .i64 1, .int .i64 (-4294967298), .string ⟨#[]⟩] 27)) := ((Below.refl _ _).alloc (Nat.le_refl _) _).alloc (by simp) _
  have hn0 : ((w.alloc (.cells #[.int .i64 1, .int .i64 (4294967294), .string ⟨#[]⟩] 27)).alloc (.cells #[.int .i64 1, .int .i64 (-4294967298), .string ⟨#[]⟩] 27)).heap[w.heap.size]? = some (.cells #[.int .i64 1, .int .i64 (4294967294), .string ⟨#[]⟩] 27 (0, 0)) := by rw [Below.heap_alloc _ _ _ (by simp)]; exact heap_alloc_new _ _
  have hn1 : ((w.alloc (.cells #[.int .i64 1, .int .i64 (4294967294), .string ⟨#[]⟩] 27)).alloc (.cells #[.int .i64 1, .int .i64 (-4294967298), .string ⟨#[]⟩] 27)).heap[w.heap.size + 1]? = some (.cells #[.int .i64 1, .int .i64 (-4294967298), .string ⟨#[]⟩] 27 (0, 0)) := by have := heap_alloc_new (w.alloc (.cells #[.int .i64 1, .int .i64 (4294967294), .string ⟨#[]⟩] 27)) (.cells #[.int .i64 1, .int .i64 (-4294967298), .string ⟨#[]⟩] 27); simpa using this
  generalize (w.alloc (.cells #[.int .i64 1, .int .i64 (4294967294), .string ⟨#[]⟩] 27)).alloc (.cells #[.int .i64 1, .int .i64 (-4294967298), .string ⟨#[]⟩] 27) = w1 at *
  go_loop [6, 7] (fun s i => ∃ j : Nat, j ≤ 30 ∧ i = .int .i64 j ∧ s = .string (xs j)) (fun _ i => 30 - (intOf i).toNat)
  case atStart => exact ⟨0, by omega, rfl, rfl⟩
  case round =>
    obtain ⟨j, hj, rfl, rfl⟩ := hrel
    by_cases hlt : j < 30
    · clear hv1 hv2 hv3 hv4 hn0 hn1 hi hz0 hz1
      have hadd : ∀ w, (Op.stringOp .add (xs j) ⟨#[120]⟩).run Tryd.prog w = .ok (.string (xs (j + 1))) w := fun w => by
        rw [run_string_add_sum _ _ _ (by rw [xs_size]; show j + 1 ≤ _; omega), xs_succ]
      go_wp2_with fail
      go_round
      case rel => exact ⟨j + 1, by omega, by go_num, rfl⟩
      case measure => simp [intOf]; omega
    · obtain rfl : j = 30 := by omega
      obtain ⟨a0, a1, a2, _, _, _⟩ := box3 hn0
      obtain ⟨b0, b1, b2, _, _, _⟩ := box3 hn1
      have la := World.block_lt_of_cell? _ _ a0
      have lb := World.block_lt_of_cell? _ _ b0
      simp only at la lb
      clear hn0 hn1 hm
      have HV1 := Lib.hid hv1
      have HV2 := Lib.hid hv2
      have HV3 := Lib.hid hv3
      have HV4 := Lib.hid hv4
      clear hv1 hv2 hv3 hv4
      have cx : (w1.alloc (.cells #[.int .i64 2, .int .i64 0, .string (xs 30)] 27)).heap[w1.heap.size]? = some (.cells #[.int .i64 2, .int .i64 0, .string (xs 30)] 27 (0, 0)) := heap_alloc_new _ _
      have HX := Lib.hid cx
      clear cx
      go_wp2_with (at_make; refine wpList_make_full _ rfl (.tmp 30) (.tmp 30) 22 rfl w.heap.size 27 i0 _ 3 Tryd.underlying22 hi hz0 hz1 .i64 .i64 14 14 14 rfl rfl rfl rfl (by rw [Hb.out]; decide) (by decide) (by simp; omega) ?_; intro w3 hown3 hg3; have hA := made_away hg3; obtain ⟨x0, x1, x2, _, _, _⟩ := box3 ((hA.block w1.heap.size (by simp) (by simp)).trans HX.out); have a0' := made_cell hA la a0; have a1' := made_cell hA la a1; have a2' := made_cell hA la a2; have b0' := made_cell hA lb b0; have b1' := made_cell hA lb b1; have b2' := made_cell hA lb b2; clear a0 a1 a2 b0 b1 b2)
      have hrow : RowAt w3 w3.heap.size (some ⟨w1.heap.size + 1, 0, none⟩) (List.replicate 14 V.zero) := by simpa using zeroRow hown3
      clear hown3 hg3
      have h31 := hA.size
      simp at h31
      have hb3 : Below w.heap.size w w3 := hb1.trans (((Below.refl _ _).alloc (by omega) _).trans (hA.below (by simp; omega) (by simp)))
      have lx : w1.heap.size < w3.heap.size := by omega
      have lb3 : w.heap.size + 1 < w3.heap.size := by omega
      clear hi hz0 hz1 Hb hA hb1 la lb h31
      refine (valid_b _ _ _ _ (by simp [maxLen, ByteArray.size])).mono ?_
      simp only [HV1.out]
      rintro e w4 ⟨rfl, hb4⟩
      obtain ⟨b0, b1, b2⟩ := cells3_below hb4 lb3 b0' b1' b2'
      obtain ⟨y0, y1, y2⟩ := cells3_below hb4 lx x0 x1 x2
      have s4 := hb4.size
      clear a0' a1' a2' b0' b1' b2' x0 x1 x2
      go_wp2_with fail
      refine (valid_b _ _ _ _ (by simp [maxLen, ByteArray.size])).mono ?_
      simp only [HV2.out]
      rintro e w5 ⟨rfl, hb5⟩
      obtain ⟨x0, x1, x2⟩ := cells3_below hb5 (by omega) y0 y1 y2
      have s5 := hb5.size
      clear y0 y1 y2 b0 b1 b2
      go_wp2_with fail
      refine (valid_b _ _ _ _ (by rw [xs_size]; decide)).mono ?_
      simp only [HV3.out]
      rintro e w6 ⟨rfl, hb6⟩
      clear x0 x1 x2
      have s6 := hb6.size
      have hb36 : Below w3.heap.size w3 w6 := (hb4.trans (hb5.mono s4)).trans (hb6.mono (by omega))
      go_wp2_with fail
      refine (validRow_zero _ _ 14 _ (by decide) ((hrow.below hb36).mono hb36.size)).mono ?_
      simp only [HV4.out]
      rintro e w7 ⟨rfl, hb7⟩
      go_wp2_with fail
      refine (awake_any _).mono ?_
      rintro e w8 ⟨rfl, hb8⟩
      go_wp2_with fail
      go_ret
      refine ⟨rfl, hb3.trans ((hb36.mono (by have := hb3.size; omega)).trans ((hb7.mono (by have := hb3.size; omega)).trans (hb8.mono (by have := hb3.size; have := hb7.size; omega))))⟩

theorem limits_m1 (n : Int) (hm : n.tmod 3 = -1) (w : World) :
    Calls Tryd.prog 4 #[.int .i8 n] w fun e w' => e = .returned (.bool true) ∧ Below w.heap.size w w' := by
  obtain ⟨i0, hi, hz0, hz1, hz2⟩ := info_parts infoV
  have hv1 : validB 1 (4294967295) ⟨#[]⟩ = true := by decide +kernel
  have hv2 : validB 1 (-4294967297) ⟨#[]⟩ = false := by decide +kernel
  have hv3 : validB 2 0 (xs 31) = true := by simp [validB, xs_size]
  have hv4 : rowB (List.replicate 15 V.zero) = true := by rw [rowB_zero]; decide
  have hlen : (List.replicate 15 V.zero).length = 15 := by simp
  have Hlen := Lib.hid hlen
  have Hb := Lib.hid hz2
  clear hlen hz2
  go_enter Tryd.func4, Tryd.ntmps4
  go_wp2_with fail
  have hb1 : Below w.heap.size w ((w.alloc (.cells #[.int .i64 1, .int .i64 (4294967295), .string ⟨#[]⟩] 27)).alloc (.cells #[.int .i64 1, .int .i64 (-4294967297), .string ⟨#[]⟩] 27)) := ((Below.refl _ _).alloc (Nat.le_refl _) _).alloc (by simp) _
  have hn0 : ((w.alloc (.cells #[.int .i64 1, .int .i64 (4294967295), .string ⟨#[]⟩] 27)).alloc (.cells #[.int .i64 1, .int .i64 (-4294967297), .string ⟨#[]⟩] 27)).heap[w.heap.size]? = some (.cells #[.int .i64 1, .int .i64 (4294967295), .string ⟨#[]⟩] 27 (0, 0)) := by rw [Below.heap_alloc _ _ _ (by simp)]; exact heap_alloc_new _ _
  have hn1 : ((w.alloc (.cells #[.int .i64 1, .int .i64 (4294967295), .string ⟨#[]⟩] 27)).alloc (.cells #[.int .i64 1, .int .i64 (-4294967297), .string ⟨#[]⟩] 27)).heap[w.heap.size + 1]? = some (.cells #[.int .i64 1, .int .i64 (-4294967297), .string ⟨#[]⟩] 27 (0, 0)) := by have := heap_alloc_new (w.alloc (.cells #[.int .i64 1, .int .i64 (4294967295), .string ⟨#[]⟩] 27)) (.cells #[.int .i64 1, .int .i64 (-4294967297), .string ⟨#[]⟩] 27); simpa using this
  generalize (w.alloc (.cells #[.int .i64 1, .int .i64 (4294967295), .string ⟨#[]⟩] 27)).alloc (.cells #[.int .i64 1, .int .i64 (-4294967297), .string ⟨#[]⟩] 27) = w1 at *
  go_loop [6, 7] (fun s i => ∃ j : Nat, j ≤ 31 ∧ i = .int .i64 j ∧ s = .string (xs j)) (fun _ i => 31 - (intOf i).toNat)
  case atStart => exact ⟨0, by omega, rfl, rfl⟩
  case round =>
    obtain ⟨j, hj, rfl, rfl⟩ := hrel
    by_cases hlt : j < 31
    · clear hv1 hv2 hv3 hv4 hn0 hn1 hi hz0 hz1
      have hadd : ∀ w, (Op.stringOp .add (xs j) ⟨#[120]⟩).run Tryd.prog w = .ok (.string (xs (j + 1))) w := fun w => by
        rw [run_string_add_sum _ _ _ (by rw [xs_size]; show j + 1 ≤ _; omega), xs_succ]
      go_wp2_with fail
      go_round
      case rel => exact ⟨j + 1, by omega, by go_num, rfl⟩
      case measure => simp [intOf]; omega
    · obtain rfl : j = 31 := by omega
      obtain ⟨a0, a1, a2, _, _, _⟩ := box3 hn0
      obtain ⟨b0, b1, b2, _, _, _⟩ := box3 hn1
      have la := World.block_lt_of_cell? _ _ a0
      have lb := World.block_lt_of_cell? _ _ b0
      simp only at la lb
      clear hn0 hn1 hm
      have HV1 := Lib.hid hv1
      have HV2 := Lib.hid hv2
      have HV3 := Lib.hid hv3
      have HV4 := Lib.hid hv4
      clear hv1 hv2 hv3 hv4
      have cx : (w1.alloc (.cells #[.int .i64 2, .int .i64 0, .string (xs 31)] 27)).heap[w1.heap.size]? = some (.cells #[.int .i64 2, .int .i64 0, .string (xs 31)] 27 (0, 0)) := heap_alloc_new _ _
      have HX := Lib.hid cx
      clear cx
      go_wp2_with (at_make; refine wpList_make_full _ rfl (.tmp 30) (.tmp 30) 22 rfl w.heap.size 27 i0 _ 3 Tryd.underlying22 hi hz0 hz1 .i64 .i64 15 15 15 rfl rfl rfl rfl (by rw [Hb.out]; decide) (by decide) (by simp; omega) ?_; intro w3 hown3 hg3; have hA := made_away hg3; obtain ⟨x0, x1, x2, _, _, _⟩ := box3 ((hA.block w1.heap.size (by simp) (by simp)).trans HX.out); have a0' := made_cell hA la a0; have a1' := made_cell hA la a1; have a2' := made_cell hA la a2; have b0' := made_cell hA lb b0; have b1' := made_cell hA lb b1; have b2' := made_cell hA lb b2; clear a0 a1 a2 b0 b1 b2)
      have hrow : RowAt w3 w3.heap.size (some ⟨w1.heap.size + 1, 0, none⟩) (List.replicate 15 V.zero) := by simpa using zeroRow hown3
      clear hown3 hg3
      have h31 := hA.size
      simp at h31
      have hb3 : Below w.heap.size w w3 := hb1.trans (((Below.refl _ _).alloc (by omega) _).trans (hA.below (by simp; omega) (by simp)))
      have lx : w1.heap.size < w3.heap.size := by omega
      have lb3 : w.heap.size + 1 < w3.heap.size := by omega
      clear hi hz0 hz1 Hb hA hb1 la lb h31
      refine (valid_b _ _ _ _ (by simp [maxLen, ByteArray.size])).mono ?_
      simp only [HV1.out]
      rintro e w4 ⟨rfl, hb4⟩
      obtain ⟨b0, b1, b2⟩ := cells3_below hb4 lb3 b0' b1' b2'
      obtain ⟨y0, y1, y2⟩ := cells3_below hb4 lx x0 x1 x2
      have s4 := hb4.size
      clear a0' a1' a2' b0' b1' b2' x0 x1 x2
      go_wp2_with fail
      refine (valid_b _ _ _ _ (by simp [maxLen, ByteArray.size])).mono ?_
      simp only [HV2.out]
      rintro e w5 ⟨rfl, hb5⟩
      obtain ⟨x0, x1, x2⟩ := cells3_below hb5 (by omega) y0 y1 y2
      have s5 := hb5.size
      clear y0 y1 y2 b0 b1 b2
      go_wp2_with fail
      refine (valid_b _ _ _ _ (by rw [xs_size]; decide)).mono ?_
      simp only [HV3.out]
      rintro e w6 ⟨rfl, hb6⟩
      clear x0 x1 x2
      have s6 := hb6.size
      have hb36 : Below w3.heap.size w3 w6 := (hb4.trans (hb5.mono s4)).trans (hb6.mono (by omega))
      go_wp2_with fail
      refine (validRow_zero _ _ 15 _ (by decide) ((hrow.below hb36).mono hb36.size)).mono ?_
      simp only [HV4.out]
      rintro e w7 ⟨rfl, hb7⟩
      go_wp2_with fail
      refine (awake_any _).mono ?_
      rintro e w8 ⟨rfl, hb8⟩
      go_wp2_with fail
      go_ret
      refine ⟨rfl, hb3.trans ((hb36.mono (by have := hb3.size; omega)).trans ((hb7.mono (by have := hb3.size; omega)).trans (hb8.mono (by have := hb3.size; have := hb7.size; omega))))⟩

theorem limits_0 (n : Int) (hm : n.tmod 3 = 0) (w : World) :
    Calls Tryd.prog 4 #[.int .i8 n] w fun e w' => e = .returned (.bool true) ∧ Below w.heap.size w w' := by
  obtain ⟨i0, hi, hz0, hz1, hz2⟩ := info_parts infoV
  have hv1 : validB 1 (4294967296) ⟨#[]⟩ = true := by decide +kernel
  have hv2 : validB 1 (-4294967296) ⟨#[]⟩ = true := by decide +kernel
  have hv3 : validB 2 0 (xs 32) = true := by simp [validB, xs_size]
  have hv4 : rowB (List.replicate 16 V.zero) = true := by rw [rowB_zero]; decide
  have hlen : (List.replicate 16 V.zero).length = 16 := by simp
  have Hlen := Lib.hid hlen
  have Hb := Lib.hid hz2
  clear hlen hz2
  go_enter Tryd.func4, Tryd.ntmps4
  go_wp2_with fail
  have hb1 : Below w.heap.size w ((w.alloc (.cells #[.int .i64 1, .int .i64 (4294967296), .string ⟨#[]⟩] 27)).alloc (.cells #[.int .i64 1, .int .i64 (-4294967296), .string ⟨#[]⟩] 27)) := ((Below.refl _ _).alloc (Nat.le_refl _) _).alloc (by simp) _
  have hn0 : ((w.alloc (.cells #[.int .i64 1, .int .i64 (4294967296), .string ⟨#[]⟩] 27)).alloc (.cells #[.int .i64 1, .int .i64 (-4294967296), .string ⟨#[]⟩] 27)).heap[w.heap.size]? = some (.cells #[.int .i64 1, .int .i64 (4294967296), .string ⟨#[]⟩] 27 (0, 0)) := by rw [Below.heap_alloc _ _ _ (by simp)]; exact heap_alloc_new _ _
  have hn1 : ((w.alloc (.cells #[.int .i64 1, .int .i64 (4294967296), .string ⟨#[]⟩] 27)).alloc (.cells #[.int .i64 1, .int .i64 (-4294967296), .string ⟨#[]⟩] 27)).heap[w.heap.size + 1]? = some (.cells #[.int .i64 1, .int .i64 (-4294967296), .string ⟨#[]⟩] 27 (0, 0)) := by have := heap_alloc_new (w.alloc (.cells #[.int .i64 1, .int .i64 (4294967296), .string ⟨#[]⟩] 27)) (.cells #[.int .i64 1, .int .i64 (-4294967296), .string ⟨#[]⟩] 27); simpa using this
  generalize (w.alloc (.cells #[.int .i64 1, .int .i64 (4294967296), .string ⟨#[]⟩] 27)).alloc (.cells #[.int .i64 1, .int .i64 (-4294967296), .string ⟨#[]⟩] 27) = w1 at *
  go_loop [6, 7] (fun s i => ∃ j : Nat, j ≤ 32 ∧ i = .int .i64 j ∧ s = .string (xs j)) (fun _ i => 32 - (intOf i).toNat)
  case atStart => exact ⟨0, by omega, rfl, rfl⟩
  case round =>
    obtain ⟨j, hj, rfl, rfl⟩ := hrel
    by_cases hlt : j < 32
    · clear hv1 hv2 hv3 hv4 hn0 hn1 hi hz0 hz1
      have hadd : ∀ w, (Op.stringOp .add (xs j) ⟨#[120]⟩).run Tryd.prog w = .ok (.string (xs (j + 1))) w := fun w => by
        rw [run_string_add_sum _ _ _ (by rw [xs_size]; show j + 1 ≤ _; omega), xs_succ]
      go_wp2_with fail
      go_round
      case rel => exact ⟨j + 1, by omega, by go_num, rfl⟩
      case measure => simp [intOf]; omega
    · obtain rfl : j = 32 := by omega
      obtain ⟨a0, a1, a2, _, _, _⟩ := box3 hn0
      obtain ⟨b0, b1, b2, _, _, _⟩ := box3 hn1
      have la := World.block_lt_of_cell? _ _ a0
      have lb := World.block_lt_of_cell? _ _ b0
      simp only at la lb
      clear hn0 hn1 hm
      have HV1 := Lib.hid hv1
      have HV2 := Lib.hid hv2
      have HV3 := Lib.hid hv3
      have HV4 := Lib.hid hv4
      clear hv1 hv2 hv3 hv4
      have cx : (w1.alloc (.cells #[.int .i64 2, .int .i64 0, .string (xs 32)] 27)).heap[w1.heap.size]? = some (.cells #[.int .i64 2, .int .i64 0, .string (xs 32)] 27 (0, 0)) := heap_alloc_new _ _
      have HX := Lib.hid cx
      clear cx
      go_wp2_with (at_make; refine wpList_make_full _ rfl (.tmp 30) (.tmp 30) 22 rfl w.heap.size 27 i0 _ 3 Tryd.underlying22 hi hz0 hz1 .i64 .i64 16 16 16 rfl rfl rfl rfl (by rw [Hb.out]; decide) (by decide) (by simp; omega) ?_; intro w3 hown3 hg3; have hA := made_away hg3; obtain ⟨x0, x1, x2, _, _, _⟩ := box3 ((hA.block w1.heap.size (by simp) (by simp)).trans HX.out); have a0' := made_cell hA la a0; have a1' := made_cell hA la a1; have a2' := made_cell hA la a2; have b0' := made_cell hA lb b0; have b1' := made_cell hA lb b1; have b2' := made_cell hA lb b2; clear a0 a1 a2 b0 b1 b2)
      have hrow : RowAt w3 w3.heap.size (some ⟨w1.heap.size + 1, 0, none⟩) (List.replicate 16 V.zero) := by simpa using zeroRow hown3
      clear hown3 hg3
      have h31 := hA.size
      simp at h31
      have hb3 : Below w.heap.size w w3 := hb1.trans (((Below.refl _ _).alloc (by omega) _).trans (hA.below (by simp; omega) (by simp)))
      have lx : w1.heap.size < w3.heap.size := by omega
      have lb3 : w.heap.size + 1 < w3.heap.size := by omega
      clear hi hz0 hz1 Hb hA hb1 la lb h31
      refine (valid_b _ _ _ _ (by simp [maxLen, ByteArray.size])).mono ?_
      simp only [HV1.out]
      rintro e w4 ⟨rfl, hb4⟩
      obtain ⟨b0, b1, b2⟩ := cells3_below hb4 lb3 b0' b1' b2'
      obtain ⟨y0, y1, y2⟩ := cells3_below hb4 lx x0 x1 x2
      have s4 := hb4.size
      clear a0' a1' a2' b0' b1' b2' x0 x1 x2
      go_wp2_with fail
      refine (valid_b _ _ _ _ (by simp [maxLen, ByteArray.size])).mono ?_
      simp only [HV2.out]
      rintro e w5 ⟨rfl, hb5⟩
      obtain ⟨x0, x1, x2⟩ := cells3_below hb5 (by omega) y0 y1 y2
      have s5 := hb5.size
      clear y0 y1 y2 b0 b1 b2
      go_wp2_with fail
      refine (valid_b _ _ _ _ (by rw [xs_size]; decide)).mono ?_
      simp only [HV3.out]
      rintro e w6 ⟨rfl, hb6⟩
      clear x0 x1 x2
      have s6 := hb6.size
      have hb36 : Below w3.heap.size w3 w6 := (hb4.trans (hb5.mono s4)).trans (hb6.mono (by omega))
      go_wp2_with fail
      refine (validRow_zero _ _ 16 _ (by decide) ((hrow.below hb36).mono hb36.size)).mono ?_
      simp only [HV4.out]
      rintro e w7 ⟨rfl, hb7⟩
      go_wp2_with fail
      refine (awake_any _).mono ?_
      rintro e w8 ⟨rfl, hb8⟩
      go_wp2_with fail
      go_ret
      refine ⟨rfl, hb3.trans ((hb36.mono (by have := hb3.size; omega)).trans ((hb7.mono (by have := hb3.size; omega)).trans (hb8.mono (by have := hb3.size; have := hb7.size; omega))))⟩

theorem limits_1 (n : Int) (hm : n.tmod 3 = 1) (w : World) :
    Calls Tryd.prog 4 #[.int .i8 n] w fun e w' => e = .returned (.bool true) ∧ Below w.heap.size w w' := by
  obtain ⟨i0, hi, hz0, hz1, hz2⟩ := info_parts infoV
  have hv1 : validB 1 (4294967297) ⟨#[]⟩ = false := by decide +kernel
  have hv2 : validB 1 (-4294967295) ⟨#[]⟩ = true := by decide +kernel
  have hv3 : validB 2 0 (xs 33) = false := by simp [validB, xs_size]
  have hv4 : rowB (List.replicate 17 V.zero) = false := by rw [rowB_zero]; decide
  have hlen : (List.replicate 17 V.zero).length = 17 := by simp
  have Hlen := Lib.hid hlen
  have Hb := Lib.hid hz2
  clear hlen hz2
  go_enter Tryd.func4, Tryd.ntmps4
  go_wp2_with fail
  have hb1 : Below w.heap.size w ((w.alloc (.cells #[.int .i64 1, .int .i64 (4294967297), .string ⟨#[]⟩] 27)).alloc (.cells #[.int .i64 1, .int .i64 (-4294967295), .string ⟨#[]⟩] 27)) := ((Below.refl _ _).alloc (Nat.le_refl _) _).alloc (by simp) _
  have hn0 : ((w.alloc (.cells #[.int .i64 1, .int .i64 (4294967297), .string ⟨#[]⟩] 27)).alloc (.cells #[.int .i64 1, .int .i64 (-4294967295), .string ⟨#[]⟩] 27)).heap[w.heap.size]? = some (.cells #[.int .i64 1, .int .i64 (4294967297), .string ⟨#[]⟩] 27 (0, 0)) := by rw [Below.heap_alloc _ _ _ (by simp)]; exact heap_alloc_new _ _
  have hn1 : ((w.alloc (.cells #[.int .i64 1, .int .i64 (4294967297), .string ⟨#[]⟩] 27)).alloc (.cells #[.int .i64 1, .int .i64 (-4294967295), .string ⟨#[]⟩] 27)).heap[w.heap.size + 1]? = some (.cells #[.int .i64 1, .int .i64 (-4294967295), .string ⟨#[]⟩] 27 (0, 0)) := by have := heap_alloc_new (w.alloc (.cells #[.int .i64 1, .int .i64 (4294967297), .string ⟨#[]⟩] 27)) (.cells #[.int .i64 1, .int .i64 (-4294967295), .string ⟨#[]⟩] 27); simpa using this
  generalize (w.alloc (.cells #[.int .i64 1, .int .i64 (4294967297), .string ⟨#[]⟩] 27)).alloc (.cells #[.int .i64 1, .int .i64 (-4294967295), .string ⟨#[]⟩] 27) = w1 at *
  go_loop [6, 7] (fun s i => ∃ j : Nat, j ≤ 33 ∧ i = .int .i64 j ∧ s = .string (xs j)) (fun _ i => 33 - (intOf i).toNat)
  case atStart => exact ⟨0, by omega, rfl, rfl⟩
  case round =>
    obtain ⟨j, hj, rfl, rfl⟩ := hrel
    by_cases hlt : j < 33
    · clear hv1 hv2 hv3 hv4 hn0 hn1 hi hz0 hz1
      have hadd : ∀ w, (Op.stringOp .add (xs j) ⟨#[120]⟩).run Tryd.prog w = .ok (.string (xs (j + 1))) w := fun w => by
        rw [run_string_add_sum _ _ _ (by rw [xs_size]; show j + 1 ≤ _; omega), xs_succ]
      go_wp2_with fail
      go_round
      case rel => exact ⟨j + 1, by omega, by go_num, rfl⟩
      case measure => simp [intOf]; omega
    · obtain rfl : j = 33 := by omega
      obtain ⟨a0, a1, a2, _, _, _⟩ := box3 hn0
      obtain ⟨b0, b1, b2, _, _, _⟩ := box3 hn1
      have la := World.block_lt_of_cell? _ _ a0
      have lb := World.block_lt_of_cell? _ _ b0
      simp only at la lb
      clear hn0 hn1 hm
      have HV1 := Lib.hid hv1
      have HV2 := Lib.hid hv2
      have HV3 := Lib.hid hv3
      have HV4 := Lib.hid hv4
      clear hv1 hv2 hv3 hv4
      have cx : (w1.alloc (.cells #[.int .i64 2, .int .i64 0, .string (xs 33)] 27)).heap[w1.heap.size]? = some (.cells #[.int .i64 2, .int .i64 0, .string (xs 33)] 27 (0, 0)) := heap_alloc_new _ _
      have HX := Lib.hid cx
      clear cx
      go_wp2_with (at_make; refine wpList_make_full _ rfl (.tmp 30) (.tmp 30) 22 rfl w.heap.size 27 i0 _ 3 Tryd.underlying22 hi hz0 hz1 .i64 .i64 17 17 17 rfl rfl rfl rfl (by rw [Hb.out]; decide) (by decide) (by simp; omega) ?_; intro w3 hown3 hg3; have hA := made_away hg3; obtain ⟨x0, x1, x2, _, _, _⟩ := box3 ((hA.block w1.heap.size (by simp) (by simp)).trans HX.out); have a0' := made_cell hA la a0; have a1' := made_cell hA la a1; have a2' := made_cell hA la a2; have b0' := made_cell hA lb b0; have b1' := made_cell hA lb b1; have b2' := made_cell hA lb b2; clear a0 a1 a2 b0 b1 b2)
      have hrow : RowAt w3 w3.heap.size (some ⟨w1.heap.size + 1, 0, none⟩) (List.replicate 17 V.zero) := by simpa using zeroRow hown3
      clear hown3 hg3
      have h31 := hA.size
      simp at h31
      have hb3 : Below w.heap.size w w3 := hb1.trans (((Below.refl _ _).alloc (by omega) _).trans (hA.below (by simp; omega) (by simp)))
      have lx : w1.heap.size < w3.heap.size := by omega
      have lb3 : w.heap.size + 1 < w3.heap.size := by omega
      clear hi hz0 hz1 Hb hA hb1 la lb h31
      refine (valid_b _ _ _ _ (by simp [maxLen, ByteArray.size])).mono ?_
      simp only [HV1.out]
      rintro e w4 ⟨rfl, hb4⟩
      obtain ⟨b0, b1, b2⟩ := cells3_below hb4 lb3 b0' b1' b2'
      obtain ⟨y0, y1, y2⟩ := cells3_below hb4 lx x0 x1 x2
      have s4 := hb4.size
      clear a0' a1' a2' b0' b1' b2' x0 x1 x2
      go_wp2_with fail
      refine (valid_b _ _ _ _ (by simp [maxLen, ByteArray.size])).mono ?_
      simp only [HV2.out]
      rintro e w5 ⟨rfl, hb5⟩
      obtain ⟨x0, x1, x2⟩ := cells3_below hb5 (by omega) y0 y1 y2
      have s5 := hb5.size
      clear y0 y1 y2 b0 b1 b2
      go_wp2_with fail
      refine (valid_b _ _ _ _ (by rw [xs_size]; decide)).mono ?_
      simp only [HV3.out]
      rintro e w6 ⟨rfl, hb6⟩
      clear x0 x1 x2
      have s6 := hb6.size
      have hb36 : Below w3.heap.size w3 w6 := (hb4.trans (hb5.mono s4)).trans (hb6.mono (by omega))
      go_wp2_with fail
      refine (validRow_zero _ _ 17 _ (by decide) ((hrow.below hb36).mono hb36.size)).mono ?_
      simp only [HV4.out]
      rintro e w7 ⟨rfl, hb7⟩
      go_wp2_with fail
      refine (awake_any _).mono ?_
      rintro e w8 ⟨rfl, hb8⟩
      go_wp2_with fail
      go_ret
      refine ⟨rfl, hb3.trans ((hb36.mono (by have := hb3.size; omega)).trans ((hb7.mono (by have := hb3.size; omega)).trans (hb8.mono (by have := hb3.size; have := hb7.size; omega))))⟩

theorem limits_2 (n : Int) (hm : n.tmod 3 = 2) (w : World) :
    Calls Tryd.prog 4 #[.int .i8 n] w fun e w' => e = .returned (.bool true) ∧ Below w.heap.size w w' := by
  obtain ⟨i0, hi, hz0, hz1, hz2⟩ := info_parts infoV
  have hv1 : validB 1 (4294967298) ⟨#[]⟩ = false := by decide +kernel
  have hv2 : validB 1 (-4294967294) ⟨#[]⟩ = true := by decide +kernel
  have hv3 : validB 2 0 (xs 34) = false := by simp [validB, xs_size]
  have hv4 : rowB (List.replicate 18 V.zero) = false := by rw [rowB_zero]; decide
  have hlen : (List.replicate 18 V.zero).length = 18 := by simp
  have Hlen := Lib.hid hlen
  have Hb := Lib.hid hz2
  clear hlen hz2
  go_enter Tryd.func4, Tryd.ntmps4
  go_wp2_with fail
  have hb1 : Below w.heap.size w ((w.alloc (.cells #[.int .i64 1, .int .i64 (4294967298), .string ⟨#[]⟩] 27)).alloc (.cells #[.int .i64 1, .int .i64 (-4294967294), .string ⟨#[]⟩] 27)) := ((Below.refl _ _).alloc (Nat.le_refl _) _).alloc (by simp) _
  have hn0 : ((w.alloc (.cells #[.int .i64 1, .int .i64 (4294967298), .string ⟨#[]⟩] 27)).alloc (.cells #[.int .i64 1, .int .i64 (-4294967294), .string ⟨#[]⟩] 27)).heap[w.heap.size]? = some (.cells #[.int .i64 1, .int .i64 (4294967298), .string ⟨#[]⟩] 27 (0, 0)) := by rw [Below.heap_alloc _ _ _ (by simp)]; exact heap_alloc_new _ _
  have hn1 : ((w.alloc (.cells #[.int .i64 1, .int .i64 (4294967298), .string ⟨#[]⟩] 27)).alloc (.cells #[.int .i64 1, .int .i64 (-4294967294), .string ⟨#[]⟩] 27)).heap[w.heap.size + 1]? = some (.cells #[.int .i64 1, .int .i64 (-4294967294), .string ⟨#[]⟩] 27 (0, 0)) := by have := heap_alloc_new (w.alloc (.cells #[.int .i64 1, .int .i64 (4294967298), .string ⟨#[]⟩] 27)) (.cells #[.int .i64 1, .int .i64 (-4294967294), .string ⟨#[]⟩] 27); simpa using this
  generalize (w.alloc (.cells #[.int .i64 1, .int .i64 (4294967298), .string ⟨#[]⟩] 27)).alloc (.cells #[.int .i64 1, .int .i64 (-4294967294), .string ⟨#[]⟩] 27) = w1 at *
  go_loop [6, 7] (fun s i => ∃ j : Nat, j ≤ 34 ∧ i = .int .i64 j ∧ s = .string (xs j)) (fun _ i => 34 - (intOf i).toNat)
  case atStart => exact ⟨0, by omega, rfl, rfl⟩
  case round =>
    obtain ⟨j, hj, rfl, rfl⟩ := hrel
    by_cases hlt : j < 34
    · clear hv1 hv2 hv3 hv4 hn0 hn1 hi hz0 hz1
      have hadd : ∀ w, (Op.stringOp .add (xs j) ⟨#[120]⟩).run Tryd.prog w = .ok (.string (xs (j + 1))) w := fun w => by
        rw [run_string_add_sum _ _ _ (by rw [xs_size]; show j + 1 ≤ _; omega), xs_succ]
      go_wp2_with fail
      go_round
      case rel => exact ⟨j + 1, by omega, by go_num, rfl⟩
      case measure => simp [intOf]; omega
    · obtain rfl : j = 34 := by omega
      obtain ⟨a0, a1, a2, _, _, _⟩ := box3 hn0
      obtain ⟨b0, b1, b2, _, _, _⟩ := box3 hn1
      have la := World.block_lt_of_cell? _ _ a0
      have lb := World.block_lt_of_cell? _ _ b0
      simp only at la lb
      clear hn0 hn1 hm
      have HV1 := Lib.hid hv1
      have HV2 := Lib.hid hv2
      have HV3 := Lib.hid hv3
      have HV4 := Lib.hid hv4
      clear hv1 hv2 hv3 hv4
      have cx : (w1.alloc (.cells #[.int .i64 2, .int .i64 0, .string (xs 34)] 27)).heap[w1.heap.size]? = some (.cells #[.int .i64 2, .int .i64 0, .string (xs 34)] 27 (0, 0)) := heap_alloc_new _ _
      have HX := Lib.hid cx
      clear cx
      go_wp2_with (at_make; refine wpList_make_full _ rfl (.tmp 30) (.tmp 30) 22 rfl w.heap.size 27 i0 _ 3 Tryd.underlying22 hi hz0 hz1 .i64 .i64 18 18 18 rfl rfl rfl rfl (by rw [Hb.out]; decide) (by decide) (by simp; omega) ?_; intro w3 hown3 hg3; have hA := made_away hg3; obtain ⟨x0, x1, x2, _, _, _⟩ := box3 ((hA.block w1.heap.size (by simp) (by simp)).trans HX.out); have a0' := made_cell hA la a0; have a1' := made_cell hA la a1; have a2' := made_cell hA la a2; have b0' := made_cell hA lb b0; have b1' := made_cell hA lb b1; have b2' := made_cell hA lb b2; clear a0 a1 a2 b0 b1 b2)
      have hrow : RowAt w3 w3.heap.size (some ⟨w1.heap.size + 1, 0, none⟩) (List.replicate 18 V.zero) := by simpa using zeroRow hown3
      clear hown3 hg3
      have h31 := hA.size
      simp at h31
      have hb3 : Below w.heap.size w w3 := hb1.trans (((Below.refl _ _).alloc (by omega) _).trans (hA.below (by simp; omega) (by simp)))
      have lx : w1.heap.size < w3.heap.size := by omega
      have lb3 : w.heap.size + 1 < w3.heap.size := by omega
      clear hi hz0 hz1 Hb hA hb1 la lb h31
      refine (valid_b _ _ _ _ (by simp [maxLen, ByteArray.size])).mono ?_
      simp only [HV1.out]
      rintro e w4 ⟨rfl, hb4⟩
      obtain ⟨b0, b1, b2⟩ := cells3_below hb4 lb3 b0' b1' b2'
      obtain ⟨y0, y1, y2⟩ := cells3_below hb4 lx x0 x1 x2
      have s4 := hb4.size
      clear a0' a1' a2' b0' b1' b2' x0 x1 x2
      go_wp2_with fail
      refine (valid_b _ _ _ _ (by simp [maxLen, ByteArray.size])).mono ?_
      simp only [HV2.out]
      rintro e w5 ⟨rfl, hb5⟩
      obtain ⟨x0, x1, x2⟩ := cells3_below hb5 (by omega) y0 y1 y2
      have s5 := hb5.size
      clear y0 y1 y2 b0 b1 b2
      go_wp2_with fail
      refine (valid_b _ _ _ _ (by rw [xs_size]; decide)).mono ?_
      simp only [HV3.out]
      rintro e w6 ⟨rfl, hb6⟩
      clear x0 x1 x2
      have s6 := hb6.size
      have hb36 : Below w3.heap.size w3 w6 := (hb4.trans (hb5.mono s4)).trans (hb6.mono (by omega))
      go_wp2_with fail
      refine (validRow_zero _ _ 18 _ (by decide) ((hrow.below hb36).mono hb36.size)).mono ?_
      simp only [HV4.out]
      rintro e w7 ⟨rfl, hb7⟩
      go_wp2_with fail
      refine (awake_any _).mono ?_
      rintro e w8 ⟨rfl, hb8⟩
      go_wp2_with fail
      go_ret
      refine ⟨rfl, hb3.trans ((hb36.mono (by have := hb3.size; omega)).trans ((hb7.mono (by have := hb3.size; omega)).trans (hb8.mono (by have := hb3.size; have := hb7.size; omega))))⟩

theorem W_ValueLimits (n : Int) (w : World) (_hn : (Lit.int .i8 n).wf = true) :
    Calls Tryd.prog 4 #[.int .i8 n] w fun e w' => e = .returned (.bool true) ∧ Below w.heap.size w w' := by
  rcases tmod3 n with hm | hm | hm | hm | hm
  · exact limits_m2 n hm w
  · exact limits_m1 n hm w
  · exact limits_0 n hm w
  · exact limits_1 n hm w
  · exact limits_2 n hm w
end Go.Proofs.YtkdjbgjcccnijaaDoor
