/- The laws of layer 6: one, awake, normalizes, adds. -/
import Derived.Test.YtdckpjkbchibjaaBp
namespace Go.Proofs.Ytdckpjkbchibjaa
open Go.RowKit Go.Proofs.EB
set_option maxHeartbeats 8000000
set_option maxRecDepth 100000
attribute [local go_sem] World.cell?_alloc_some

def GaveOne (s : ByteArray) (w : World) (e : Ending) (w' : World) : Prop := ∃ b, e = .returned (.slice (some ⟨b, 0, none⟩) 1 1) ∧ Hid (RwS w' w'.heap.size ⟨some ⟨b, 0, none⟩, 1, [⟨2, 0, s⟩]⟩) ∧ Below w.heap.size w w'
theorem one_any (s : ByteArray) (hs : s.size ≤ 32) (w : World) : Calls Try.prog 31 #[.string s] w (GaveOne s w) := by
  have hok : (⟨2, 0, s⟩ : V).ok := ⟨by simp, by simp, by unfold maxLen; show s.size ≤ _; omega⟩
  have Hok := Lib.hid hok
  clear hok
  go_enter Try.func31, Try.ntmps31
  go_wp2_with fail
  refine (rtext_is s hs _).mono ?_
  rintro e w1 ⟨rfl, hb1⟩
  go_wp2_with fail
  go_ret
  exact ⟨_, rfl, row_one w1 2 0 s Hok.out, belowT hb1 (below1 w1 _)⟩
/-- A new block of entries, as a list. -/
theorem new_bag {w : World} {C : Array Value} (l : List Be) (hC : C.toList = cellsL encBe l) (hl : l.length ≤ maxLen) (he : ∀ x ∈ l, BeOk w w.heap.size x) : BagS (w.alloc (.cells C 34)) (w.alloc (.cells C 34)).heap.size ⟨some ⟨w.heap.size, 0, none⟩, l.length, l⟩ := by
  have ho : OwnsR encBe 2 (w.alloc (.cells C 34)) w.heap.size 34 (.slice (some ⟨w.heap.size, 0, none⟩) l.length l.length) l := ownsR_new (l := l) encBe_len (heap_alloc_new w _) (Nat.le_refl _) hC hl
  obtain ⟨ao, cap, e, h, _⟩ := own_bag ho (below1 _ _) he
  simp only [Value.slice.injEq] at e
  obtain ⟨rfl, _, rfl⟩ := e
  exact h
theorem n64_small (n : Int) (h : -1000 ≤ n ∧ n ≤ 1000) : n64 n := by unfold n64; omega
def vA : V := ⟨2, 0, ⟨#[97]⟩⟩
def vBb : V := ⟨2, 0, ⟨#[98]⟩⟩
theorem cmp_ab : cmpRows [vA] [vBb] = -1 := by kernel_rfl
theorem cmp_ba : cmpRows [vBb] [vA] = 1 := by kernel_rfl
theorem awake_norm : normR [([vA], 2), ([vBb], 1), ([vA], -2)] = ([([vBb], 1)], 0) := by
  have h0 : [([vA], (2 : Int)), ([vBb], 1), ([vA], -2)].all enB = true := by kernel_rfl
  unfold normR
  rw [if_pos h0]
  have h1 : bagOf [([vA], (2 : Int)), ([vBb], 1), ([vA], -2)] = [([vBb], 1)] := by
    show mergeE [([vA], 2)] (mergeE [([vBb], 1)] (mergeE [([vA], -2)] [])) = _
    rw [merge_nil, merge_gt [] [] (by show 0 < cmpRows [vBb] [vA]; rw [cmp_ba]; decide), merge_nil, merge_eq (x := ([vA], 2)) (y := ([vA], -2)) [] _ (cmp_refl _) rfl, merge_nil']
  rw [h1]
  exact fits_ok (by simp) (fun e he => by rw [List.mem_singleton] at he; subst he; dsimp only; omega)
theorem awake_supp : suppR [([vA], 3), ([vBb], -1)] = [([vA], 1)] := by kernel_rfl
theorem awake_size : sizeR [([vBb], 1)] = 1 := by kernel_rfl
theorem bawake_any (w : World) : Calls Try.prog 27 #[] w (YieldsV (.bool true) w) := by
  go_enter Try.func27, Try.ntmps27
  go_wp2_with fail
  refine (one_any _ (by decide) _).mono ?_
  rintro e w1 ⟨b1, rfl, r1, hb1⟩
  go_wp2_with fail
  refine (one_any _ (by decide) _).mono ?_
  rintro e w2 ⟨b2, rfl, r2, hb2⟩
  go_wp2_with fail
  refine (one_any _ (by decide) _).mono ?_
  rintro e w3 ⟨b3, rfl, r3, hb3⟩
  have HB3 := Lib.hid (belowT (belowT hb1 hb2) hb3)
  have hS := Lib.hid (new_bag (w := w3) (C := #[.slice (some ⟨b1, 0, none⟩) 1 1, .int .i64 2, .slice (some ⟨b2, 0, none⟩) 1 1, .int .i64 1, .slice (some ⟨b3, 0, none⟩) 1 1, .int .i64 (-2)]) [⟨⟨some ⟨b1, 0, none⟩, 1, [vA]⟩, 2⟩, ⟨⟨some ⟨b2, 0, none⟩, 1, [vBb]⟩, 1⟩, ⟨⟨some ⟨b3, 0, none⟩, 1, [vA]⟩, -2⟩] rfl (by simp [maxLen]) (by
    intro x hx
    simp only [List.mem_cons, List.not_mem_nil, or_false] at hx
    rcases hx with rfl | rfl | rfl
    · exact ⟨(r1.out.later hb2).later hb3, n64_small _ (by dsimp only; omega)⟩
    · exact ⟨r2.out.later hb3, n64_small _ (by dsimp only; omega)⟩
    · exact ⟨r3.out, n64_small _ (by dsimp only; omega)⟩))
  clear r1 r2 r3 hb1 hb2 hb3
  go_wp2_with fail
  refine (pbNormalize_any _ _ [⟨⟨some ⟨b1, 0, none⟩, 1, [vA]⟩, 2⟩, ⟨⟨some ⟨b2, 0, none⟩, 1, [vBb]⟩, 1⟩, ⟨⟨some ⟨b3, 0, none⟩, 1, [vA]⟩, -2⟩] _ (by simp) hS.out).mono ?_
  rintro e w4 ⟨a4, c4, l4, n4, rfl, hl4, hn4, hB4, hb4, _⟩
  have e4 : normR (ens [⟨⟨some ⟨b1, 0, none⟩, 1, [vA]⟩, 2⟩, ⟨⟨some ⟨b2, 0, none⟩, 1, [vBb]⟩, 1⟩, ⟨⟨some ⟨b3, 0, none⟩, 1, [vA]⟩, -2⟩]) = ([([vBb], 1)], 0) := awake_norm
  rw [e4] at hn4
  have Hl4 := Lib.hid (show ens l4 = [([vBb], 1)] by rw [hl4.out, e4])
  have HB4 := Lib.hid (belowT HB3.out (belowT (below1 w3 _) hb4))
  dsimp only at hn4
  subst hn4
  clear e4 hl4 hb4 hS HB3
  go_wp2_with fail
  refine (one_any _ (by decide) _).mono ?_
  rintro e w5 ⟨b5, rfl, r5, hb5⟩
  have hS5 := Lib.hid (new_bag (w := w5) (C := #[.slice (some ⟨b5, 0, none⟩) 1 1, .int .i64 1]) [⟨⟨some ⟨b5, 0, none⟩, 1, [vBb]⟩, 1⟩] rfl (by simp [maxLen]) (by
    intro x hx
    simp only [List.mem_cons, List.not_mem_nil, or_false] at hx
    rcases hx with rfl
    exact ⟨r5.out, n64_small _ (by dsimp only; omega)⟩))
  have hB5 := Lib.hid (BagS.later (BagS.later hB4.out hb5) (below1 w5 (.cells #[.slice (some ⟨b5, 0, none⟩) 1 1, .int .i64 1] 34)))
  have HB5 := Lib.hid (belowT (belowT HB4.out hb5) (below1 w5 (.cells #[.slice (some ⟨b5, 0, none⟩) 1 1, .int .i64 1] 34)))
  clear r5 hb5 hB4 HB4
  go_wp2_with fail
  refine (rbSame_any _ _ _ _ l4 [⟨⟨some ⟨b5, 0, none⟩, 1, [vBb]⟩, 1⟩] _ true ⟨fun _ => Hl4.out, fun _ => rfl⟩ hB5.out hS5.out).mono ?_
  rintro e w6 ⟨rfl, hb6⟩
  have HB6 := Lib.hid (belowT HB5.out hb6)
  have hB6 := Lib.hid (BagS.later hB5.out hb6)
  clear hb6 hB5 HB5 hS5
  go_wp2_with fail
  refine (one_any _ (by decide) _).mono ?_
  rintro e w7 ⟨b7, rfl, r7, hb7⟩
  go_wp2_with fail
  refine (one_any _ (by decide) _).mono ?_
  rintro e w8 ⟨b8, rfl, r8, hb8⟩
  have hS8 := Lib.hid (new_bag (w := w8) (C := #[.slice (some ⟨b7, 0, none⟩) 1 1, .int .i64 3, .slice (some ⟨b8, 0, none⟩) 1 1, .int .i64 (-1)]) [⟨⟨some ⟨b7, 0, none⟩, 1, [vA]⟩, 3⟩, ⟨⟨some ⟨b8, 0, none⟩, 1, [vBb]⟩, -1⟩] rfl (by simp [maxLen]) (by
    intro x hx
    simp only [List.mem_cons, List.not_mem_nil, or_false] at hx
    rcases hx with rfl | rfl
    · exact ⟨r7.out.later hb8, n64_small _ (by dsimp only; omega)⟩
    · exact ⟨r8.out, n64_small _ (by dsimp only; omega)⟩))
  have HB8 := Lib.hid (belowT (belowT (belowT HB6.out hb7) hb8) (below1 w8 (.cells #[.slice (some ⟨b7, 0, none⟩) 1 1, .int .i64 3, .slice (some ⟨b8, 0, none⟩) 1 1, .int .i64 (-1)] 34)))
  have hB8 := Lib.hid (BagS.later (BagS.later (BagS.later hB6.out hb7) hb8) (below1 w8 (.cells #[.slice (some ⟨b7, 0, none⟩) 1 1, .int .i64 3, .slice (some ⟨b8, 0, none⟩) 1 1, .int .i64 (-1)] 34)))
  clear r7 r8 hb7 hb8 hB6 HB6
  go_wp2_with fail
  refine (pbSupport_any _ _ [⟨⟨some ⟨b7, 0, none⟩, 1, [vA]⟩, 3⟩, ⟨⟨some ⟨b8, 0, none⟩, 1, [vBb]⟩, -1⟩] _ hS8.out).mono ?_
  rintro e w9 ⟨a9, c9, l9, rfl, hl9, hS9, hb9, _⟩
  have Hl9 := Lib.hid (show ens l9 = [([vA], 1)] by rw [hl9.out]; exact awake_supp)
  have HB9 := Lib.hid (belowT HB8.out hb9)
  have hB9 := Lib.hid (BagS.later hB8.out hb9)
  clear hl9 hb9 hS8 hB8 HB8
  go_wp2_with fail
  refine (one_any _ (by decide) _).mono ?_
  rintro e wa ⟨ba, rfl, ra, hba⟩
  have hSa := Lib.hid (new_bag (w := wa) (C := #[.slice (some ⟨ba, 0, none⟩) 1 1, .int .i64 1]) [⟨⟨some ⟨ba, 0, none⟩, 1, [vA]⟩, 1⟩] rfl (by simp [maxLen]) (by
    intro x hx
    simp only [List.mem_cons, List.not_mem_nil, or_false] at hx
    rcases hx with rfl
    exact ⟨ra.out, n64_small _ (by dsimp only; omega)⟩))
  have hSb := Lib.hid (BagS.later (BagS.later hS9.out hba) (below1 wa (.cells #[.slice (some ⟨ba, 0, none⟩) 1 1, .int .i64 1] 34)))
  have hBb := Lib.hid (BagS.later (BagS.later hB9.out hba) (below1 wa (.cells #[.slice (some ⟨ba, 0, none⟩) 1 1, .int .i64 1] 34)))
  have HBb := Lib.hid (belowT (belowT HB9.out hba) (below1 wa (.cells #[.slice (some ⟨ba, 0, none⟩) 1 1, .int .i64 1] 34)))
  clear ra hba hS9 hB9 HB9
  go_wp2_with fail
  refine (rbSame_any _ _ _ _ l9 [⟨⟨some ⟨ba, 0, none⟩, 1, [vA]⟩, 1⟩] _ true ⟨fun _ => Hl9.out, fun _ => rfl⟩ hSb.out hSa.out).mono ?_
  rintro e wc ⟨rfl, hbc⟩
  have HBc := Lib.hid (belowT HBb.out hbc)
  have hBc := Lib.hid (BagS.later hBb.out hbc)
  clear hbc hSa hSb hBb HBb
  go_wp2_with fail
  refine (pbSize_any _ _ l4 _ hBc.out).mono ?_
  rw [Hl4.out, awake_size]
  rintro e wd ⟨rfl, hbd⟩
  have HBd := Lib.hid (belowT HBc.out hbd)
  clear hbd
  go_wp2_with fail
  go_ret
  exact ⟨rfl, HBd.out⟩
/-- Two results that agree. -/
theorem normalizes_any (ao : Option Addr) (cap : Nat) (l : List Be) (w : World) (hl : l.length ≤ 1000000) (h : BagS w w.heap.size ⟨ao, cap, l⟩) :
    Calls Try.prog 29 #[.slice ao l.length cap] w (YieldsV (.bool true) w) := by
  have HS := Lib.hid h
  clear h
  go_enter Try.func29, Try.ntmps29
  go_wp2_with fail
  refine (pbNormalize_any _ _ l _ hl HS.out).mono ?_
  rintro e w1 ⟨a1, c1, l1, n1, rfl, hl1, hn1, hB1, hb1, _⟩
  have Hn1 := Lib.hid hn1
  clear hn1
  go_wp2_with fail
  refine (rbNormalize_any (fun _ => True) _ _ l _ hl (fun _ _ => trivial) (BagS.later HS.out hb1)).mono ?_
  rintro e w2 ⟨a2, c2, l2, n2, rfl, hl2, hB2, hb2, _⟩
  obtain rfl : n1 = n2 := by rw [Hn1.out, hl2.out.2]
  have HB2 := Lib.hid hB2
  have HB1 := Lib.hid (BagS.later hB1.out hb2)
  have HB := Lib.hid (belowT hb1 hb2)
  have z1 : (n1 == n1) = true := by simp
  clear hB2 hb1 hb2
  go_wp2_with fail
  refine (rbSame_any _ _ _ _ l1 l2 _ true ⟨fun _ => by rw [hl1.out, hl2.out.1], fun _ => rfl⟩ HB1.out HB2.out).mono ?_
  rintro e w3 ⟨rfl, hb3⟩
  go_wp2_with fail
  go_ret
  exact ⟨rfl, belowT HB.out hb3⟩
theorem adds_any (ao bo : Option Addr) (ca cb : Nat) (a b : List Be) (w : World) (ha : BagS w w.heap.size ⟨ao, ca, a⟩) (hb : BagS w w.heap.size ⟨bo, cb, b⟩) :
    Calls Try.prog 35 #[.slice ao a.length ca, .slice bo b.length cb] w (YieldsV (.bool true) w) := by
  have HA := Lib.hid ha
  have HC := Lib.hid hb
  clear ha hb
  go_enter Try.func35, Try.ntmps35
  go_wp2_with fail
  refine (pbAdd_any _ _ _ _ a b _ HA.out HC.out).mono ?_
  rintro e w1 ⟨a1, c1, l1, n1, rfl, hl1, hn1, hB1, hb1, _⟩
  have Hn1 := Lib.hid hn1
  clear hn1
  go_wp2_with fail
  refine (rbAdd_any _ _ _ _ a b _ (BagS.later HA.out hb1) (BagS.later HC.out hb1)).mono ?_
  rintro e w2 ⟨a2, c2, l2, n2, rfl, hl2, hB2, hb2, _⟩
  obtain rfl : n1 = n2 := by rw [Hn1.out, hl2.out.2]
  have HB2 := Lib.hid (belowT hb1 hb2)
  have S1 := Lib.hid (BagS.later hB1.out hb2)
  have S2 := Lib.hid hB2
  clear hB2 hb1 hb2 hB1
  go_wp2_with fail
  refine (pbSubtract_any _ _ _ _ a b _ (BagS.later HA.out HB2.out) (BagS.later HC.out HB2.out)).mono ?_
  rintro e w3 ⟨a3, c3, l3, n3, rfl, hl3, hn3, hB3, hb3, _⟩
  have Hn3 := Lib.hid hn3
  have HB3 := Lib.hid (belowT HB2.out hb3)
  clear hn3
  go_wp2_with fail
  refine (rbSubtract_any _ _ _ _ a b _ (BagS.later HA.out HB3.out) (BagS.later HC.out HB3.out)).mono ?_
  rintro e w4 ⟨a4, c4, l4, n4, rfl, hl4, hB4, hb4, _⟩
  obtain rfl : n3 = n4 := by rw [Hn3.out, hl4.out.2]
  have HB4 := Lib.hid (belowT HB3.out hb4)
  have S3 := Lib.hid (BagS.later hB3.out hb4)
  have S4 := Lib.hid hB4
  have S1b := Lib.hid (BagS.later (BagS.later S1.out hb3) hb4)
  have S2b := Lib.hid (BagS.later (BagS.later S2.out hb3) hb4)
  have z1 : (n1 == n1) = true := by simp
  have z3 : (n3 == n3) = true := by simp
  clear hB4 hb3 hb4 hB3 S1 S2
  go_wp2_with fail
  refine (rbSame_any _ _ _ _ l1 l2 _ true ⟨fun _ => by rw [hl1.out, hl2.out.1], fun _ => rfl⟩ S1b.out S2b.out).mono ?_
  rintro e w5 ⟨rfl, hb5⟩
  have S3b := Lib.hid (BagS.later S3.out hb5)
  have S4b := Lib.hid (BagS.later S4.out hb5)
  go_wp2_with fail
  refine (rbSame_any _ _ _ _ l3 l4 _ true ⟨fun _ => by rw [hl3.out, hl4.out.1], fun _ => rfl⟩ S3b.out S4b.out).mono ?_
  rintro e w6 ⟨rfl, hb6⟩
  go_wp2_with fail
  go_ret
  exact ⟨rfl, belowT (belowT HB4.out hb5) hb6⟩
theorem took_below {w w1 wk : World} {B g : Nat} (hb : Below w.heap.size w w1) (hg : w.heap.size ≤ g) (hT : Took w1 B g wk) : Below w.heap.size w wk :=
  hb.trans (hT.2.1.below hb.size (fun k hk => by simp at hk; omega))
theorem sml_len {l : List Be} (h : smlB l = true) : l.length ≤ 40 := by
  unfold smlB at h
  rw [Bool.and_eq_true, decide_eq_true_iff] at h
  exact h.1
end Go.Proofs.Ytdckpjkbchibjaa
