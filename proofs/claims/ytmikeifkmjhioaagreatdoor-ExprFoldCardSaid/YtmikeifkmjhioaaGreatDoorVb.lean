/- Contracts of needsEscape and quote of package value. -/
import Derived.Test.YtmikeifkmjhioaaGreatDoorVa
import Derived.Deep.DeepCutAuto
namespace Go.Proofs.YtmikeifkmjhioaaGreatDoor
open Go.RowKit Go.Proofs.EB
open Go.Lib (byteCells)
set_option maxHeartbeats 400000
theorem infoU8 : (Tryz.prog.info? 5).map (fun i => (i.zero, i.size, i.bytes)) = some (some (.int .u8 0), 1, 1) := by kernel_rfl

def needI (b : Int) : Bool := decide (b = 34 ∨ b = 92 ∨ b < 32 ∨ 126 < b)
theorem needsEscape_any (b : Int) (w : World) (h0 : 0 ≤ b) (h1 : b < 256) :
    Calls Tryz.prog 114 #[.int .u8 b] w fun e w' => e = .returned (.bool (needI b)) ∧ w' = w := by
  go_enter Tryz.func114, Tryz.ntmps114
  go_wp2
  all_goals go_ret
  all_goals (simp [needI, *]; try (rw [Bool.eq_iff_iff]; simp; omega))

def hexD : List UInt8 := [48, 49, 50, 51, 52, 53, 54, 55, 56, 57, 97, 98, 99, 100, 101, 102]
def quote1 (b : UInt8) : List UInt8 := if needI b.toNat = true then [92, hexD.getD (b.toNat / 16) 0, hexD.getD (b.toNat % 16) 0] else [b]
def quoteL (l : List UInt8) : List UInt8 := 34 :: l.flatMap quote1
theorem quote1_len (b : UInt8) : (quote1 b).length ≤ 3 := by unfold quote1; split <;> simp
theorem quoteL_len (l : List UInt8) : (quoteL l).length ≤ 1 + 3 * l.length := by
  have : (l.flatMap quote1).length ≤ 3 * l.length := by
    induction l with
    | nil => simp
    | cons a l ih => simp only [List.flatMap_cons, List.length_append, List.length_cons]; have := quote1_len a; omega
  simp only [quoteL, List.length_cons]; omega
theorem quoteL_snoc (l : List UInt8) (b : UInt8) : quoteL (l ++ [b]) = quoteL l ++ quote1 b := by simp [quoteL]
theorem take_snoc (s : ByteArray) (k : Nat) (h : k < s.size) : s.data.toList.take (k + 1) = s.data.toList.take k ++ [s[k]] := by
  rw [List.take_succ_eq_append_getElem (by simpa using h)]; rfl

theorem hexAt (i : Nat) (h : i < 16) (h' : i < (⟨#[48, 49, 50, 51, 52, 53, 54, 55, 56, 57, 97, 98, 99, 100, 101, 102]⟩ : ByteArray).size) : (⟨#[48, 49, 50, 51, 52, 53, 54, 55, 56, 57, 97, 98, 99, 100, 101, 102]⟩ : ByteArray)[i] = hexD.getD i 0 := by
  have : ∀ j : Fin 16, (⟨#[48, 49, 50, 51, 52, 53, 54, 55, 56, 57, 97, 98, 99, 100, 101, 102]⟩ : ByteArray)[j.val]'(j.isLt) = hexD.getD j.val 0 := by decide
  exact this ⟨i, h⟩
theorem and15 (n : Nat) (h : n < 256) : bits BinOp.and IntKind.u8 (n : Int) 15 = (n : Int) % 16 := by
  have : ∀ j : Fin 256, bits BinOp.and IntKind.u8 (j.val : Int) 15 = (j.val : Int) % 16 := by decide +kernel
  exact this ⟨n, h⟩

theorem quote_ne {n1 c1 g g1 W Z : Nat} (hat : (Value.slice (some ⟨g, 0, none⟩) n1 c1).ownBlock = some g1 ∨ Z ≤ g1) (hg : Hid (g ≠ W + 1)) (hlt : W + 1 < Z) : Hid (g1 ≠ W + 1) := by
  rcases hat with h | h
  · simp only [Value.ownBlock, Option.some.injEq] at h
    subst h; exact hg
  · unfold Hid; omega
theorem hexNews (b : UInt8) (hb : b.toNat < 256) (h1 : ((b.toNat : Int) / 16).toNat < (⟨#[48, 49, 50, 51, 52, 53, 54, 55, 56, 57, 97, 98, 99, 100, 101, 102]⟩ : ByteArray).size) (h2 : ((b.toNat : Int) % 16).toNat < (⟨#[48, 49, 50, 51, 52, 53, 54, 55, 56, 57, 97, 98, 99, 100, 101, 102]⟩ : ByteArray).size) :
    (#[.int .u8 92, .int .u8 ((⟨#[48, 49, 50, 51, 52, 53, 54, 55, 56, 57, 97, 98, 99, 100, 101, 102]⟩ : ByteArray)[((b.toNat : Int) / 16).toNat]).toNat, .int .u8 ((⟨#[48, 49, 50, 51, 52, 53, 54, 55, 56, 57, 97, 98, 99, 100, 101, 102]⟩ : ByteArray)[((b.toNat : Int) % 16).toNat]).toNat] : Array Value).toList =
      byteCells [92, hexD.getD (b.toNat / 16) 0, hexD.getD (b.toNat % 16) 0] := by
  have e1 : ((b.toNat : Int) / 16).toNat = b.toNat / 16 := by omega
  have e2 : ((b.toNat : Int) % 16).toNat = b.toNat % 16 := by omega
  have k1 := hexAt _ (by omega : ((b.toNat : Int) / 16).toNat < 16) h1
  have k2 := hexAt _ (by omega : ((b.toNat : Int) % 16).toNat < 16) h2
  rw [k1, k2, e1, e2]
  rfl

theorem quote_any (s : ByteArray) (w : World) (hs : s.size ≤ 1000000) :
    Calls Tryz.prog 95 #[.string s] w fun e w' => e = .returned (.string ⟨(quoteL s.data.toList ++ [34]).toArray⟩) ∧ Below w.heap.size w w' := by
  go_enter Tryz.func95, Tryz.ntmps95
  go_wp2_with (first
    | (refine wpList_s2b Tryz.underlying9 Tryz.underlying126 Tryz.underlying5 _ rfl (.tmp 7) rfl s rfl ?_; intro cap w1 hb1 hlt1 hc1))
  have hb1' : Below (w.heap.size + 1) (w.alloc (.cells #[.int .u8 34] 5)) w1 := by simpa using hb1
  have hlt1' : w.heap.size + 1 < w1.heap.size := by simpa using hlt1
  have hc1' : ∀ j (hj : j < s.size), w1.cell? ⟨w.heap.size + 1, j, none⟩ = some (.int .u8 ((s[j]).toNat : Int)) := by simpa using hc1
  have hown1 : OwnsB w1 w.heap.size 5 _ _ := owns_of_block (B := w.heap.size) [34] (below_new hb1') (Nat.le_refl _) rfl (by simp [maxLen])
  have hb0 := below_old hb1'
  clear hb1 hlt1 hc1 hb1'
  have Hc := Lib.hid hc1'
  clear hc1'
  go_loopw [3, 10] (fun v i wr => ∃ k g cap' : Nat, k ≤ s.size ∧ i = .int .i64 k ∧ v = .slice (some ⟨g, 0, none⟩) (quoteL (s.data.toList.take k)).length cap' ∧
      OwnsB wr w.heap.size 5 (.slice (some ⟨g, 0, none⟩) (quoteL (s.data.toList.take k)).length cap') (quoteL (s.data.toList.take k)) ∧
      Hid (g ≠ w.heap.size + 1) ∧ Below w.heap.size w wr ∧ w.heap.size + 1 < wr.heap.size ∧ Hid (∀ j (hj : j < s.size), wr.cell? ⟨w.heap.size + 1, j, none⟩ = some (.int .u8 ((s[j]).toNat : Int))))
    (fun _ i _ => s.size - (intOf i).toNat)
  case atStart => exact ⟨0, w.heap.size, 1, Nat.zero_le _, rfl, rfl, hown1, by unfold Hid; omega, hb0, hlt1', Hc⟩
  case round =>
    obtain ⟨k, g, cap', hk, rfl, rfl, hown, hg, hb, hlt, hc⟩ := hrel
    clear hown1 hb0 hlt1' Hc
    have hl1 := quoteL_len (s.data.toList.take k)
    have hl2 : (s.data.toList.take k).length ≤ k := List.length_take_le _ _
    have hl3 : (quoteL (s.data.toList.take k)).length ≤ 3000001 := by omega
    clear hl1 hl2
    have hsz := hb.size
    by_cases hlt2 : k < s.size
    · have hcell := hc.out k hlt2
      have hq := quoteL_snoc (s.data.toList.take k) s[k]
      rw [← take_snoc s k hlt2] at hq
      have Hq := Lib.hid hq
      clear hq
      obtain ⟨b, hbe⟩ : ∃ b, b = s[k] := ⟨_, rfl⟩
      rw [← hbe] at hcell Hq
      clear hbe
      have hb255 : b.toNat < 256 := b.toNat_lt
      generalize hql : quoteL (s.data.toList.take k) = l at *
      clear hql
      cases hn : needI b.toNat
      · have hq1 := Lib.hid (show quote1 b = [b] by simp [quote1, hn])
        go_wp2_with fail
        refine (needsEscape_any _ _ (by omega) (by omega)).mono ?_
        rintro e w' ⟨rfl, rfl⟩
        go_wp2_with (at_builtin; refine wpList_app Tryz.underlying126 infoU8 _ w' rfl (.tmp 25) (.tmp 27) rfl w.heap.size (.slice (some ⟨g, 0, none⟩) l.length cap') l rfl hown [b] 1 1 _ rfl rfl rfl rfl rfl rfl rfl (by decide) (by omega) hsz ?_; intro l2 g1 cap1 w2 hl2 hown2 haw2 hb2 hat2 hlt2)
        refine ⟨⟨k + 1, g1, cap1, by omega, by go_num, ?_⟩, by simp [intOf]; omega⟩
        rw [Hq.out, hq1.out, ← hl2.out]
        exact ⟨rfl, hown2, quote_ne hat2 hg hlt, hb.trans hb2, by have := haw2.size; omega, fun j hj => (haw2.cell hlt (by simpa [Value.ownBlock] using Ne.symm hg.out)).trans (hc.out j hj)⟩
      · have hx0 : (0 : Int) ≤ (b.toNat : Int) / 16 := by omega
        have hx1 : (b.toNat : Int) / 16 < 16 := by omega
        have hand := and15 b.toNat hb255
        have hx2 : (0 : Int) ≤ (b.toNat : Int) % 16 := by omega
        have hx3 : (b.toNat : Int) % 16 < 16 := by omega
        have hq1 := Lib.hid (show quote1 b = [92, hexD.getD (b.toNat / 16) 0, hexD.getD (b.toNat % 16) 0] by simp [quote1, hn])
        go_wp2_with fail
        refine (needsEscape_any _ _ (by omega) (by omega)).mono ?_
        rintro e w' ⟨rfl, rfl⟩
        go_wp2_with fail
        go_region_law (refine step_app Tryz.underlying126 infoU8 _ w' rfl (.tmp 16) (.tmp 23) rfl w.heap.size (.slice (some ⟨g, 0, none⟩) l.length cap') l rfl hown [92, hexD.getD (b.toNat / 16) 0, hexD.getD (b.toNat % 16) 0] 3 3 _ rfl rfl rfl rfl rfl (hexNews b hb255 _ _) rfl (by decide) (by omega) hsz ?_; intro l2 g1 cap1 w2 hl2 hown2 haw2 hb2 hat2 hlt2)
        all_goals
          go_wp2_with fail
          refine ⟨⟨k + 1, g1, cap1, by omega, by go_num, ?_⟩, by simp [intOf]; omega⟩
          rw [Hq.out, hq1.out, ← hl2.out]
          exact ⟨rfl, hown2, quote_ne hat2 hg hlt, hb.trans hb2, by have := haw2.size; omega, fun j hj => (haw2.cell hlt (by simpa [Value.ownBlock] using Ne.symm hg.out)).trans (hc.out j hj)⟩
    · obtain rfl : k = s.size := by omega
      have htk : s.data.toList.take s.size = s.data.toList := List.take_of_length_le (by simp)
      simp only [htk] at hown hl3 ⊢
      go_wp2_with (first | (at_builtin; refine wpList_app Tryz.underlying126 infoU8 _ wr rfl (.tmp 30) (.tmp 31) rfl w.heap.size (.slice (some ⟨g, 0, none⟩) (quoteL s.data.toList).length cap') _ rfl hown [34] 1 1 _ rfl rfl rfl rfl rfl rfl rfl (by decide) (by omega) hsz ?_; intro l2 g1 cap1 w2 hl2 hown2 haw2 hb2 hat2 hlt2) | (refine wpList_b2s Tryz.underlying9 Tryz.underlying126 Tryz.underlying5 _ rfl (.tmp 32) rfl _ _ _ rfl hown2 ?_))
      go_ret
      rw [← hl2.out]
      exact ⟨rfl, hb.trans hb2⟩
end Go.Proofs.YtmikeifkmjhioaaGreatDoor
