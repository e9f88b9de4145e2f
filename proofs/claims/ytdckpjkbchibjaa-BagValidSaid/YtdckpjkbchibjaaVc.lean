/- Contracts of appendInt, appendText, appendValue, EncodeRow of package value and of EncodeRow of its reference: the byte form of a row. -/
import Derived.Test.YtdckpjkbchibjaaVb
namespace Go.Proofs.Ytdckpjkbchibjaa
open Go.RowKit Go.Proofs.EB
open Go.Lib (byteCells)
set_option maxHeartbeats 400000

/-- A call that gives back an owned row of bytes. -/
def GaveB (w : World) (B : Nat) (l : List UInt8) (e : Ending) (w' : World) : Prop := ∃ v', e = .returned v' ∧ OwnsB w' B 5 v' l ∧ Below B w w'
def byteAt (m : Int) (i : Nat) : UInt8 := UInt8.ofNat ((m / 256 ^ i).toNat % 256)
def int5 (m : Int) : List UInt8 := [byteAt m 4, byteAt m 3, byteAt m 2, byteAt m 1, byteAt m 0]

theorem byteAt_cell (m : Int) (i : Nat) (x : Int) (h0 : 0 ≤ m) (h : x = m / 256 ^ i % 256) : [Value.int .u8 x] = byteCells [byteAt m i] := by
  have h1 : 0 ≤ m / 256 ^ i := Int.ediv_nonneg h0 (by exact Int.pow_nonneg (by decide))
  have : ((byteAt m i).toNat : Int) = x := by
    rw [h]
    unfold byteAt
    simp only [UInt8.toNat_ofNat']
    omega
  simp [byteCells, this]

theorem appendInt_any (v : Value) (l : List UInt8) (n : Int) (B : Nat) (w : World) (hn0 : -4294967296 ≤ n) (hn1 : n ≤ 4294967296) (hl : l.length ≤ 1000000000) (hown : OwnsB w B 5 v l) (hB : B ≤ w.heap.size) :
    Calls Try.prog 84 #[v, .int .i64 n] w (GaveB w B (l ++ int5 (n + 4294967296))) := by
  go_enter Try.func84, Try.ntmps84
  go_wp2_with fail
  refine wp_loop_rounds 6 ?_
  rw [rounds_succ]
  go_wp2_with (at_builtin; refine wpList_app Try.underlying86 infoU8 _ w rfl (.tmp 13) (.tmp 19) rfl B v l rfl hown [byteAt (n + 4294967296) 4] 1 1 _ rfl rfl rfl rfl rfl ?_ rfl (by decide) (by omega) hB ?_; rotate_right; intro l0 g0 cap0 w0 hl0 hown0 haw0 hb0 hat0 hlt0)
  rotate_right
  · exact byteAt_cell _ _ _ (by omega) (by omega)
  have hB0 : B ≤ w0.heap.size := by have := hb0.size; omega
  have hle0 : l0.length ≤ 1000000000 + 1 := by rw [hl0.out]; simp; omega
  rw [rounds_succ]
  go_wp2_with (at_builtin; refine wpList_app Try.underlying86 infoU8 _ w0 rfl (.tmp 13) (.tmp 19) rfl B (.slice (some ⟨g0, 0, none⟩) l0.length cap0) l0 rfl hown0 [byteAt (n + 4294967296) 3] 1 1 _ rfl rfl rfl rfl rfl ?_ rfl (by decide) (by omega) hB0 ?_; rotate_right; intro l1 g1 cap1 w1 hl1 hown1 haw1 hb1 hat1 hlt1)
  rotate_right
  · exact byteAt_cell _ _ _ (by omega) (by omega)
  have hB1 : B ≤ w1.heap.size := by have := hb1.size; omega
  have hle1 : l1.length ≤ 1000000000 + 2 := by rw [hl1.out]; simp; omega
  rw [rounds_succ]
  go_wp2_with (at_builtin; refine wpList_app Try.underlying86 infoU8 _ w1 rfl (.tmp 13) (.tmp 19) rfl B (.slice (some ⟨g1, 0, none⟩) l1.length cap1) l1 rfl hown1 [byteAt (n + 4294967296) 2] 1 1 _ rfl rfl rfl rfl rfl ?_ rfl (by decide) (by omega) hB1 ?_; rotate_right; intro l2 g2 cap2 w2 hl2 hown2 haw2 hb2 hat2 hlt2)
  rotate_right
  · exact byteAt_cell _ _ _ (by omega) (by omega)
  have hB2 : B ≤ w2.heap.size := by have := hb2.size; omega
  have hle2 : l2.length ≤ 1000000000 + 3 := by rw [hl2.out]; simp; omega
  rw [rounds_succ]
  go_wp2_with (at_builtin; refine wpList_app Try.underlying86 infoU8 _ w2 rfl (.tmp 13) (.tmp 19) rfl B (.slice (some ⟨g2, 0, none⟩) l2.length cap2) l2 rfl hown2 [byteAt (n + 4294967296) 1] 1 1 _ rfl rfl rfl rfl rfl ?_ rfl (by decide) (by omega) hB2 ?_; rotate_right; intro l3 g3 cap3 w3 hl3 hown3 haw3 hb3 hat3 hlt3)
  rotate_right
  · exact byteAt_cell _ _ _ (by omega) (by omega)
  have hB3 : B ≤ w3.heap.size := by have := hb3.size; omega
  have hle3 : l3.length ≤ 1000000000 + 4 := by rw [hl3.out]; simp; omega
  rw [rounds_succ]
  go_wp2_with (at_builtin; refine wpList_app Try.underlying86 infoU8 _ w3 rfl (.tmp 13) (.tmp 19) rfl B (.slice (some ⟨g3, 0, none⟩) l3.length cap3) l3 rfl hown3 [byteAt (n + 4294967296) 0] 1 1 _ rfl rfl rfl rfl rfl ?_ rfl (by decide) (by omega) hB3 ?_; rotate_right; intro l4 g4 cap4 w4 hl4 hown4 haw4 hb4 hat4 hlt4)
  rotate_right
  · exact byteAt_cell _ _ _ (by omega) (by omega)
  have hB4 : B ≤ w4.heap.size := by have := hb4.size; omega
  have hle4 : l4.length ≤ 1000000000 + 5 := by rw [hl4.out]; simp; omega
  rw [rounds_succ]
  go_wp2_with fail
  go_ret
  refine ⟨_, rfl, ?_, (((hb0.trans hb1).trans hb2).trans hb3).trans hb4⟩
  have e4 : l4 = l ++ int5 (n + 4294967296) := by rw [hl4.out, hl3.out, hl2.out, hl1.out, hl0.out]; simp [int5]
  rw [← e4]
  exact hown4

def esc1 (b : UInt8) : List UInt8 := if b.toNat = 0 then [0, 255] else [b]
def escL (l : List UInt8) : List UInt8 := l.flatMap esc1
theorem escL_len (l : List UInt8) : (escL l).length ≤ 2 * l.length := by
  unfold escL
  induction l with
  | nil => simp
  | cons a l ih =>
    have : (esc1 a).length ≤ 2 := by unfold esc1; split <;> simp
    simp only [List.flatMap_cons, List.length_append, List.length_cons]; omega
theorem escL_snoc (l : List UInt8) (b : UInt8) : escL (l ++ [b]) = escL l ++ esc1 b := by simp [escL]
theorem own_ne {v : Value} {n1 c1 g0 g1 Z : Nat} (hat : v.ownBlock = some g1 ∨ Z ≤ g1) (hg : Hid (v.ownBlock ≠ some g0)) (hlt : g0 < Z) : Hid ((Value.slice (some ⟨g1, 0, none⟩) n1 c1).ownBlock ≠ some g0) := by
  unfold Hid
  simp only [Value.ownBlock, ne_eq, Option.some.injEq]
  rcases hat with h | h
  · intro h2; subst h2; exact hg.out h
  · omega
theorem own_lt {w : World} {B : Nat} {e : TypeId} {v : Value} {l : List UInt8} (h : OwnsB w B e v l) : v.ownBlock ≠ some w.heap.size := fun hk => by have := (World.ownsRow.lt h _ hk).2; omega
theorem away_of_below {w w' : World} (h : Below w.heap.size w w') : Away none w w' := ⟨h.os, h.tape, h.output, h.size, fun k hk _ => h.block k hk⟩
theorem ownsB_below {w w' : World} {B : Nat} {e : TypeId} {v : Value} {l : List UInt8} (h : OwnsB w B e v l) (hb : Below w.heap.size w w') : OwnsB w' B e v l := (away_of_below hb).ownsB h (by cases hv : v.ownBlock <;> simp)

theorem appendText_any (v : Value) (l : List UInt8) (s : ByteArray) (B : Nat) (w : World) (hs : s.size ≤ 1000000) (hl : l.length ≤ 1000000000) (hown : OwnsB w B 5 v l) (hB : B ≤ w.heap.size) :
    Calls Try.prog 85 #[v, .string s] w (GaveB w B (l ++ (escL s.data.toList ++ [0, 0]))) := by
  go_enter Try.func85, Try.ntmps85
  go_wp2_with (first
    | (refine wpList_s2b Try.underlying9 Try.underlying86 Try.underlying5 _ rfl (.tmp 7) rfl s rfl ?_; intro cap w1 hb1 hlt1 hc1))
  have hown1 := ownsB_below hown hb1
  have hne := Lib.hid (own_lt hown)
  have Hc := Lib.hid hc1
  have hb0 := hb1.mono hB
  clear hc1 hown hb1
  go_loopw [0, 10] (fun v i wr => ∃ (k : Nat) (l' : List UInt8) (vr : Value), k ≤ s.size ∧ i = .int .i64 k ∧ vr = v ∧ Hid (l' = l ++ escL (s.data.toList.take k)) ∧ OwnsB wr B 5 vr l' ∧
      Hid (vr.ownBlock ≠ some w.heap.size) ∧ Below B w wr ∧ w.heap.size < wr.heap.size ∧ Hid (∀ j (hj : j < s.size), wr.cell? ⟨w.heap.size, j, none⟩ = some (.int .u8 ((s[j]).toNat : Int))))
    (fun _ i _ => s.size - (intOf i).toNat)
  case atStart => exact ⟨0, l, v, Nat.zero_le _, rfl, rfl, by simp [Hid, escL], hown1, hne, hb0, hlt1, Hc⟩
  case round =>
    obtain ⟨k, l', vr, hk, rfl, rfl, hl', hownr, hner, hb, hlt, hc⟩ := hrel
    clear hown1 hne hb0 hlt1 Hc
    have hle : l'.length ≤ 1002000000 := by
      rw [hl'.out]
      have h1 := escL_len (s.data.toList.take k)
      have h2 : (s.data.toList.take k).length ≤ k := List.length_take_le _ _
      simp only [List.length_append]; omega
    have hsz := hb.size
    have hB' : B ≤ wr.heap.size := by omega
    by_cases hlt2 : k < s.size
    · have hcell := hc.out k hlt2
      have hq := escL_snoc (s.data.toList.take k) s[k]
      rw [← take_snoc s k hlt2] at hq
      have Hq := Lib.hid hq
      clear hq
      obtain ⟨b, hbe⟩ : ∃ b, b = s[k] := ⟨_, rfl⟩
      rw [← hbe] at hcell Hq
      clear hbe
      have hb255 : b.toNat < 256 := b.toNat_lt
      by_cases hz : b.toNat = 0
      · have he1 := Lib.hid (show esc1 b = [0, 255] by simp [esc1, hz])
        have hb0' : b = 0 := UInt8.toNat_inj.1 (by simpa using hz)
        subst hb0'
        clear hz
        go_wp2_with (first
          | (at_builtin; refine wpList_app Try.underlying86 infoU8 _ wr rfl (.tmp 14) (.tmp 16) rfl B vr l' rfl hownr [0] 1 1 _ rfl rfl rfl rfl rfl rfl rfl (by decide) (by omega) hB' ?_; intro l2 g2 cap2 w2 hl2 hown2 haw2 hb2 hat2 hlt2'; have hB2 : B ≤ w2.heap.size := Nat.le_trans hB' hb2.size; have hle2 : l2.length ≤ 1002000001 := by rw [hl2.out]; simp; omega)
          | (at_builtin; refine wpList_app Try.underlying86 infoU8 _ w2 rfl (.tmp 20) (.tmp 21) rfl B (.slice (some ⟨g2, 0, none⟩) l2.length cap2) l2 rfl hown2 [255] 1 1 _ rfl rfl rfl rfl rfl rfl rfl (by decide) (by omega) hB2 ?_; intro l3 g3 cap3 w3 hl3 hown3 haw3 hb3 hat3 hlt3'))
        have hs2 := haw2.size
        have hs3 := haw3.size
        have hne2 := own_ne (n1 := l2.length) (c1 := cap2) hat2 hner hlt
        have hne3 := own_ne (n1 := l3.length) (c1 := cap3) hat3 hne2 (by omega)
        refine ⟨⟨k + 1, l3, _, by omega, by go_num, rfl, ?_, hown3, hne3, (hb.trans hb2).trans hb3, by omega, fun j hj => ?_⟩, by simp [intOf]; omega⟩
        · unfold Hid; rw [Hq.out, he1.out, hl3.out, hl2.out, hl'.out]; simp
        · exact (haw3.cell (show w.heap.size < w2.heap.size by omega) (Ne.symm hne2.out)).trans ((haw2.cell hlt (Ne.symm hner.out)).trans (hc.out j hj))
      · have he1 := Lib.hid (show esc1 b = [b] by simp [esc1, hz])
        have hzb : ((b.toNat : Int) == 0) = false := by simpa using hz
        go_wp2_with (at_builtin; refine wpList_app Try.underlying86 infoU8 _ wr rfl (.tmp 14) (.tmp 16) rfl B vr l' rfl hownr [b] 1 1 _ rfl rfl rfl rfl rfl rfl rfl (by decide) (by omega) hB' ?_; intro l2 g2 cap2 w2 hl2 hown2 haw2 hb2 hat2 hlt2')
        have hne2 := own_ne (n1 := l2.length) (c1 := cap2) hat2 hner hlt
        have hs2 := haw2.size
        refine ⟨⟨k + 1, l2, _, by omega, by go_num, rfl, ?_, hown2, hne2, hb.trans hb2, by omega, fun j hj => ?_⟩, by simp [intOf]; omega⟩
        · unfold Hid; rw [Hq.out, he1.out, hl2.out, hl'.out]; simp
        · exact (haw2.cell hlt (Ne.symm hner.out)).trans (hc.out j hj)
    · obtain rfl : k = s.size := by omega
      have htk : s.data.toList.take s.size = s.data.toList := List.take_of_length_le (by simp)
      have hl4 := hl'.out
      rw [htk] at hl4
      have hl4 := Lib.hid hl4
      clear hl'
      go_wp2_with (at_builtin; refine wpList_app Try.underlying86 infoU8 _ wr rfl (.tmp 24) (.tmp 25) rfl B vr l' rfl hownr [0, 0] 2 2 _ rfl rfl rfl rfl rfl rfl rfl (by decide) (by omega) hB' ?_; intro l2 g2 cap2 w2 hl2 hown2 haw2 hb2 hat2 hlt2')
      go_ret
      refine ⟨_, rfl, ?_, hb.trans hb2⟩
      have e4 : l2 = l ++ (escL s.data.toList ++ [0, 0]) := by rw [hl2.out, hl4.out]; simp
      rw [← e4]
      exact hown2

def encV (x : V) : List UInt8 := if x.k = 1 then 2 :: int5 (x.n + 4294967296) else if x.k = 2 then 3 :: (escL x.s.data.toList ++ [0, 0]) else [1]
theorem appendValue_any (v : Value) (l : List UInt8) (k n : Int) (s : ByteArray) (B : Nat) (w : World) (hv : validB k n s = true) (hl : l.length ≤ 900000000) (hown : OwnsB w B 5 v l) (hB : B ≤ w.heap.size) :
    Calls Try.prog 76 #[v, .agg #[.int .i64 k, .int .i64 n, .string s]] w (GaveB w B (l ++ encV ⟨k, n, s⟩)) := by
  have hb1 : Below w.heap.size w (w.alloc (.cells #[.int .i64 k, .int .i64 n, .string s] 42)) := (Below.refl _ _).alloc (Nat.le_refl _) _
  have hown1 := ownsB_below hown hb1
  have hB1 : B ≤ (w.alloc (.cells #[.int .i64 k, .int .i64 n, .string s] 42)).heap.size := by simp; omega
  have hlt1 : w.heap.size < (w.alloc (.cells #[.int .i64 k, .int .i64 n, .string s] 42)).heap.size := by simp
  have c0 : (w.alloc (.cells #[.int .i64 k, .int .i64 n, .string s] 42)).cell? ⟨w.heap.size, 0, none⟩ = some (.int .i64 k) := by simp
  have c1 : (w.alloc (.cells #[.int .i64 k, .int .i64 n, .string s] 42)).cell? ⟨w.heap.size, 1, none⟩ = some (.int .i64 n) := by simp
  have c2 : (w.alloc (.cells #[.int .i64 k, .int .i64 n, .string s] 42)).cell? ⟨w.heap.size, 2, none⟩ = some (.string s) := by simp
  have hne := Lib.hid (own_lt hown)
  have hb0 := Lib.hid (hb1.mono hB)
  clear hb1
  by_cases h1 : k = 1
  · subst h1
    have hr : -4294967296 ≤ n ∧ n ≤ 4294967296 := by simp [validB] at hv; omega
    obtain ⟨hr1, hr2⟩ := hr
    clear hv
    go_enter Try.func76, Try.ntmps76
    go_wp2_with fail
    generalize w.alloc (.cells #[.int .i64 1, .int .i64 n, .string s] 42) = wb at *
    go_region_law (first
        | ((with_reducible refine at_slot 14 ?_); refine step_app Try.underlying86 infoU8 _ wb rfl (.tmp 12) (.tmp 13) rfl B v l rfl hown1 [2] 1 1 _ rfl rfl rfl rfl rfl rfl rfl (by decide) (by omega) hB1 ?_; intro l2 g2 cap2 w2 hl2 hown2 haw2 hb2 hat2 hlt2'; have c1' := (haw2.cell (a := ⟨w.heap.size, 1, none⟩) hlt1 (Ne.symm hne.out)).trans c1)
        | (go_simp; go_at_call 84; refine (appendInt_any _ l2 n B _ hr1 hr2 (by rw [hl2.out]; simp; omega) (by exact hown2) (by exact Nat.le_trans hB1 hb2.size)).mono ?_; rintro e w3 ⟨v3, rfl, hown3, hb3⟩))
    all_goals
      go_wp2_with fail
      go_ret
      refine ⟨_, rfl, ?_, (hb0.out.trans hb2).trans hb3⟩
      have e4 : l2 ++ int5 (n + 4294967296) = l ++ encV ⟨1, n, s⟩ := by rw [hl2.out]; simp [encV]
      rw [← e4]
      exact hown3
  · by_cases h2 : k = 2
    · subst h2
      have hr : s.size ≤ 32 := by simp [validB] at hv; omega
      clear hv h1
      go_enter Try.func76, Try.ntmps76
      go_wp2_with fail
      generalize w.alloc (.cells #[.int .i64 2, .int .i64 n, .string s] 42) = wb at *
      go_region_law (first
        | ((with_reducible refine at_slot 22 ?_); refine step_app Try.underlying86 infoU8 _ wb rfl (.tmp 20) (.tmp 21) rfl B v l rfl hown1 [3] 1 1 _ rfl rfl rfl rfl rfl rfl rfl (by decide) (by omega) hB1 ?_; intro l2 g2 cap2 w2 hl2 hown2 haw2 hb2 hat2 hlt2'; have c1' := (haw2.cell (a := ⟨w.heap.size, 2, none⟩) hlt1 (Ne.symm hne.out)).trans c2)
        | (go_simp; go_at_call 85; refine (appendText_any _ l2 s B _ (by omega) (by rw [hl2.out]; simp; omega) (by exact hown2) (by exact Nat.le_trans hB1 hb2.size)).mono ?_; rintro e w3 ⟨v3, rfl, hown3, hb3⟩))
      all_goals
        go_wp2_with fail
        go_ret
        refine ⟨_, rfl, ?_, (hb0.out.trans hb2).trans hb3⟩
        have e4 : l2 ++ (escL s.data.toList ++ [0, 0]) = l ++ encV ⟨2, n, s⟩ := by rw [hl2.out]; simp [encV]
        rw [← e4]
        exact hown3
    · have hk0 : k = 0 := by
        simp only [validB, h1, h2, if_false] at hv
        by_cases h0 : k = 0
        · exact h0
        · simp [h0] at hv
      subst hk0
      clear hv h1 h2
      go_enter Try.func76, Try.ntmps76
      go_wp2_with (first
        | (at_builtin; refine wpList_app Try.underlying86 infoU8 _ (w.alloc (.cells #[.int .i64 0, .int .i64 n, .string s] 42)) rfl (.tmp 7) (.tmp 8) rfl B v l rfl hown1 [1] 1 1 _ (by simp; rfl) rfl rfl rfl rfl rfl rfl (by decide) (by omega) hB1 ?_; intro l2 g2 cap2 w2 hl2 hown2 haw2 hb2 hat2 hlt2'))
      go_ret
      refine ⟨_, rfl, ?_, hb0.out.trans hb2⟩
      have e4 : l2 = l ++ encV ⟨0, n, s⟩ := by rw [hl2.out]; simp [encV]
      rw [← e4]
      exact hown2
end Go.Proofs.Ytdckpjkbchibjaa
