/- Contract of EncodeRow of the reference erasureref01. -/
import Derived.Test.YtkdjbgjcccnijaaDoorVi
namespace Go.Proofs.YtkdjbgjcccnijaaDoor
open Go.RowKit Go.Proofs.EB
open Go.Lib (byteCells)
set_option maxHeartbeats 1000000
attribute [local go_sem] World.cell?_alloc_some

theorem int6_cells (m x4 x3 x2 x1 x0 : Int) (h0 : 0 ≤ m) (h4 : x4 = m / 256 ^ 4 % 256) (h3 : x3 = m / 256 ^ 3 % 256) (h2 : x2 = m / 256 ^ 2 % 256) (h1 : x1 = m / 256 ^ 1 % 256) (hx : x0 = m / 256 ^ 0 % 256) :
    (#[.int .u8 2, .int .u8 x4, .int .u8 x3, .int .u8 x2, .int .u8 x1, .int .u8 x0] : Array Value).toList = byteCells (2 :: int5 m) := by
  have e4 := byteAt_cell m 4 x4 h0 h4
  have e3 := byteAt_cell m 3 x3 h0 h3
  have e2 := byteAt_cell m 2 x2 h0 h2
  have e1 := byteAt_cell m 1 x1 h0 h1
  have e0 := byteAt_cell m 0 x0 h0 hx
  simp only [byteCells, List.map_cons, List.map_nil, List.cons.injEq, and_true] at e4 e3 e2 e1 e0
  simp [byteCells, int5, e4, e3, e2, e1, e0]

theorem rencodeRow_any (ao : Option Addr) (cap : Nat) (l : List V) (w : World) (hl : l.length ≤ 1000000) (hr : RowAt w w.heap.size ao l) :
    Calls Tryd.prog 36 #[.slice ao l.length cap] w fun e w' => e = .returned (.string ⟨(encRow l).toArray⟩) ∧ Below w.heap.size w w' := by
  go_enter Tryd.func36, Tryd.ntmps36
  go_wp2_with fail
  go_loopw [3, 4] (fun v i wr => ∃ (k : Nat) (l' : List UInt8) (vr : Value), k ≤ l.length ∧ i = .int .i64 k ∧ vr = v ∧ Hid (l' = encRow (l.take k)) ∧ OwnsB wr w.heap.size 5 vr l' ∧ Below w.heap.size w wr) (fun _ i _ => l.length - (intOf i).toNat)
  case atStart => exact ⟨0, [], _, Nat.zero_le _, rfl, rfl, by simp [Hid, encRow], OwnsB.nil _ _, Below.refl _ _⟩
  case round =>
    obtain ⟨k, l', vr, hk, rfl, rfl, hl', hown, hb⟩ := hrel
    have hle : l'.length ≤ 67000000 := by
      rw [hl'.out]
      have h1 := encRow_len (l.take k)
      have h2 : (l.take k).length ≤ k := List.length_take_le _ _
      omega
    have hsz := hb.size
    by_cases hlt : k < l.length
    · obtain ⟨b, off, kk, n, s, rfl, hbB, hv, hok, c1, c2, c3⟩ := (hr.below hb).at hlt
      have hq := encRow_snoc (l.take k) l[k]
      rw [← take_snocV l k hlt, hv] at hq
      have Hok := Lib.hid hok
      obtain ⟨⟨kc, nc, sc⟩, hcl⟩ : ∃ x, cleanV ⟨kk, n, s⟩ = x := ⟨_, rfl⟩
      have hvc : validB kc nc sc = true := by have := cleanV_valid ⟨kk, n, s⟩; rw [hcl] at this; exact this
      rw [hcl] at hq
      have Hq := Lib.hid hq
      have Hcl := Lib.hid hcl
      clear hv hok hq hcl
      by_cases h1 : kc = 1
      · subst h1
        have hr : -4294967296 ≤ nc ∧ nc ≤ 4294967296 := by simp [validB] at hvc; omega
        obtain ⟨hr1, hr2⟩ := hr
        clear hvc
        go_wp2_with fail
        refine (rclean_is _ Hok.out.2.2 Hcl.out).mono ?_
        rintro e w1 ⟨rfl, hb1⟩
        have hown1 := ownsB_below hown hb1
        have hs1 := hb1.size
        clear c1 c2 c3
        have hown2 := ownsB_below hown1 ((Below.refl _ _).alloc (Nat.le_refl _) (.cells #[.int .i64 1, .int .i64 nc, .string sc] 27))
        have hB2 : w.heap.size ≤ (w1.alloc (.cells #[.int .i64 1, .int .i64 nc, .string sc] 27)).heap.size := by simp; omega
        go_wp2_with (at_builtin; refine wpList_app Tryd.underlying68 infoU8 _ (w1.alloc (.cells #[.int .i64 1, .int .i64 nc, .string sc] 27)) rfl (.tmp 29) (.tmp 44) rfl w.heap.size vr l' rfl hown2 (2 :: int5 (nc + 4294967296)) 6 6 _ (by simp; rfl) rfl rfl rfl rfl ?_ rfl (by decide) (by omega) hB2 ?_; rotate_right; intro l2 g2 cap2 w2 hl2 hown3 haw2 hb2 hat2 hlt2)
        rotate_right
        · exact int6_cells _ _ _ _ _ _ (by omega) (by omega) (by omega) (by omega) (by omega) (by omega)
        refine ⟨⟨k + 1, l2, _, by omega, by go_num, rfl, ?_, hown3, ((hb.trans (hb1.mono hsz)).alloc (by omega) _).trans hb2⟩, by simp [intOf]; omega⟩
        unfold Hid
        rw [Hq.out, hl2.out, hl'.out]; simp [encV]
      · by_cases h2 : kc = 2
        · subst h2
          have hr : sc.size ≤ 32 := by simp [validB] at hvc; omega
          clear hvc h1
          go_wp2_with fail
          refine (rclean_is _ Hok.out.2.2 Hcl.out).mono ?_
          rintro e w1 ⟨rfl, hb1⟩
          have hown1 := ownsB_below hown hb1
          have hs1 := hb1.size
          clear c1 c2 c3
          have hown2 := ownsB_below hown1 ((Below.refl _ _).alloc (Nat.le_refl _) (.cells #[.int .i64 2, .int .i64 nc, .string sc] 27))
          have hB2 : w.heap.size ≤ (w1.alloc (.cells #[.int .i64 2, .int .i64 nc, .string sc] 27)).heap.size := by simp; omega
          have hbx : Below w.heap.size w (w1.alloc (.cells #[.int .i64 2, .int .i64 nc, .string sc] 27)) := (hb.trans (hb1.mono hsz)).alloc (by omega) _
          have d3 : (w1.alloc (.cells #[.int .i64 2, .int .i64 nc, .string sc] 27)).cell? ⟨w1.heap.size, 2, none⟩ = some (.string sc) := by simp
          have hgb : w1.heap.size < (w1.alloc (.cells #[.int .i64 2, .int .i64 nc, .string sc] 27)).heap.size := by simp
          have hne1 := Lib.hid (own_lt hown1)
          go_wp2_with (at_builtin; refine wpList_app Tryd.underlying68 infoU8 _ (w1.alloc (.cells #[.int .i64 2, .int .i64 nc, .string sc] 27)) rfl (.tmp 48) (.tmp 49) rfl w.heap.size vr l' rfl hown2 [3] 1 1 _ (by simp; rfl) rfl rfl rfl rfl rfl rfl (by decide) (by omega) hB2 ?_; intro l2 g2 cap2 w2 hl2 hown3 haw2 hb2 hat2 hlt2)
          have hne2 := own_ne (n1 := l2.length) (c1 := cap2) hat2 hne1 hgb
          have d4 := (haw2.cell (a := ⟨w1.heap.size, 2, none⟩) hgb (Ne.symm hne1.out)).trans d3
          have hbw2 := hbx.trans hb2
          have hgb2 : w1.heap.size < w2.heap.size := by have := haw2.size; omega
          have hll : l2.length ≤ 67000001 := by rw [hl2.out]; simp; omega
          clear hown2 hown1 hb1 hb2 hat2 hlt2 haw2 d3 hgb hB2 hbx hne1 hown
          generalize w1.heap.size = gb at *
          go_loopw [3, 7] (fun v i wr => ∃ (j : Nat) (l3 : List UInt8) (vr : Value), j ≤ sc.size ∧ i = .int .i64 j ∧ vr = v ∧ Hid (l3 = l2 ++ escL (sc.data.toList.take j)) ∧ OwnsB wr w.heap.size 5 vr l3 ∧ Hid (vr.ownBlock ≠ some gb) ∧ Below w.heap.size w wr ∧ gb < wr.heap.size ∧ wr.cell? ⟨gb, 2, none⟩ = some (.string sc)) (fun _ i _ => sc.size - (intOf i).toNat)
          case atStart => exact ⟨0, l2, _, Nat.zero_le _, rfl, rfl, by simp [Hid, escL], hown3, hne2, hbw2, hgb2, d4⟩
          case round =>
            obtain ⟨j, l3, vj, hj, rfl, rfl, hl3, hownj, hnej, hbj, hgj, d3⟩ := hrel
            clear hown3 hne2 hbw2 hgb2 d4
            have hle3 : l3.length ≤ 67000100 := by
              rw [hl3.out]
              have h1 := escL_len (sc.data.toList.take j)
              have h2 : (sc.data.toList.take j).length ≤ j := List.length_take_le _ _
              simp only [List.length_append]; omega
            have hszj := hbj.size
            by_cases hltj : j < sc.size
            · have hq2 := escL_snoc (sc.data.toList.take j) sc[j]
              rw [← take_snoc sc j hltj] at hq2
              have Hq2 := Lib.hid hq2
              clear hq2
              by_cases hz : sc[j].toNat = 0
              · have hz0 : sc[j] = 0 := UInt8.toNat_inj.1 (by simpa using hz)
                have he1 := Lib.hid (show esc1 sc[j] = [0, 255] by simp [esc1, hz])
                clear hz0
                go_wp2_with (first
                  | (at_builtin; refine wpList_app Tryd.underlying68 infoU8 _ w4 rfl (.tmp 70) (.tmp 71) rfl w.heap.size (.slice (some ⟨g4, 0, none⟩) l4.length cap4) l4 rfl hown4 [255] 1 1 _ rfl rfl rfl rfl rfl rfl rfl (by decide) (by omega) hB4 ?_; intro l5 g5 cap5 w5 hl5 hown5 haw5 hb5 hat5 hlt5)
                  | (at_builtin; refine wpList_app Tryd.underlying68 infoU8 _ wr rfl (.tmp 58) (.tmp 63) rfl w.heap.size vj l3 rfl hownj [0] 1 1 _ rfl rfl rfl rfl rfl rfl rfl (by decide) (by omega) hszj ?_; intro l4 g4 cap4 w4 hl4 hown4 haw4 hb4 hat4 hlt4; have hB4 : w.heap.size ≤ w4.heap.size := Nat.le_trans hszj hb4.size; have hle4 : l4.length ≤ 67000101 := (by rw [hl4.out]; simp; omega); have d5 := (haw4.cell (a := ⟨gb, 2, none⟩) hgj (Ne.symm hnej.out)).trans d3))
                have hs4 := haw4.size
                have hs5 := haw5.size
                have hne4 := own_ne (n1 := l4.length) (c1 := cap4) hat4 hnej hgj
                have hne5 := own_ne (n1 := l5.length) (c1 := cap5) hat5 hne4 (by omega)
                refine ⟨⟨j + 1, l5, _, by omega, by go_num, rfl, ?_, hown5, hne5, (hbj.trans hb4).trans hb5, by omega, ?_⟩, by simp [intOf]; omega⟩
                · unfold Hid; rw [Hq2.out, he1.out, hl5.out, hl4.out, hl3.out]; simp
                · exact (haw5.cell (show gb < w4.heap.size by omega) (Ne.symm hne4.out)).trans d5
              · have he1 := Lib.hid (show esc1 sc[j] = [sc[j]] by simp [esc1, hz])
                have hzb : (((sc[j]).toNat : Int) == 0) = false := by simpa using hz
                clear hz
                go_wp2_with (at_builtin; refine wpList_app Tryd.underlying68 infoU8 _ wr rfl (.tmp 58) (.tmp 63) rfl w.heap.size vj l3 rfl hownj [sc[j]] 1 1 _ rfl rfl rfl rfl rfl rfl rfl (by decide) (by omega) hszj ?_; intro l4 g4 cap4 w4 hl4 hown4 haw4 hb4 hat4 hlt4; have d5 := (haw4.cell (a := ⟨gb, 2, none⟩) hgj (Ne.symm hnej.out)).trans d3)
                have hne4 := own_ne (n1 := l4.length) (c1 := cap4) hat4 hnej hgj
                have hs4 := haw4.size
                refine ⟨⟨j + 1, l4, _, by omega, by go_num, rfl, ?_, hown4, hne4, hbj.trans hb4, by omega, d5⟩, by simp [intOf]; omega⟩
                unfold Hid; rw [Hq2.out, he1.out, hl4.out, hl3.out]; simp
            · obtain rfl : j = sc.size := by omega
              have htk2 : sc.data.toList.take sc.size = sc.data.toList := List.take_of_length_le (by simp)
              have hl6 := hl3.out
              rw [htk2] at hl6
              have hl6 := Lib.hid hl6
              clear hl3
              go_wp2_with (at_builtin; refine wpList_app Tryd.underlying68 infoU8 _ wr rfl (.tmp 73) (.tmp 74) rfl w.heap.size vj l3 rfl hownj [0, 0] 2 2 _ rfl rfl rfl rfl rfl rfl rfl (by decide) (by omega) hszj ?_; intro l4 g4 cap4 w4 hl4 hown4 haw4 hb4 hat4 hlt4)
              refine ⟨⟨k + 1, l4, _, by omega, by go_num, rfl, ?_, hown4, hbj.trans hb4⟩, by simp [intOf]; omega⟩
              unfold Hid
              rw [Hq.out, hl4.out, hl6.out, hl2.out, hl'.out]; simp [encV]
        · have hk0 : kc = 0 := by
            simp only [validB, h1, h2, if_false] at hvc
            by_cases h0 : kc = 0
            · exact h0
            · simp [h0] at hvc
          subst hk0
          clear hvc h1 h2
          go_wp2_with fail
          refine (rclean_is _ Hok.out.2.2 Hcl.out).mono ?_
          rintro e w1 ⟨rfl, hb1⟩
          have hown1 := ownsB_below hown hb1
          have hs1 := hb1.size
          clear c1 c2 c3
          have hown2 := ownsB_below hown1 ((Below.refl _ _).alloc (Nat.le_refl _) (.cells #[.int .i64 0, .int .i64 nc, .string sc] 27))
          have hB2 : w.heap.size ≤ (w1.alloc (.cells #[.int .i64 0, .int .i64 nc, .string sc] 27)).heap.size := by simp; omega
          go_wp2_with (at_builtin; refine wpList_app Tryd.underlying68 infoU8 _ (w1.alloc (.cells #[.int .i64 0, .int .i64 nc, .string sc] 27)) rfl (.tmp 21) (.tmp 22) rfl w.heap.size vr l' rfl hown2 [1] 1 1 _ (by simp; rfl) rfl rfl rfl rfl rfl rfl (by decide) (by omega) hB2 ?_; intro l2 g2 cap2 w2 hl2 hown3 haw2 hb2 hat2 hlt2)
          refine ⟨⟨k + 1, l2, _, by omega, by go_num, rfl, ?_, hown3, ((hb.trans (hb1.mono hsz)).alloc (by omega) _).trans hb2⟩, by simp [intOf]; omega⟩
          unfold Hid
          rw [Hq.out, hl2.out, hl'.out]; simp [encV]
    · obtain rfl : k = l.length := by omega
      have htk : l.take l.length = l := List.take_of_length_le (Nat.le_refl _)
      have hl4 := hl'.out
      rw [htk] at hl4
      clear hl'
      subst hl4
      go_wp2_with (refine wpList_b2s Tryd.underlying9 Tryd.underlying68 Tryd.underlying5 _ rfl (.tmp 76) rfl _ vr _ rfl hown ?_)
      go_ret
      exact ⟨rfl, hb⟩
end Go.Proofs.YtkdjbgjcccnijaaDoor
