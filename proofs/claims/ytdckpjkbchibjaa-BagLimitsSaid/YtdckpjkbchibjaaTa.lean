/- The tape of numbers from which the laws build their arguments: what it is in memory; contracts of New and Next. -/
import Derived.Test.YtdckpjkbchibjaaVf
namespace Go.Proofs.Ytdckpjkbchibjaa
open Go.RowKit Go.Proofs.EB
set_option maxHeartbeats 1000000
attribute [local go_sem] World.cell?_alloc_some

/-- In the world w block g (below B) is a tape: its list of numbers lies below B too, in another block. -/
def TapeAt (w : World) (B g : Nat) : Prop :=
  ∃ (ao : Option Addr) (len cap pos : Nat), w.cell? ⟨g, 0, none⟩ = some (.slice ao len cap) ∧ w.cell? ⟨g, 1, none⟩ = some (.int .i64 pos) ∧ w.frozen? ⟨g, 1, none⟩ = false ∧ g < B ∧ len ≤ 17592186044416 ∧ pos ≤ 4 * len ∧
    (len = 0 ∨ ∃ b, ao = some ⟨b, 0, none⟩ ∧ b ≠ g ∧ b < B ∧ ∀ i, i < len → ∃ x : Int, w.cell? ⟨b, i, none⟩ = some (.int .i64 x) ∧ -9223372036854775808 ≤ x ∧ x ≤ 9223372036854775807)
theorem TapeAt.away {w w' : World} {B g : Nat} {r : Option Nat} (h : TapeAt w B g) (ha : Away r w w') (hr : ∀ k, r = some k → B ≤ k) (hB : B ≤ w.heap.size) : TapeAt w' B g := by
  obtain ⟨ao, len, cap, pos, c0, c1, f1, hg, hl, hp, hz⟩ := h
  have hne : ∀ k, k < B → some k ≠ r := fun k hk e => by have := hr k e.symm; omega
  refine ⟨ao, len, cap, pos, (ha.cell (a := ⟨g, 0, none⟩) (show g < w.heap.size by omega) (hne g hg)).trans c0, (ha.cell (a := ⟨g, 1, none⟩) (show g < w.heap.size by omega) (hne g hg)).trans c1, (ha.frozen (a := ⟨g, 1, none⟩) (show g < w.heap.size by omega) (hne g hg)).trans f1, hg, hl, hp, ?_⟩
  rcases hz with hz | ⟨b, e, hb, hbB, hc⟩
  · exact .inl hz
  · refine .inr ⟨b, e, hb, hbB, fun i hi => ?_⟩
    obtain ⟨x, h1, h2⟩ := hc i hi
    exact ⟨x, (ha.cell (a := ⟨b, i, none⟩) (show b < w.heap.size by omega) (hne b hbB)).trans h1, h2⟩
theorem TapeAt.below {w w' : World} {B g : Nat} (h : TapeAt w B g) (hb : Below w.heap.size w w') (hB : B ≤ w.heap.size) : TapeAt w' B g := h.away (r := none) ⟨hb.os, hb.tape, hb.output, hb.size, fun k hk _ => hb.block k hk⟩ (by simp) hB
theorem TapeAt.mono {w : World} {B B' g : Nat} (h : TapeAt w B g) (hB : B ≤ B') : TapeAt w B' g := by
  obtain ⟨ao, len, cap, pos, c0, c1, f1, hg, hl, hp, hz⟩ := h
  refine ⟨ao, len, cap, pos, c0, c1, f1, by omega, hl, hp, ?_⟩
  rcases hz with hz | ⟨b, e, hb, hbB, hc⟩
  · exact .inl hz
  · exact .inr ⟨b, e, hb, by omega, hc⟩

theorem away_refl (r : Option Nat) (w : World) : Away r w w := ⟨rfl, rfl, rfl, Nat.le_refl _, fun _ _ _ => rfl⟩
theorem away_trans {r : Option Nat} {a b c : World} (h : Away r a b) (k : Away r b c) : Away r a c :=
  ⟨k.os.trans h.os, k.tape.trans h.tape, k.output.trans h.output, Nat.le_trans h.size k.size, fun i hi hne => (k.block i (Nat.lt_of_lt_of_le hi h.size) hne).trans (h.block i hi hne)⟩
theorem away_drewN (r : Option Nat) (w : World) (n : Nat) : Away r w (w.drewN n) := ⟨rfl, rfl, rfl, Nat.le_refl _, fun _ _ _ => rfl⟩
theorem away_setCell (w : World) (a : Addr) (v : Value) : Away (some a.block) w (w.setCell a v) :=
  ⟨rfl, rfl, rfl, by simp [World.setCell], fun k _ hne => Below.heap_setCell _ _ _ _ (by simpa using hne)⟩
theorem away_alloc (r : Option Nat) (w : World) (o : Obj) : Away r w (w.alloc o) := ⟨rfl, rfl, rfl, by simp, fun k hk _ => Below.heap_alloc _ _ _ hk⟩
theorem away_weak {r : Option Nat} {w w' : World} (h : Below w.heap.size w w') : Away r w w' := ⟨h.os, h.tape, h.output, h.size, fun k hk _ => h.block k hk⟩

/-- What a call that takes numbers from the tape leaves of it and of the old memory. -/
def Took (w : World) (B g : Nat) (w' : World) : Prop := TapeAt w' B g ∧ Away (some g) w w' ∧ B ≤ w'.heap.size
def NextPost (w : World) (B g : Nat) (n : Int) (e : Ending) (w' : World) : Prop := ∃ r : Int, e = .returned (.int .i64 r) ∧ 0 ≤ r ∧ (r < n ∨ r = 0) ∧ Took w B g w'
theorem next_zero {w : World} {B g : Nat} {n : Int} (h : TapeAt w B g) (hB : B ≤ w.heap.size) (k : Nat) : NextPost w B g n (.returned (.int .i64 0)) (w.drewN k) :=
  ⟨0, rfl, by omega, .inr rfl, h.away (away_drewN none w k) (by simp) hB, away_drewN _ _ _, hB⟩

theorem tape_rem (X n : Int) (h2 : 2 ≤ n) (hn : n ≤ 1000000000000) : 0 ≤ (wrap64 (X.tmod n + n)).tmod n ∧ (wrap64 (X.tmod n + n)).tmod n < n := by
  have h1 : X.tmod n < n := Int.tmod_lt_of_pos X (by omega)
  have h3 : (-X).tmod n < n := Int.tmod_lt_of_pos (-X) (by omega)
  rw [Int.neg_tmod] at h3
  rw [IntWalk.wrap64_in _ ⟨by omega, by omega⟩]
  exact ⟨Int.tmod_nonneg _ (by omega), Int.tmod_lt_of_pos _ (by omega)⟩
theorem next_end {w : World} {B g b len cap pos : Nat} {n X : Int} (h2 : 2 ≤ n) (hn : n ≤ 1000000000000) (hB : B ≤ w.heap.size) (c0 : w.cell? ⟨g, 0, none⟩ = some (.slice (some ⟨b, 0, none⟩) len cap)) (c1 : w.cell? ⟨g, 1, none⟩ = some (.int .i64 pos)) (f1 : w.frozen? ⟨g, 1, none⟩ = false)
    (hg : g < B) (hl : len ≤ 17592186044416) (hp : pos < 4 * len) (hbg : b ≠ g) (hbB : b < B) (hc : ∀ i, i < len → ∃ x : Int, w.cell? ⟨b, i, none⟩ = some (.int .i64 x) ∧ -9223372036854775808 ≤ x ∧ x ≤ 9223372036854775807) (k : Nat) :
    NextPost w B g n (.returned (.int .i64 ((wrap64 (X.tmod n + n)).tmod n))) ((w.drewN k).setCell ⟨g, 1, none⟩ (.int .i64 ((pos : Int) + 1))) := by
  have hr := tape_rem X n h2 hn
  have d1 : (w.drewN k).cell? ⟨g, 1, none⟩ = some (.int .i64 pos) := c1
  have hA : Away (some g) w ((w.drewN k).setCell ⟨g, 1, none⟩ (.int .i64 ((pos : Int) + 1))) := away_trans (away_drewN _ w k) (away_setCell _ ⟨g, 1, none⟩ _)
  refine ⟨_, rfl, hr.1, .inl hr.2, ⟨some ⟨b, 0, none⟩, len, cap, pos + 1, ?_, ?_, ?_, hg, hl, by omega, .inr ⟨b, rfl, hbg, hbB, fun i hi => ?_⟩⟩, hA, by have := hA.size; omega⟩
  · rw [World.cell?_setCell_other _ _ _ _ (by simp)]
    exact c0
  · rw [World.cell?_setCell_same _ _ _ d1]; simp
  · rw [World.frozen?_setCell]; exact f1
  · obtain ⟨x, h1, h3⟩ := hc i hi
    exact ⟨x, (hA.cell (a := ⟨b, i, none⟩) (World.block_lt_of_cell? w _ h1) (by simpa using hbg)).trans h1, h3⟩
theorem next_any (B g : Nat) (n : Int) (w : World) (hn : n ≤ 1000000000000) (hn0 : -1000000000000 ≤ n) (h : TapeAt w B g) (hB : B ≤ w.heap.size) :
    Calls Try.prog 15 #[.pointer (some ⟨g, 0, none⟩), .int .i64 n] w (NextPost w B g n) := by
  have hT := Lib.hid h
  obtain ⟨ao, len, cap, pos, c0, c1, f1, hg, hl, hp, hz⟩ := h
  by_cases h2 : n < 2
  · go_enter Try.func15, Try.ntmps15
    go_wp2_with fail
    go_quiet (fail)
    go_wp2_with fail
    go_ret
    exact next_zero hT.out hB _
  · by_cases h3 : len = 0
    · subst h3
      have hd : decide (n < 2) = false := by simpa using h2
      go_enter Try.func15, Try.ntmps15
      go_wp2_with fail
      go_quiet (fail)
      go_wp2_with fail
      go_ret
      exact next_zero hT.out hB _
    · have hd : decide (n < 2) = false := by simpa using h2
      have hd2 : ((len : Int) == 0) = false := by simpa using h3
      by_cases h4 : pos < 4 * len
      · rcases hz with hz | ⟨b, rfl, hbg, hbB, hc⟩
        · exact absurd hz h3
        obtain ⟨x, c2, hx1, hx2⟩ := hc (pos % len) (Nat.mod_lt _ (by omega))
        have hd3 : decide (4 * (len : Int) ≤ (pos : Int)) = false := by simp; omega
        have q0 : (0 : Int) ≤ (pos : Int) % (len : Int) := Int.emod_nonneg _ (by omega)
        have q1 : (pos : Int) % (len : Int) < (len : Int) := Int.emod_lt_of_pos _ (by omega)
        have q2 : ((pos : Int) % (len : Int)).toNat = pos % len := by rw [← Int.natCast_emod]; rfl
        have q3 : (0 : Int) ≤ (pos : Int) / (len : Int) := Int.ediv_nonneg (by omega) (by omega)
        have q4 : (pos : Int) / (len : Int) < 4 := Int.ediv_lt_of_lt_mul (by omega) (by omega)
        have q5 : (len : Int) ≠ 0 := by omega
        have q6 : (1 : Int) ≤ (len : Int) := by omega
        have q7 : (0 : Int) ≤ (pos : Int) := by omega
        have Hc := Lib.hid hc
        clear hc
        go_enter Try.func15, Try.ntmps15
        go_wp2_with fail
        go_quiet (fail)
        go_wp2_with fail
        go_quiet (fail)
        go_wp2_with fail
        go_quiet (fail)
        go_wp2_with fail
        all_goals
          go_ret
          exact next_end (by omega) hn hB c0 c1 f1 hg hl h4 hbg hbB Hc.out _
      · have hd3 : decide (4 * (len : Int) ≤ (pos : Int)) = true := by simp; omega
        go_enter Try.func15, Try.ntmps15
        go_wp2_with fail
        go_quiet (fail)
        go_wp2_with fail
        go_ret
        exact next_zero hT.out hB _

theorem own_form {w : World} {base : Nat} {e : TypeId} {size : Nat} {v : Value} {n : Nat} {xs : List Value} (h : w.ownsRow base e size v n xs) (hne : v ≠ .slice none 0 0) : ∃ g cap, v = .slice (some ⟨g, 0, none⟩) n cap ∧ base ≤ g ∧ g < w.heap.size := by
  rcases h.2 with ⟨h0, _⟩ | ⟨g, cap, cur, rfl, hb, hg, _⟩
  · exact absurd h0 hne
  · exact ⟨g, cap, rfl, hb, (Array.getElem?_eq_some_iff.1 hg).1⟩
/-- New: the tape holds a copy of the numbers. -/
def NewPost (w : World) (e : Ending) (w' : World) : Prop := ∃ g, e = .returned (.pointer (some ⟨g, 0, none⟩)) ∧ w.heap.size ≤ g ∧ TapeAt w' w'.heap.size g ∧ Below w.heap.size w w'
theorem infoInt : (Try.prog.info? 3).map (fun i => (i.zero, i.size, i.bytes)) = some (some (.int .i64 0), 1, 8) := by kernel_rfl
theorem new_any (ao : Option Addr) (len cap : Nat) (zs : List Int) (w : World) (h : IntsAt w ao len cap zs) :
    Calls Try.prog 10 #[.slice ao len cap] w (NewPost w) := by
  obtain ⟨i0, hi, hz0, hz1, hz2⟩ := info_parts infoInt
  have hown0 : (w.alloc (.cells #[] 3)).ownsRow w.heap.size 3 1 (.slice (some ⟨w.heap.size, 0, none⟩) 0 0) 0 [] := World.ownsRow_made w #[] 0 (Nat.le_refl _) (by decide) rfl
  rcases h with ⟨rfl, rfl, rfl, rfl⟩ | ⟨x, rfl, hl, hcap, hz, hc, hw⟩
  · go_enter Try.func10, Try.ntmps10
    go_wp2_with fail
    go_ret
    refine ⟨w.heap.size + 1, rfl, by omega, ⟨some ⟨w.heap.size, 0, none⟩, 0, 0, 0, by simp, by simp, by simp, by simp, by omega, by omega, .inl rfl⟩, ?_⟩
    exact ((Below.refl _ _).alloc (Nat.le_refl _) _).alloc (by simp) _
  · have hA0 := away_alloc none w (.cells #[] 3)
    have hnews : ∀ j u, ((zs.take len).map (Value.int .i64))[j]? = some u → (w.alloc (.cells #[] 3)).cell? (x.add j) = some u := by
      intro j u hj
      obtain ⟨hjl, hju⟩ := List.getElem?_eq_some_iff.1 hj
      simp only [List.length_map, List.length_take] at hjl
      have hcj := hc j (by omega)
      have e1 : u = .int .i64 (zs.getD j 0) := by
        rw [← hju]
        simp [List.getD_eq_getElem?_getD, List.getElem?_eq_getElem (show j < zs.length by omega)]
      rw [hA0.cell (World.block_lt_of_cell? w _ hcj) (by simp), hcj, e1]
    have hnl : ((zs.take len).map (Value.int .i64)).length = len * 1 := by simp; omega
    have hone : ∀ u ∈ (zs.take len).map (Value.int .i64), u.oneCell' = true := by
      intro u hu
      simp only [List.mem_map] at hu
      obtain ⟨y, _, rfl⟩ := hu
      rfl
    have Hw := Lib.hid hw
    have hb8 : (0 + len) * 8 ≤ 140737488355328 := by omega
    have h63 : 0 + len ≤ maxLen := by unfold maxLen; omega
    clear hc hw
    go_enter Try.func10, Try.ntmps10
    go_wp2_with (at_builtin; refine wpList_append_own_at (w := (w.alloc (.cells #[] 3))) rfl (.tmp 3) (.tmp 4) 22 rfl w.heap.size 3 i0 _ 1 8 Try.underlying22 hi hz0 hz1 hz2 rfl (by decide) (.slice (some ⟨w.heap.size, 0, none⟩) 0 0) 0 [] rfl hown0 x len cap ((zs.take len).map (Value.int .i64)) rfl hnl hnews hone h63 hb8 (by simp) ?_; intro v2 w2 hown2 hgr2 hnil2 hat2; obtain ⟨g2, cp2, rfl, hbg2, hlt2⟩ := own_form hown2 (by simp [hnil2]))
    go_ret
    have hA2 : Away (some w.heap.size) (w.alloc (.cells #[] 3)) w2 := ⟨hgr2.os, hgr2.tape, hgr2.output, hgr2.size, hgr2.block⟩
    have hB2 : Below w.heap.size w w2 := ((Below.refl _ _).alloc (Nat.le_refl _) _).trans (hA2.below (by simp) (by simp))
    have hs2 := hB2.size
    refine ⟨w2.heap.size, rfl, hs2, ⟨some ⟨g2, 0, none⟩, len, cp2, 0, by simp, by simp, by simp, by simp, by omega, by omega, ?_⟩, hB2.alloc hs2 _⟩
    by_cases hz0' : len = 0
    · exact .inl hz0'
    · refine .inr ⟨g2, rfl, by omega, by simp; omega, fun i hi => ?_⟩
      have hgi : ((zs.take len).map (Value.int .i64))[i]? = some (.int .i64 (zs.getD i 0)) := by
        simp [hi, List.getD_eq_getElem?_getD, List.getElem?_eq_getElem (show i < zs.length by omega)]
      have h1 := hown2.cells (g := g2) rfl i _ (by simpa using hgi)
      rw [Go.WideShapes.add_plain] at h1
      simp only [Nat.zero_add] at h1
      refine ⟨zs.getD i 0, ?_, ?_⟩
      · rw [World.cell?_alloc_lt _ _ _ (World.block_lt_of_cell? w2 _ h1)]
        exact h1
      · have hm : zs.getD i 0 ∈ zs := by
          rw [List.getD_eq_getElem?_getD, List.getElem?_eq_getElem (show i < zs.length by omega)]
          exact List.getElem_mem _
        have := Hw.out _ hm
        clear hgi h1 hm
        generalize zs.getD i 0 = y at *
        simp [Lit.wf, IntKind.min, IntKind.max, IntKind.signed, IntKind.bits] at this
        omega
end Go.Proofs.Ytdckpjkbchibjaa
