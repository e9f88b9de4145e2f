/- The tape's parts for bags: Bag. -/
import Derived.Test.YtdckpjkbchibjaaBj
namespace Go.Proofs.Ytdckpjkbchibjaa
open Go.RowKit Go.Proofs.EB
set_option maxHeartbeats 8000000
set_option maxRecDepth 100000
attribute [local go_sem] World.cell?_alloc_some

theorem cells_setN : ∀ (l : List Be) (i : Nat) (h : i < l.length) (n : Int), (cellsL encBe l).set (i * 2 + 1) (.int .i64 n) = cellsL encBe (l.set i ⟨l[i].r, n⟩)
  | x :: l, 0, _, n => by simp [cellsL, encBe]
  | x :: l, i + 1, h, n => by
    have ih := cells_setN l i (by simpa using h) n
    have e : ∀ (y : Be) (m : List Be), cellsL encBe (y :: m) = .slice y.r.ao y.r.l.length y.r.cap :: .int .i64 y.n :: cellsL encBe m := fun _ _ => rfl
    rw [e, show (i + 1) * 2 + 1 = (i * 2 + 1) + 2 by omega, List.set_cons_succ, List.set_cons_succ, ih, List.set_cons_succ, e]
    rfl
theorem cells_setR : ∀ (l : List Be) (i : Nat) (h : i < l.length) (r : SL V), (cellsL encBe l).set (i * 2) (.slice r.ao r.l.length r.cap) = cellsL encBe (l.set i ⟨r, l[i].n⟩)
  | x :: l, 0, _, n => by simp [cellsL, encBe]
  | x :: l, i + 1, h, n => by
    have ih := cells_setR l i (by simpa using h) n
    have e : ∀ (y : Be) (m : List Be), cellsL encBe (y :: m) = .slice y.r.ao y.r.l.length y.r.cap :: .int .i64 y.n :: cellsL encBe m := fun _ _ => rfl
    rw [e, show (i + 1) * 2 = (i * 2) + 2 by omega, List.set_cons_succ, List.set_cons_succ, ih, List.set_cons_succ, e]
    rfl
section
variable {w : World} {B g cap : Nat} {l : List Be} {T : TypeId}
theorem own_setN (h : OwnsR encBe 2 w B T (.slice (some ⟨g, 0, none⟩) l.length cap) l) {i : Nat} (hi : i < l.length) (n : Int) :
    OwnsR encBe 2 (w.setCell ⟨g, i * 2 + 1, none⟩ (.int .i64 n)) B T (.slice (some ⟨g, 0, none⟩) (l.set i ⟨l[i].r, n⟩).length cap) (l.set i ⟨l[i].r, n⟩) := by
  have h1 := (World.ownsRow.stored h (i * 2 + 1) (.int .i64 n)).1
  rw [cells_setN l i hi n] at h1
  unfold OwnsR
  rw [List.length_set]
  exact h1
theorem own_setR (h : OwnsR encBe 2 w B T (.slice (some ⟨g, 0, none⟩) l.length cap) l) {i : Nat} (hi : i < l.length) (r : SL V) :
    OwnsR encBe 2 (w.setCell ⟨g, i * 2, none⟩ (.slice r.ao r.l.length r.cap)) B T (.slice (some ⟨g, 0, none⟩) (l.set i ⟨r, l[i].n⟩).length cap) (l.set i ⟨r, l[i].n⟩) := by
  have h1 := (World.ownsRow.stored h (i * 2) (.slice r.ao r.l.length r.cap)).1
  rw [cells_setR l i hi r] at h1
  unfold OwnsR
  rw [List.length_set]
  exact h1
theorem own_cells (h : OwnsR encBe 2 w B T (.slice (some ⟨g, 0, none⟩) l.length cap) l) {i : Nat} (hi : i < l.length) :
    w.cell? ⟨g, i * 2, none⟩ = some (.slice l[i].r.ao l[i].r.l.length l[i].r.cap) ∧ w.cell? ⟨g, i * 2 + 1, none⟩ = some (.int .i64 l[i].n) ∧ w.frozen? ⟨g, i * 2, none⟩ = false ∧ w.frozen? ⟨g, i * 2 + 1, none⟩ = false := by
  have a0 := cellsL_at encBe_len l i hi 0 _ (rfl : (encBe l[i])[0]? = some (.slice l[i].r.ao l[i].r.l.length l[i].r.cap))
  have a1 := cellsL_at encBe_len l i hi 1 _ (rfl : (encBe l[i])[1]? = some (.int .i64 l[i].n))
  exact ⟨(World.ownsRow.cellAt h (i * 2) (by omega)).trans a0, (World.ownsRow.cellAt h (i * 2 + 1) (by omega)).trans a1, World.ownsRow.frozenAt h _, World.ownsRow.frozenAt h _⟩
theorem own_slice {v : Value} (h : OwnsR encBe 2 w B T v l) : ∃ ao cap, v = .slice ao l.length cap ∧ (0 < l.length → ∃ g, ao = some ⟨g, 0, none⟩) ∧ (ao = none → cap = 0) ∧ l.length ≤ cap ∧ l.length ≤ maxLen := by
  rcases h.2 with ⟨rfl, h0⟩ | ⟨g, c, cur, rfl, _, _, hn, hm, _⟩
  · have : l = [] := List.eq_nil_of_length_eq_zero h0
    subst this
    exact ⟨none, 0, rfl, fun h => by simp at h, fun _ => rfl, Nat.le_refl _, by simp⟩
  · exact ⟨_, _, rfl, fun _ => ⟨g, rfl⟩, fun h => by simp at h, hn, Nat.le_trans hn hm⟩
end
/-- Entries of the tape as a bag's list in memory. -/
theorem ents_bag {w : World} {base width : Nat} {M : Int} {ao : Option Addr} {cap : Nat} {l : List Be} (hM : M ≤ 1000000) (hown : OwnsR encBe 2 w base 34 (.slice ao l.length cap) l) (h : ∀ x ∈ l, EntOk w base width M (.slice ao l.length cap) x) : BagS w w.heap.size ⟨ao, cap, l⟩ := by
  obtain ⟨ao', cap', e, hr, _, hn, hc, hm⟩ := OwnsR.rAt encBe_len hown
  simp only [Value.slice.injEq] at e
  obtain ⟨rfl, _, rfl⟩ := e
  exact ⟨hr, hn, hc, Nat.le_trans hc hm, fun x hx => ⟨(h x hx).1, by have := (h x hx).2.2.2.1; unfold n64; omega⟩⟩
theorem ents_all {w : World} {base width : Nat} {M : Int} {v : Value} {l : List Be} (hw : width ≤ 16) (hM : M ≤ 262144) (h : ∀ x ∈ l, EntOk w base width M v x) : (ens l).all enB = true ∧ Cap M (ens l) := by
  constructor
  · rw [List.all_eq_true]
    intro e he
    unfold ens at he
    obtain ⟨x, hx, rfl⟩ := List.mem_map.1 he
    obtain ⟨_, h2, h3, h4, _⟩ := h x hx
    unfold enB Be.en rowB
    rw [Bool.and_eq_true, Bool.and_eq_true, mulB_iff, decide_eq_true_iff, List.all_eq_true]
    exact ⟨⟨by dsimp only; omega, h2⟩, by dsimp only; omega⟩
  · exact cap_ens.2 fun x hx => (h x hx).2.2.2.1
theorem bagOf_pos : ∀ {l : List En}, (∀ e ∈ l, 0 ≤ e.2) → ∀ e ∈ bagOf l, 0 < e.2
  | [], _ => fun e h => by simp [bagOf] at h
  | e :: l, h => by
    have h1 : ∀ x ∈ oneE e, 0 < x.2 := fun x hx => by
      unfold oneE at hx
      split at hx
      · simp at hx
      · rw [List.mem_singleton] at hx; subst hx; have := h x (by simp); omega
    have h2 := bagOf_pos (l := l) fun x hx => h x (by simp [hx])
    rw [bagOf]
    refine merge_ind (M := fun a b c => (∀ e ∈ a, 0 < e.2) → (∀ e ∈ b, 0 < e.2) → ∀ e ∈ c, 0 < e.2) ?_ ?_ ?_ ?_ ?_ ?_ _ (oneE e) (bagOf l) (Nat.le_refl _) h1 h2
    · intro b _ h; exact h
    · intro x a h _; exact h
    · intro x a y b _ ih ha hb e he
      rcases List.mem_cons.1 he with rfl | he
      · exact ha e (by simp)
      · exact ih (fun e h => ha e (by simp [h])) hb e he
    · intro x a y b _ ih ha hb e he
      rcases List.mem_cons.1 he with rfl | he
      · exact hb e (by simp)
      · exact ih ha (fun e h => hb e (by simp [h])) e he
    · intro x a y b _ _ ih ha hb
      exact ih (fun e h => ha e (by simp [h])) (fun e h => hb e (by simp [h]))
    · intro x a y b _ z ih ha hb e he
      rcases List.mem_cons.1 he with rfl | he
      · have h1 := ha x (by simp)
        have h2 := hb y (by simp)
        dsimp only; omega
      · exact ih (fun e h => ha e (by simp [h])) (fun e h => hb e (by simp [h])) e he
/-- A list and its rows lie behind base. -/
def Behind (base : Nat) (s : SL Be) : Prop := (∀ b o, s.ao = some ⟨b, o, none⟩ → base ≤ b) ∧ ∀ x ∈ s.l, ∀ b o, x.r.ao = some ⟨b, o, none⟩ → base ≤ b
/-- What is known of a bag of the tape. -/
structure BagOk (width n : Nat) (signed : Bool) (l : List Be) : Prop where
  len : l.length ≤ n
  bag : bagB (ens l) = true
  cap : Cap (3 * n) (ens l)
  pos : signed = false → ∀ e ∈ ens l, 0 < e.2
  width : ∀ x ∈ l, x.r.l.length = width
def BagPost (w : World) (B g width n : Nat) (signed : Bool) (e : Ending) (w' : World) : Prop := ∃ ao cap l, e = .returned (.slice ao l.length cap) ∧ Hid (BagOk width n signed l) ∧ Hid (BagS w' w'.heap.size ⟨ao, cap, l⟩) ∧ Took w B g w' ∧ Hid (Behind w.heap.size ⟨ao, cap, l⟩)
theorem bag_of_ents {width n : Nat} {signed : Bool} {base : Nat} {w1 : World} {v : Value} {lo l2 : List Be} {n2 : Int} (hw : width ≤ 16) (hn : n ≤ 1000) (hl : lo.length ≤ n) (hE : ∀ x ∈ lo, EntOk w1 base width 3 v x) (hp : signed = false → ∀ x ∈ lo, 0 ≤ x.n)
    (h : ens l2 = (normR (ens lo)).1 ∧ n2 = (normR (ens lo)).2) (hW : ∀ x ∈ l2, x.r.l.length = width) : BagOk width n signed l2 := by
  obtain ⟨ha, hc⟩ := ents_all hw (by decide) hE
  have hcb := bagOf_cap (by decide) hc
  have hlb := bagOf_len (ens lo)
  rw [ens_len] at hlb hcb
  have hcn : Cap (3 * n) (bagOf (ens lo)) := cap_mono hcb (by omega)
  have hcm : Cap 262144 (bagOf (ens lo)) := cap_mono hcb (by omega)
  have hr : normR (ens lo) = (bagOf (ens lo), 0) := by
    unfold normR
    rw [if_pos ha]
    exact fits_ok (by omega) hcm
  rw [hr] at h
  have h1 : ens l2 = bagOf (ens lo) := h.1
  have hvr := enB_vr ha
  have hrow : ∀ e ∈ bagOf (ens lo), rowB e.1 = true := bagOf_rows (p := fun r => rowB r = true) fun e he => by
    have := List.all_eq_true.1 ha e he
    unfold enB at this
    rw [Bool.and_eq_true] at this
    exact this.1
  refine ⟨?_, ?_, by rw [h1]; exact hcn, fun hs => ?_, hW⟩
  · have := congrArg List.length h1
    rw [ens_len] at this
    omega
  · rw [h1]
    refine is_bagB (bagOf_is hvr) ?_ (by omega)
    rw [List.all_eq_true]
    intro e he
    unfold enB
    rw [hrow e he, (mulB_iff _).2 (hcm e he)]; rfl
  · rw [h1]
    refine bagOf_pos fun e he => ?_
    unfold ens at he
    obtain ⟨x, hx, rfl⟩ := List.mem_map.1 he
    exact hp hs x hx
theorem tbag_true (B g width n : Nat) (w : World) (hw : width ≤ 16) (hn : n ≤ 1000) (h : TapeAt w B g) (hB : B ≤ w.heap.size) :
    Calls Try.prog 12 #[.pointer (some ⟨g, 0, none⟩), .int .i64 width, .int .i64 n, .bool true] w (BagPost w B g width n true) := by
  have hT := Lib.hid h
  clear h
  go_enter Try.func12, Try.ntmps12
  go_wp2_with fail
  refine (entries_any B g width n w hw hn hT.out hB).mono ?_
  rintro e w1 ⟨v, lo, rfl, hln, hown, hTk, hE⟩
  obtain ⟨ao, cap, rfl, hao, hnil, hcap, hmx⟩ := own_slice hown
  have hS := Lib.hid (ents_bag (by decide) hown hE.out)
  have HTk := Lib.hid hTk
  have hl6 : lo.length ≤ 1000000 := by omega
  have hsz := hTk.2.1.size
  clear hao hnil hcap hmx hTk
  go_wp2_with fail
  go_loop [10] (fun i => ∃ k : Nat, k ≤ lo.length ∧ i = .int .i64 k) (fun i => lo.length - (intOf i).toNat)
  case atStart => exact ⟨0, Nat.zero_le _, rfl⟩
  case round =>
    obtain ⟨i, hi, rfl⟩ := hrel
    by_cases hlt : i < lo.length
    · have q0 : (i : Int) < (lo.length : Int) := by omega
      go_wp2_with fail
      go_round
      case rel => exact ⟨i + 1, by omega, by go_num⟩
      case measure => simp [intOf]; omega
    · go_wp2_with fail
      refine (rbNormalize_any (fun r => (∀ b o, r.ao = some ⟨b, o, none⟩ → w.heap.size ≤ b) ∧ r.l.length = width) _ _ lo w1 hl6 (fun x hx => ⟨fun b o e => ((hE.out x hx).2.2.2.2 b o e).1, (hE.out x hx).2.2.1⟩) hS.out).mono ?_
      rintro e w2 ⟨ao2, cap2, l2, n2, rfl, hl2, hB2, hb2, hf2⟩
      have HB2 := Lib.hid hB2
      clear hB2
      go_wp2_with fail
      go_ret
      exact ⟨ao2, cap2, l2, rfl, bag_of_ents hw hn hln hE.out (fun h => by simp at h) hl2.out (fun x hx => (hf2.out.1 x hx).2), HB2.out, HTk.out.below hb2, fun b o e => Nat.le_trans hsz (hf2.out.2 b o e), fun x hx b o e => (hf2.out.1 x hx).1 b o e⟩
theorem tbag_false (B g width n : Nat) (w : World) (hw : width ≤ 16) (hn : n ≤ 1000) (h : TapeAt w B g) (hB : B ≤ w.heap.size) :
    Calls Try.prog 12 #[.pointer (some ⟨g, 0, none⟩), .int .i64 width, .int .i64 n, .bool false] w (BagPost w B g width n false) := by
  have hgB : g < B := by obtain ⟨_, _, _, _, _, _, _, hg, _⟩ := h; exact hg
  have hT := Lib.hid h
  clear h
  go_enter Try.func12, Try.ntmps12
  go_wp2_with fail
  refine (entries_any B g width n w hw hn hT.out hB).mono ?_
  rintro e w1 ⟨v, lo0, rfl, hln, hown, hTk, hE⟩
  obtain ⟨ao, cap, rfl, hao, hnil, hcap, hmx⟩ := own_slice hown
  obtain ⟨N, hN⟩ : ∃ N, N = lo0.length := ⟨_, rfl⟩
  rw [← hN] at hown hE hln hao hcap ⊢
  have HN := Lib.hid hN
  have HTk := Lib.hid hTk
  have hl6 : N ≤ 1000 := by omega
  clear hnil hcap hmx hTk hN
  go_wp2_with fail
  go_loopw [10] (fun i wr => ∃ (k : Nat) (lo : List Be), k ≤ N ∧ i = .int .i64 k ∧ Hid (lo.length = N ∧ OwnsR encBe 2 wr w.heap.size 34 (.slice ao N cap) lo ∧ Took w B g wr ∧ (∀ x ∈ lo, EntOk wr w.heap.size width 3 (.slice ao N cap) x) ∧ ∀ j (h : j < lo.length), j < k → 0 ≤ lo[j].n)) (fun i _ => N - (intOf i).toNat)
  case atStart => exact ⟨0, lo0, Nat.zero_le _, rfl, HN.out.symm, hown, HTk.out, hE.out, fun j _ h => absurd h (by omega)⟩
  case round =>
    obtain ⟨i, lo, hi, rfl, hP⟩ := hrel
    by_cases hlt : i < N
    · obtain ⟨g0, rfl⟩ := hao (by omega)
      have q0 : (i : Int) < (N : Int) := by omega
      have q1 : (0 : Int) ≤ (i : Int) := by omega
      obtain ⟨p1, p2, p3, p4, p5⟩ := hP.out
      have hil : i < lo.length := by omega
      rw [← p1] at p2
      obtain ⟨c0, c1, f0, f1⟩ := own_cells p2 hil
      have hx3 := (p4 _ (List.getElem_mem hil)).2.2.2.1
      have P2 := Lib.hid p2
      have P4 := Lib.hid p4
      have P5 := Lib.hid p5
      have P3 := Lib.hid p3
      have P1 := Lib.hid p1
      have hg0 := Lib.hid (p2.lt g0 rfl)
      clear p1 p2 p3 p4 p5 hP
      obtain ⟨n0, hn0⟩ : ∃ n0, lo[i].n = n0 := ⟨_, rfl⟩
      rw [hn0] at hx3 c1
      have Hn0 := Lib.hid hn0
      clear hn0
      have hbb := World.block_lt_of_cell? wr _ c1
      dsimp only at hbb
      by_cases hneg : n0 < 0
      · have e1 : IntKind.i64.wrap (-n0) = -n0 := IntWalk.i64_in _ (by omega)
        go_wp2_with fail
        go_roundw
        case rel =>
          refine ⟨i + 1, lo.set i ⟨lo[i].r, -n0⟩, by omega, by go_num, by rw [List.length_set]; exact P1.out, ?_, ?_, ?_, ?_⟩
          · have := own_setN P2.out hil (-n0)
            rw [List.length_set, P1.out] at this
            exact this
          · exact P3.out.setCell (p := ⟨g0, i * 2 + 1, none⟩) (by have := hg0.out; show B ≤ g0; omega) (by have := hg0.out; show w.heap.size ≤ g0; omega) _
          · have hA := away_setCell wr ⟨g0, i * 2 + 1, none⟩ (.int .i64 (-n0))
            intro x hx
            rcases List.mem_or_eq_of_mem_set hx with hx | rfl
            · exact (P4.out x hx).away hA (fun b hb => .inr (by simp at hb; subst hb; rfl))
            · obtain ⟨k1, k2, k3, k4, k5⟩ := (P4.out _ (List.getElem_mem hil)).away hA (fun b hb => .inr (by simp at hb; subst hb; rfl))
              exact ⟨k1, k2, k3, by dsimp only; omega, k5⟩
          · intro j hj hjk
            rw [List.getElem_set]
            split
            · dsimp only; omega
            · exact P5.out j (by simpa using hj) (by omega)
        case measure => simp [intOf]; omega
      · go_wp2_with fail
        go_roundw
        case rel =>
          refine ⟨i + 1, lo, by omega, by go_num, P1.out, by have := P2.out; rw [P1.out] at this; exact this, P3.out, P4.out, ?_⟩
          intro j hj hjk
          by_cases hje : j < i
          · exact P5.out j hj hje
          · obtain rfl : j = i := by omega
            rw [Hn0.out]; omega
        case measure => simp [intOf]; omega
    · obtain ⟨p1, p2, p3, p4, p5⟩ := hP.out
      have P1 := Lib.hid p1
      subst p1
      have hS := Lib.hid (ents_bag (by decide) p2 p4)
      have P4 := Lib.hid p4
      have P5 := Lib.hid p5
      have P3 := Lib.hid p3
      have hsz := p3.2.1.size
      clear p2 p3 p4 p5 hP hE hown HN
      go_wp2_with fail
      refine (rbNormalize_any (fun r => (∀ b o, r.ao = some ⟨b, o, none⟩ → w.heap.size ≤ b) ∧ r.l.length = width) _ _ lo _ (by omega) (fun x hx => ⟨fun b o e => ((P4.out x hx).2.2.2.2 b o e).1, (P4.out x hx).2.2.1⟩) hS.out).mono ?_
      rintro e w2 ⟨ao2, cap2, l2, n2, rfl, hl2, hB2, hb2, hf2⟩
      have HB2 := Lib.hid hB2
      clear hB2
      go_wp2_with fail
      go_ret
      exact ⟨ao2, cap2, l2, rfl, bag_of_ents hw hn hln P4.out (fun _ x hx => by obtain ⟨j, hj, rfl⟩ := List.getElem_of_mem hx; exact P5.out j hj (by omega)) hl2.out (fun x hx => (hf2.out.1 x hx).2), HB2.out, P3.out.below hb2, fun b o e => Nat.le_trans hsz (hf2.out.2 b o e), fun x hx b o e => (hf2.out.1 x hx).1 b o e⟩
end Go.Proofs.Ytdckpjkbchibjaa
