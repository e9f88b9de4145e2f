/- The text of an expression, plain; its length. -/
import Derived.Test.YtenonljnldbkiaaGreatDoorMB
import Derived.Test.YtenonljnldbkiaaGreatDoorMC
import Derived.Lib.Join
import Derived.Test.YtenonljnldbkiaaGreatDoorMA
import Derived.Laws.AppendOwnNone
namespace Go.Proofs.YtenonljnldbkiaaGreatDoor
open Go.RowKit Go.Proofs.EB
set_option maxHeartbeats 1000000

def opName (op : Int) : List UInt8 := match opTab[op.toNat]? with | some (nm, _, _) => nm | none => []
def colName (names : List ByteArray) (c : Int) : List UInt8 := match names[c.toNat]? with | some s => s.data.toList | none => [63]
def fmtT (names : List ByteArray) (t : Tm) (l : List (List UInt8)) : List UInt8 := if t.op = 1 then fmtV t.v else if t.op = 2 then colName names t.c else opName t.op ++ [40] ++ Lib.join l [44, 32] ++ [41]
theorem opName_len (op : Int) : (opName op).length ≤ 9 := by
  unfold opName
  by_cases h : op.toNat < 19
  · have : ∀ j : Fin 19, (((opTab[j.1]?).getD ([], [], 0)).1.length) ≤ 9 := by decide +kernel
    have h2 := this ⟨op.toNat, h⟩
    simp only at h2
    generalize opTab[op.toNat]? = o at h2
    cases o with
    | none => simp
    | some p => exact h2
  · rw [List.getElem?_eq_none (by show 19 ≤ op.toNat; omega)]; simp
theorem decDigits_len (n : Nat) (h : n < 10000000000) : (Lib.decDigits n).length ≤ 10 := by
  have step : ∀ (k n : Nat), n < 10 ^ k → 0 < k → (Lib.decDigits n).length ≤ k := by
    intro k
    induction k with
    | zero => intro n _ h; omega
    | succ k ih =>
      intro n hn _
      by_cases h10 : n < 10
      · rw [Lib.decDigits, dif_pos h10]; simp
      · rw [Lib.decDigits, dif_neg h10]
        have h1 : n / 10 < 10 ^ k := by
          rw [Nat.pow_succ] at hn
          exact Nat.div_lt_of_lt_mul (by rw [Nat.mul_comm]; exact hn)
        have hk : 0 < k := by
          rcases Nat.eq_zero_or_pos k with h2 | h2
          · subst h2; simp at h1; omega
          · exact h2
        have := ih _ h1 hk
        simp; omega
  exact step 10 n (by simpa using h) (by omega)
theorem fmtV_len {v : V} (h : vB v = true) : (fmtV v).length ≤ 100 := by
  obtain ⟨k, n, s⟩ := v
  unfold fmtV
  rcases valid_kind h with rfl | rfl | rfl
  · simp
  · obtain ⟨⟨h1, h2⟩, _⟩ := valid_int h
    simp
    have := decDigits_len n.natAbs (by omega)
    have := decDigits_len n.toNat (by omega)
    unfold Lib.itoa
    split <;> simp <;> omega
  · obtain ⟨_, h2⟩ := valid_text h
    have := quoteL_len s.data.toList
    simp at this ⊢
    omega
theorem lens_le {l : List (List UInt8)} {k : Nat} : l.length ≤ 3 → (∀ x ∈ l, x.length ≤ k) → (Lib.join l [44, 32]).length ≤ 3 * k + 6 := by
  intro h hx
  match l, h with
  | [], _ => simp [Lib.join_nil]
  | [a], _ => have := hx a (by simp); simp [Lib.join_one]; omega
  | [a, b], _ => have h1 := hx a (by simp); have h2 := hx b (by simp); rw [Lib.join_length]; simp [Lib.lens]; omega
  | [a, b, c], _ => have h1 := hx a (by simp); have h2 := hx b (by simp); have h3 := hx c (by simp); rw [Lib.join_length]; simp [Lib.lens]; omega
  | _ :: _ :: _ :: _ :: _, h => simp at h
theorem join_sum (l : List (List UInt8)) (h : l.length ≤ 3) : (Lib.join l [44, 32]).length ≤ (l.map List.length).sum + 6 := by
  match l, h with
  | [], _ => simp [Lib.join_nil]
  | [a], _ => simp [Lib.join_one]
  | [a, b], _ => rw [Lib.join_length]; simp [Lib.lens]; omega
  | [a, b, c], _ => rw [Lib.join_length]; simp [Lib.lens]; omega
  | _ :: _ :: _ :: _ :: _, h => simp at h
/-- A text is no longer than 1200 bytes a term. -/
theorem fmtX_len (names : List ByteArray) (hn : ∀ s ∈ names, s.size ≤ 1000) (x : Ex) (ho : x.ok) : (x.fold (fmtT names)).length ≤ 1200 * x.flat.length := by
  revert ho
  induction x using Ex.ind with
  | h x ih =>
    intro ho
    obtain ⟨h1, h2, h3⟩ := (Ex.ok_iff x).1 ho
    rw [Ex.fold_eq, Ex.flat_eq]
    have hl := x.args_le
    have hsum : ∀ l : List Ex, (∀ a ∈ l, (a.fold (fmtT names)).length ≤ 1200 * a.flat.length) → ((l.map (Ex.fold (fmtT names))).map List.length).sum ≤ 1200 * (flats l).length := by
      intro l
      induction l with
      | nil => intro _; simp [flats]
      | cons a l il =>
        intro h
        have := h a (by simp)
        have := il fun b hb => h b (by simp [hb])
        simp only [List.map_cons, List.sum_cons, flats, List.length_append]
        omega
    have hs := hsum x.args fun a ha => ih a ha (h3 a ha)
    have hj := join_sum (x.args.map (Ex.fold (fmtT names))) (by simpa using hl)
    have ho := opName_len x.head.op
    unfold fmtT
    by_cases e1 : x.head.op = 1
    · rw [if_pos e1]
      have h4 : vB x.head.v = true := by
        unfold termB fieldsB at h1
        rw [if_pos e1] at h1
        simp only [Bool.and_eq_true] at h1
        exact h1.2.1.1
      have := fmtV_len h4
      simp only [List.length_cons]; omega
    · rw [if_neg e1]
      by_cases e2 : x.head.op = 2
      · rw [if_pos e2]
        have h5 : (colName names x.head.c).length ≤ 1000 := by
          unfold colName
          split
          · rename_i s hs
            have := hn s (List.mem_of_getElem? hs)
            simpa using this
          · simp
        simp only [List.length_cons]; omega
      · rw [if_neg e2]
        unfold fmtT at hj hs
        simp only [List.length_append, List.length_cons, List.length_nil]
        omega
end Go.Proofs.YtenonljnldbkiaaGreatDoor
/- Format of package expr: its function at one term. -/
namespace Go.Proofs.YtenonljnldbkiaaGreatDoor
open Go.RowKit Go.Proofs.EB
set_option maxHeartbeats 4000000
set_option maxRecDepth 100000
attribute [local go_sem] World.cell?_alloc_some

def encStr (s : ByteArray) : List Value := [.string s]
/-- A row of names whose header lies in a box. -/
structure NmIn (w : World) (gr : Nat) (names : List ByteArray) : Prop where
  box : ∃ ro cap, w.cell? ⟨gr, 0, none⟩ = some (.slice ro names.length cap) ∧ RAt encStr 1 w w.heap.size ro names
  small : ∀ s ∈ names, s.size ≤ 1000
  len : names.length ≤ maxLen
theorem NmIn.below {w w' : World} {gr : Nat} {names : List ByteArray} (h : NmIn w gr names) (hb : Below w.heap.size w w') : NmIn w' gr names := by
  obtain ⟨ro, cap, hc, hr⟩ := h.box
  exact ⟨⟨ro, cap, (hb.cell (World.block_lt_of_cell? w _ hc)).trans hc, hr.later hb⟩, h.small, h.len⟩
/-- A call that gives a text. -/
def GivesS (l : List UInt8) (w : World) (e : Ending) (w' : World) : Prop := ∃ s : ByteArray, Hid (s.data.toList = l) ∧ e = .returned (.string s) ∧ Below w.heap.size w w'
end Go.Proofs.YtenonljnldbkiaaGreatDoor
/- reduce of package expr at the function of Format; Format; awake of the laws. -/
namespace Go.Proofs.YtenonljnldbkiaaGreatDoor
open Go.RowKit Go.Proofs.EB
set_option maxHeartbeats 4000000
set_option maxRecDepth 100000
attribute [local go_sem] World.cell?_alloc_some

/-- The block of reduce, where the result is no struct: the operands. -/
structure Rd1 (w : World) (T : TypeId) (C : Array Value) (wx : World) : Prop where
  below : Below w.heap.size w wx
  ops : wx.heap[w.heap.size]? = some (.cells C T (0, 0))
theorem Rd1.start (w : World) (T : TypeId) (C : Array Value) : Rd1 w T C (w.alloc (.cells C T)) := ⟨al1 _ _, heap_alloc_new _ _⟩
theorem Rd1.step {w : World} {T : TypeId} {C : Array Value} {wx wy : World} (H : Rd1 w T C wx) (hb : Below wx.heap.size wx wy) : Rd1 w T C wy := by
  have lt : ∀ {i o}, wx.heap[i]? = some o → i < wx.heap.size := fun h => (Array.getElem?_eq_some_iff.1 h).1
  exact ⟨bt H.below hb, (hb.block _ (lt H.ops)).trans H.ops⟩
theorem Rd1.draw {w : World} {T : TypeId} {C : Array Value} {wx : World} (H : Rd1 w T C wx) : Rd1 w T C wx.drew := ⟨H.below.drew, H.ops⟩
theorem Rd1.set {w : World} {T : TypeId} {C C' : Array Value} {wx : World} (H : Rd1 w T C wx) (i : Nat) (v : Value) (hC : C.setIfInBounds i v = C') : Rd1 w T C' (wx.setCell ⟨w.heap.size, i, none⟩ v) :=
  ⟨H.below.setCell (Nat.le_refl _) _, by rw [← hC]; exact heap_setCell_same wx _ _ _ _ _ H.ops⟩
/-- What reduce gives. -/
def RedS (l : List Tm) (v : List UInt8) (r : List Tm) (w : World) (e : Ending) (w' : World) : Prop := ∃ s q, Hid (s.data.toList = v) ∧ Hid (q ≤ l.length ∧ l.drop q = r) ∧ e = .returned (.tuple #[.string s, .int .i64 (q : Nat)]) ∧ Below w.heap.size w w'
theorem flat_le_flats {a : Ex} : ∀ {xs : List Ex}, a ∈ xs → a.flat.length ≤ (flats xs).length
  | x :: xs, h => by
    simp only [flats, List.length_append]
    rcases List.mem_cons.1 h with rfl | h
    · omega
    · have := flat_le_flats h; omega
/-- The text of a list of terms. -/
def formatL (nms : List ByteArray) (l : List Tm) : List UInt8 := match treeL l with | some x => x.fold (fmtT nms) | none => []
end Go.Proofs.YtenonljnldbkiaaGreatDoor
/- The tape of numbers from which the laws build their arguments: what it is in memory; contracts of New and Next. -/
namespace Go.Proofs.YtenonljnldbkiaaGreatDoor
open Go.RowKit Go.Proofs.EB
set_option maxHeartbeats 1000000
attribute [local go_sem] World.cell?_alloc_some

/-- In the world w block g (below B) is a tape: its list of numbers lies below B too, in another block. -/
def TapeAt (w : World) (B g : Nat) : Prop :=
  ∃ (ao : Option Addr) (len cap pos : Nat), w.cell? ⟨g, 0, none⟩ = some (.slice ao len cap) ∧ w.cell? ⟨g, 1, none⟩ = some (.int .i64 pos) ∧ w.frozen? ⟨g, 1, none⟩ = false ∧ g < B ∧ len ≤ 17592186044416 ∧ pos ≤ 4 * len ∧
    (len = 0 ∨ ∃ b, ao = some ⟨b, 0, none⟩ ∧ b ≠ g ∧ b < B ∧ ∀ i, i < len → ∃ x : Int, w.cell? ⟨b, i, none⟩ = some (.int .i64 x) ∧ -9223372036854775808 ≤ x ∧ x ≤ 9223372036854775807)
theorem TapeAt.away {w w' : World} {B g : Nat} {r : Option Nat} (h : TapeAt w B g) (ha : Away r w w') (hr : ∀ k, r = some k → B ≤ k) (hB : B ≤ w.heap.size) : TapeAt w' B g := by
  obtain ⟨ao, len, cap, pos, c0, c1, f1, hg, hl, hp, hz⟩ := h
  have hne : ∀ k, k < B → some k ≠ r := fun k hk e => by have := hr k e.symm; omega
  refine ⟨ao, len, cap, pos, (ha.cell (a := ⟨g, 0, none⟩) (show g < w.heap.size by omega) (hne g hg)).trans c0, (ha.cell (a := ⟨g, 1, none⟩) (show g < w.heap.size by omega) (hne g hg)).trans c1, (ha.frozen (a := ⟨g, 1, none⟩) (show g < w.heap.size by omega) (hne g hg)).trans f1, hg, hl, hp, ?_⟩
  rcases hz with hz | ⟨b, e, hb, hbB, hc⟩
  · exact .inl hz
  · refine .inr ⟨b, e, hb, hbB, fun i hi => ?_⟩
    obtain ⟨x, h1, h2⟩ := hc i hi
    exact ⟨x, (ha.cell (a := ⟨b, i, none⟩) (show b < w.heap.size by omega) (hne b hbB)).trans h1, h2⟩
theorem TapeAt.below {w w' : World} {B g : Nat} (h : TapeAt w B g) (hb : Below w.heap.size w w') (hB : B ≤ w.heap.size) : TapeAt w' B g := h.away (r := none) ⟨hb.os, hb.tape, hb.output, hb.size, fun k hk _ => hb.block k hk⟩ (by simp) hB
theorem TapeAt.mono {w : World} {B B' g : Nat} (h : TapeAt w B g) (hB : B ≤ B') : TapeAt w B' g := by
  obtain ⟨ao, len, cap, pos, c0, c1, f1, hg, hl, hp, hz⟩ := h
  refine ⟨ao, len, cap, pos, c0, c1, f1, by omega, hl, hp, ?_⟩
  rcases hz with hz | ⟨b, e, hb, hbB, hc⟩
  · exact .inl hz
  · exact .inr ⟨b, e, hb, by omega, hc⟩

theorem away_refl (r : Option Nat) (w : World) : Away r w w := ⟨rfl, rfl, rfl, Nat.le_refl _, fun _ _ _ => rfl⟩
theorem away_trans {r : Option Nat} {a b c : World} (h : Away r a b) (k : Away r b c) : Away r a c :=
  ⟨k.os.trans h.os, k.tape.trans h.tape, k.output.trans h.output, Nat.le_trans h.size k.size, fun i hi hne => (k.block i (Nat.lt_of_lt_of_le hi h.size) hne).trans (h.block i hi hne)⟩
theorem away_drewN (r : Option Nat) (w : World) (n : Nat) : Away r w (w.drewN n) := ⟨rfl, rfl, rfl, Nat.le_refl _, fun _ _ _ => rfl⟩
theorem away_setCell (w : World) (a : Addr) (v : Value) : Away (some a.block) w (w.setCell a v) :=
  ⟨rfl, rfl, rfl, by simp [World.setCell], fun k _ hne => Below.heap_setCell _ _ _ _ (by simpa using hne)⟩
theorem away_alloc (r : Option Nat) (w : World) (o : Obj) : Away r w (w.alloc o) := ⟨rfl, rfl, rfl, by simp, fun k hk _ => Below.heap_alloc _ _ _ hk⟩
theorem away_weak {r : Option Nat} {w w' : World} (h : Below w.heap.size w w') : Away r w w' := ⟨h.os, h.tape, h.output, h.size, fun k hk _ => h.block k hk⟩

/-- What a call that takes numbers from the tape leaves of it and of the old memory. -/
def Took (w : World) (B g : Nat) (w' : World) : Prop := TapeAt w' B g ∧ Away (some g) w w' ∧ B ≤ w'.heap.size
def NextPost (w : World) (B g : Nat) (n : Int) (e : Ending) (w' : World) : Prop := ∃ r : Int, e = .returned (.int .i64 r) ∧ 0 ≤ r ∧ (r < n ∨ r = 0) ∧ Took w B g w'
theorem next_zero {w : World} {B g : Nat} {n : Int} (h : TapeAt w B g) (hB : B ≤ w.heap.size) (k : Nat) : NextPost w B g n (.returned (.int .i64 0)) (w.drewN k) :=
  ⟨0, rfl, by omega, .inr rfl, h.away (away_drewN none w k) (by simp) hB, away_drewN _ _ _, hB⟩

theorem tape_rem (X n : Int) (h2 : 2 ≤ n) (hn : n ≤ 1000000000000) : 0 ≤ (wrap64 (X.tmod n + n)).tmod n ∧ (wrap64 (X.tmod n + n)).tmod n < n := by
  have h1 : X.tmod n < n := Int.tmod_lt_of_pos X (by omega)
  have h3 : (-X).tmod n < n := Int.tmod_lt_of_pos (-X) (by omega)
  rw [Int.neg_tmod] at h3
  rw [IntWalk.wrap64_in _ ⟨by omega, by omega⟩]
  exact ⟨Int.tmod_nonneg _ (by omega), Int.tmod_lt_of_pos _ (by omega)⟩
theorem next_end {w : World} {B g b len cap pos : Nat} {n X : Int} (h2 : 2 ≤ n) (hn : n ≤ 1000000000000) (hB : B ≤ w.heap.size) (c0 : w.cell? ⟨g, 0, none⟩ = some (.slice (some ⟨b, 0, none⟩) len cap)) (c1 : w.cell? ⟨g, 1, none⟩ = some (.int .i64 pos)) (f1 : w.frozen? ⟨g, 1, none⟩ = false)
    (hg : g < B) (hl : len ≤ 17592186044416) (hp : pos < 4 * len) (hbg : b ≠ g) (hbB : b < B) (hc : ∀ i, i < len → ∃ x : Int, w.cell? ⟨b, i, none⟩ = some (.int .i64 x) ∧ -9223372036854775808 ≤ x ∧ x ≤ 9223372036854775807) (k : Nat) :
    NextPost w B g n (.returned (.int .i64 ((wrap64 (X.tmod n + n)).tmod n))) ((w.drewN k).setCell ⟨g, 1, none⟩ (.int .i64 ((pos : Int) + 1))) := by
  have hr := tape_rem X n h2 hn
  have d1 : (w.drewN k).cell? ⟨g, 1, none⟩ = some (.int .i64 pos) := c1
  have hA : Away (some g) w ((w.drewN k).setCell ⟨g, 1, none⟩ (.int .i64 ((pos : Int) + 1))) := away_trans (away_drewN _ w k) (away_setCell _ ⟨g, 1, none⟩ _)
  refine ⟨_, rfl, hr.1, .inl hr.2, ⟨some ⟨b, 0, none⟩, len, cap, pos + 1, ?_, ?_, ?_, hg, hl, by omega, .inr ⟨b, rfl, hbg, hbB, fun i hi => ?_⟩⟩, hA, by have := hA.size; omega⟩
  · rw [World.cell?_setCell_other _ _ _ _ (by simp)]
    exact c0
  · rw [World.cell?_setCell_same _ _ _ d1]; simp
  · rw [World.frozen?_setCell]; exact f1
  · obtain ⟨x, h1, h3⟩ := hc i hi
    exact ⟨x, (hA.cell (a := ⟨b, i, none⟩) (World.block_lt_of_cell? w _ h1) (by simpa using hbg)).trans h1, h3⟩
theorem next_any (B g : Nat) (n : Int) (w : World) (hn : n ≤ 1000000000000) (hn0 : -1000000000000 ≤ n) (h : TapeAt w B g) (hB : B ≤ w.heap.size) :
    Calls Tryz.prog 14 #[.pointer (some ⟨g, 0, none⟩), .int .i64 n] w (NextPost w B g n) := by
  have hT := Lib.hid h
  obtain ⟨ao, len, cap, pos, c0, c1, f1, hg, hl, hp, hz⟩ := h
  by_cases h2 : n < 2
  · go_enter Tryz.func14, Tryz.ntmps14
    go_wp2_with fail
    go_quiet (fail)
    go_wp2_with fail
    go_ret
    exact next_zero hT.out hB _
  · by_cases h3 : len = 0
    · subst h3
      have hd : decide (n < 2) = false := by simpa using h2
      go_enter Tryz.func14, Tryz.ntmps14
      go_wp2_with fail
      go_quiet (fail)
      go_wp2_with fail
      go_ret
      exact next_zero hT.out hB _
    · have hd : decide (n < 2) = false := by simpa using h2
      have hd2 : ((len : Int) == 0) = false := by simpa using h3
      by_cases h4 : pos < 4 * len
      · rcases hz with hz | ⟨b, rfl, hbg, hbB, hc⟩
        · exact absurd hz h3
        obtain ⟨x, c2, hx1, hx2⟩ := hc (pos % len) (Nat.mod_lt _ (by omega))
        have hd3 : decide (4 * (len : Int) ≤ (pos : Int)) = false := by simp; omega
        have q0 : (0 : Int) ≤ (pos : Int) % (len : Int) := Int.emod_nonneg _ (by omega)
        have q1 : (pos : Int) % (len : Int) < (len : Int) := Int.emod_lt_of_pos _ (by omega)
        have q2 : ((pos : Int) % (len : Int)).toNat = pos % len := by rw [← Int.natCast_emod]; rfl
        have q3 : (0 : Int) ≤ (pos : Int) / (len : Int) := Int.ediv_nonneg (by omega) (by omega)
        have q4 : (pos : Int) / (len : Int) < 4 := Int.ediv_lt_of_lt_mul (by omega) (by omega)
        have q5 : (len : Int) ≠ 0 := by omega
        have q6 : (1 : Int) ≤ (len : Int) := by omega
        have q7 : (0 : Int) ≤ (pos : Int) := by omega
        have Hc := Lib.hid hc
        clear hc
        go_enter Tryz.func14, Tryz.ntmps14
        go_wp2_with fail
        go_quiet (fail)
        go_wp2_with fail
        go_quiet (fail)
        go_wp2_with fail
        go_quiet (fail)
        go_wp2_with fail
        all_goals
          go_ret
          exact next_end (by omega) hn hB c0 c1 f1 hg hl h4 hbg hbB Hc.out _
      · have hd3 : decide (4 * (len : Int) ≤ (pos : Int)) = true := by simp; omega
        go_enter Tryz.func14, Tryz.ntmps14
        go_wp2_with fail
        go_quiet (fail)
        go_wp2_with fail
        go_ret
        exact next_zero hT.out hB _

theorem own_form {w : World} {base : Nat} {e : TypeId} {size : Nat} {v : Value} {n : Nat} {xs : List Value} (h : w.ownsRow base e size v n xs) (hne : v ≠ .slice none 0 0) : ∃ g cap, v = .slice (some ⟨g, 0, none⟩) n cap ∧ base ≤ g ∧ g < w.heap.size := by
  rcases h.2 with ⟨h0, _⟩ | ⟨g, cap, cur, rfl, hb, hg, _⟩
  · exact absurd h0 hne
  · exact ⟨g, cap, rfl, hb, (Array.getElem?_eq_some_iff.1 hg).1⟩
/-- New: the tape holds a copy of the numbers. -/
def NewPost (w : World) (e : Ending) (w' : World) : Prop := ∃ g, e = .returned (.pointer (some ⟨g, 0, none⟩)) ∧ w.heap.size ≤ g ∧ TapeAt w' w'.heap.size g ∧ Below w.heap.size w w'
theorem infoInt : (Tryz.prog.info? 3).map (fun i => (i.zero, i.size, i.bytes)) = some (some (.int .i64 0), 1, 8) := by kernel_rfl
theorem new_any (ao : Option Addr) (len cap : Nat) (zs : List Int) (w : World) (h : IntsAt w ao len cap zs) :
    Calls Tryz.prog 12 #[.slice ao len cap] w (NewPost w) := by
  obtain ⟨i0, hi, hz0, hz1, hz2⟩ := info_parts infoInt
  have hown0 : (w.alloc (.cells #[] 3)).ownsRow w.heap.size 3 1 (.slice (some ⟨w.heap.size, 0, none⟩) 0 0) 0 [] := World.ownsRow_made w #[] 0 (Nat.le_refl _) (by decide) rfl
  rcases h with ⟨rfl, rfl, rfl, rfl⟩ | ⟨x, rfl, hl, hcap, hz, hc, hw⟩
  · go_enter Tryz.func12, Tryz.ntmps12
    go_wp2_with fail
    go_ret
    refine ⟨w.heap.size + 1, rfl, by omega, ⟨some ⟨w.heap.size, 0, none⟩, 0, 0, 0, by simp, by simp, by simp, by simp, by omega, by omega, .inl rfl⟩, ?_⟩
    exact ((Below.refl _ _).alloc (Nat.le_refl _) _).alloc (by simp) _
  · have hA0 := away_alloc none w (.cells #[] 3)
    have hnews : ∀ j u, ((zs.take len).map (Value.int .i64))[j]? = some u → (w.alloc (.cells #[] 3)).cell? (x.add j) = some u := by
      intro j u hj
      obtain ⟨hjl, hju⟩ := List.getElem?_eq_some_iff.1 hj
      simp only [List.length_map, List.length_take] at hjl
      have hcj := hc j (by omega)
      have e1 : u = .int .i64 (zs.getD j 0) := by
        rw [← hju]
        simp [List.getD_eq_getElem?_getD, List.getElem?_eq_getElem (show j < zs.length by omega)]
      rw [hA0.cell (World.block_lt_of_cell? w _ hcj) (by simp), hcj, e1]
    have hnl : ((zs.take len).map (Value.int .i64)).length = len * 1 := by simp; omega
    have hone : ∀ u ∈ (zs.take len).map (Value.int .i64), u.oneCell' = true := by
      intro u hu
      simp only [List.mem_map] at hu
      obtain ⟨y, _, rfl⟩ := hu
      rfl
    have Hw := Lib.hid hw
    have hb8 : (0 + len) * 8 ≤ 140737488355328 := by omega
    have h63 : 0 + len ≤ maxLen := by unfold maxLen; omega
    clear hc hw
    go_enter Tryz.func12, Tryz.ntmps12
    go_wp2_with (at_builtin; refine wpList_append_own_at (w := (w.alloc (.cells #[] 3))) rfl (.tmp 3) (.tmp 4) 36 rfl w.heap.size 3 i0 _ 1 8 Tryz.underlying36 hi hz0 hz1 hz2 rfl (by decide) (.slice (some ⟨w.heap.size, 0, none⟩) 0 0) 0 [] rfl hown0 x len cap ((zs.take len).map (Value.int .i64)) rfl hnl hnews hone h63 hb8 (by simp) ?_; intro v2 w2 hown2 hgr2 hnil2 hat2; obtain ⟨g2, cp2, rfl, hbg2, hlt2⟩ := own_form hown2 (by simp [hnil2]))
    go_ret
    have hA2 : Away (some w.heap.size) (w.alloc (.cells #[] 3)) w2 := ⟨hgr2.os, hgr2.tape, hgr2.output, hgr2.size, hgr2.block⟩
    have hB2 : Below w.heap.size w w2 := ((Below.refl _ _).alloc (Nat.le_refl _) _).trans (hA2.below (by simp) (by simp))
    have hs2 := hB2.size
    refine ⟨w2.heap.size, rfl, hs2, ⟨some ⟨g2, 0, none⟩, len, cp2, 0, by simp, by simp, by simp, by simp, by omega, by omega, ?_⟩, hB2.alloc hs2 _⟩
    by_cases hz0' : len = 0
    · exact .inl hz0'
    · refine .inr ⟨g2, rfl, by omega, by simp; omega, fun i hi => ?_⟩
      have hgi : ((zs.take len).map (Value.int .i64))[i]? = some (.int .i64 (zs.getD i 0)) := by
        simp [hi, List.getD_eq_getElem?_getD, List.getElem?_eq_getElem (show i < zs.length by omega)]
      have h1 := hown2.cells (g := g2) rfl i _ (by simpa using hgi)
      rw [Go.WideShapes.add_plain] at h1
      simp only [Nat.zero_add] at h1
      refine ⟨zs.getD i 0, ?_, ?_⟩
      · rw [World.cell?_alloc_lt _ _ _ (World.block_lt_of_cell? w2 _ h1)]
        exact h1
      · have hm : zs.getD i 0 ∈ zs := by
          rw [List.getD_eq_getElem?_getD, List.getElem?_eq_getElem (show i < zs.length by omega)]
          exact List.getElem_mem _
        have := Hw.out _ hm
        clear hgi h1 hm
        generalize zs.getD i 0 = y at *
        simp [Lit.wf, IntKind.min, IntKind.max, IntKind.signed, IntKind.bits] at this
        omega
end Go.Proofs.YtenonljnldbkiaaGreatDoor
/- Contracts of the tape's Text, Int, Value and Row: each gives valid values, whatever the numbers are. -/
namespace Go.Proofs.YtenonljnldbkiaaGreatDoor
open Go.RowKit Go.Proofs.EB
set_option maxHeartbeats 1000000
attribute [local go_sem] World.cell?_alloc_some

theorem rtext_any (s : ByteArray) (w : World) (hs : s.size ≤ maxLen) :
    Calls Tryz.prog 166 #[.string s] w (CleanPost ⟨2, 0, s⟩ w) := by
  go_enter Tryz.func166, Tryz.ntmps166
  go_wp2_with fail
  refine (rclean_any _ _ _ _ hs).mono ?_
  rintro e w1 ⟨k, n, s1, rfl, hc, hb⟩
  have Hc := Lib.hid hc
  have hb1 := below_old2 hb
  obtain ⟨c0, c1, c2, f0, f1, f2⟩ := box3 (below_new (by simpa using hb))
  clear hc hb
  go_wp2_with fail
  refine bodyPost_ret (v := .agg #[.int .i64 k, .int .i64 n, .string s1]) (by simp [results, Tryz.results166, go_sem, c0, c1, c2]) rfl ⟨k, n, s1, rfl, Hc.out, ?_⟩
  exact ((hb1.setCell (by simp) _).setCell (by simp) _).setCell (by simp) _

theorem rint_any (n0 : Int) (w : World) :
    Calls Tryz.prog 165 #[.int .i64 n0] w (CleanPost ⟨1, n0, ⟨#[]⟩⟩ w) := by
  go_enter Tryz.func165, Tryz.ntmps165
  go_wp2_with fail
  refine (rclean_any _ _ _ _ (by simp [maxLen, ByteArray.size])).mono ?_
  rintro e w1 ⟨k, n, s1, rfl, hc, hb⟩
  have Hc := Lib.hid hc
  have hb1 := below_old2 hb
  obtain ⟨c0, c1, c2, f0, f1, f2⟩ := box3 (below_new (by simpa using hb))
  clear hc hb
  go_wp2_with fail
  refine bodyPost_ret (v := .agg #[.int .i64 k, .int .i64 n, .string s1]) (by simp [results, Tryz.results165, go_sem, c0, c1, c2]) rfl ⟨k, n, s1, rfl, Hc.out, ?_⟩
  exact ((hb1.setCell (by simp) _).setCell (by simp) _).setCell (by simp) _

/-- A call of the tape that gives a valid value. -/
def ValPost (w : World) (B g : Nat) (e : Ending) (w' : World) : Prop := ∃ k n s, e = .returned (.agg #[.int .i64 k, .int .i64 n, .string s]) ∧ vB ⟨k, n, s⟩ = true ∧ (⟨k, n, s⟩ : V).ok ∧ Took w B g w'
/-- The same, of a kind. -/
def ValPostK (kd : Int) (w : World) (B g : Nat) (e : Ending) (w' : World) : Prop := ∃ k n s, e = .returned (.agg #[.int .i64 k, .int .i64 n, .string s]) ∧ vB ⟨k, n, s⟩ = true ∧ (⟨k, n, s⟩ : V).ok ∧ Hid (k = kd) ∧ Took w B g w'
theorem ValPostK.val {kd : Int} {w : World} {B g : Nat} {e : Ending} {w' : World} (h : ValPostK kd w B g e w') : ValPost w B g e w' := by
  obtain ⟨k, n, s, h1, h2, h3, _, h4⟩ := h
  exact ⟨k, n, s, h1, h2, h3, h4⟩
theorem tookBelow {w w1 : World} {B g : Nat} (h : TapeAt w B g) (hB : B ≤ w.heap.size) (hb : Below w.heap.size w w1) : Took w B g w1 := ⟨h.below hb hB, away_weak hb, Nat.le_trans hB hb.size⟩
theorem Took.trans {w w1 w2 : World} {B g : Nat} (h : Took w B g w1) (k : Took w1 B g w2) : Took w B g w2 := ⟨k.1, away_trans h.2.1 k.2.1, k.2.2⟩
theorem Took.below {w w1 w2 : World} {B g : Nat} (h : Took w B g w1) (hb : Below w1.heap.size w1 w2) : Took w B g w2 := h.trans (tookBelow h.1 h.2.2 hb)
theorem Took.start {w w0 w1 : World} {B g : Nat} (h : Took w0 B g w1) (hb : Below w.heap.size w w0) : Took w B g w1 := ⟨h.1, away_trans (away_weak hb) h.2.1, h.2.2⟩
theorem Took.fresh {w w1 w2 : World} {B g : Nat} {r : Option Nat} (h : Took w B g w1) (ha : Away r w1 w2) (hr : ∀ k, r = some k → B ≤ k ∧ w.heap.size ≤ k) : Took w B g w2 :=
  ⟨h.1.away ha (fun k hk => (hr k hk).1) h.2.2, ⟨ha.os.trans h.2.1.os, ha.tape.trans h.2.1.tape, ha.output.trans h.2.1.output, Nat.le_trans h.2.1.size ha.size, fun k hk hne => (ha.block k (Nat.lt_of_lt_of_le hk h.2.1.size) (fun e => by have := (hr k e.symm).2; omega)).trans (h.2.1.block k hk hne)⟩, Nat.le_trans h.2.2 ha.size⟩
/-- A store into a block of the call's own, from B on. -/
theorem Took.setCell {w w1 : World} {B g : Nat} (h : Took w B g w1) {p : Addr} (hp : B ≤ p.block) (hw : w.heap.size ≤ p.block) (u : Value) : Took w B g (w1.setCell p u) := by
  refine ⟨h.1.away (away_setCell w1 p u) (fun k hk => by simp at hk; omega) h.2.2, ⟨h.2.1.os, h.2.1.tape, h.2.1.output, by have := h.2.1.size; simpa [World.setCell] using this, fun k hk hne => ?_⟩, by have := h.2.2; simpa [World.setCell] using this⟩
  rw [Below.heap_setCell _ _ _ _ (by omega)]
  exact h.2.1.block k hk hne
theorem texts_at : ∀ i, i < 10 → ∃ s : ByteArray, (#[.string ⟨#[97]⟩, .string ⟨#[98]⟩, .string ⟨#[]⟩, .string ⟨#[97, 98]⟩, .string ⟨#[97, 32, 98]⟩, .string ⟨#[120, 0, 121]⟩, .string ⟨#[255, 34, 92]⟩, .string ⟨#[98, 32, 97, 32, 98]⟩, .string ⟨#[108, 111, 110, 103, 32, 116, 101, 120, 116, 32, 111, 102, 32, 116, 104, 105, 114, 116, 121, 45, 116, 119, 111, 32, 98, 121, 116, 101, 115, 32, 105, 116]⟩, .string ⟨#[66]⟩] : Array Value)[i]? = some (.string s) ∧ s.size ≤ 32 := by
  intro i hi
  match i, hi with
  | 0, _ => exact ⟨_, rfl, by decide⟩
  | 1, _ => exact ⟨_, rfl, by decide⟩
  | 2, _ => exact ⟨_, rfl, by decide⟩
  | 3, _ => exact ⟨_, rfl, by decide⟩
  | 4, _ => exact ⟨_, rfl, by decide⟩
  | 5, _ => exact ⟨_, rfl, by decide⟩
  | 6, _ => exact ⟨_, rfl, by decide⟩
  | 7, _ => exact ⟨_, rfl, by decide⟩
  | 8, _ => exact ⟨_, rfl, by decide⟩
  | 9, _ => exact ⟨_, rfl, by decide⟩
theorem rint_ok (i : Nat) (_hi : i < 12) (x : Int) (hx : -4294967296 ≤ x ∧ x ≤ 4294967296) : (⟨1, x, ⟨#[]⟩⟩ : V).ok := ⟨by simp, by simp only; omega, by simp [maxLen, ByteArray.size]⟩
theorem ints_at' : ∀ i, i < 12 → ∃ x : Int, (#[.int .i64 0, .int .i64 1, .int .i64 2, .int .i64 3, .int .i64 (-1), .int .i64 (-2), .int .i64 7, .int .i64 100, .int .i64 4294967296, .int .i64 (-4294967296), .int .i64 5, .int .i64 4] : Array Value)[i]? = some (.int .i64 x) ∧ -4294967296 ≤ x ∧ x ≤ 4294967296 := by
  intro i hi
  match i, hi with
  | 0, _ => exact ⟨_, rfl, by decide, by decide⟩
  | 1, _ => exact ⟨_, rfl, by decide, by decide⟩
  | 2, _ => exact ⟨_, rfl, by decide, by decide⟩
  | 3, _ => exact ⟨_, rfl, by decide, by decide⟩
  | 4, _ => exact ⟨_, rfl, by decide, by decide⟩
  | 5, _ => exact ⟨_, rfl, by decide, by decide⟩
  | 6, _ => exact ⟨_, rfl, by decide, by decide⟩
  | 7, _ => exact ⟨_, rfl, by decide, by decide⟩
  | 8, _ => exact ⟨_, rfl, by decide, by decide⟩
  | 9, _ => exact ⟨_, rfl, by decide, by decide⟩
  | 10, _ => exact ⟨_, rfl, by decide, by decide⟩
  | 11, _ => exact ⟨_, rfl, by decide, by decide⟩
set_option maxRecDepth 10000 in
theorem text_anyK (B g : Nat) (w : World) (h : TapeAt w B g) (hB : B ≤ w.heap.size) :
    Calls Tryz.prog 146 #[.pointer (some ⟨g, 0, none⟩)] w (ValPostK 2 w B g) := by
  have hgB : g < B := by obtain ⟨_, _, _, _, _, _, _, hg, _⟩ := h; exact hg
  have n0 : ((w.alloc (.cells #[.int .i64 0, .int .i64 0, .string ⟨#[]⟩] 142)).alloc (.cells #[.string ⟨#[97]⟩, .string ⟨#[98]⟩, .string ⟨#[]⟩, .string ⟨#[97, 98]⟩, .string ⟨#[97, 32, 98]⟩, .string ⟨#[120, 0, 121]⟩, .string ⟨#[255, 34, 92]⟩, .string ⟨#[98, 32, 97, 32, 98]⟩, .string ⟨#[108, 111, 110, 103, 32, 116, 101, 120, 116, 32, 111, 102, 32, 116, 104, 105, 114, 116, 121, 45, 116, 119, 111, 32, 98, 121, 116, 101, 115, 32, 105, 116]⟩, .string ⟨#[66]⟩] 9)).heap[w.heap.size]? = some (.cells #[.int .i64 0, .int .i64 0, .string ⟨#[]⟩] 142) := by rw [Below.heap_alloc _ _ _ (by simp)]; exact heap_alloc_new _ _
  have n1 : ((w.alloc (.cells #[.int .i64 0, .int .i64 0, .string ⟨#[]⟩] 142)).alloc (.cells #[.string ⟨#[97]⟩, .string ⟨#[98]⟩, .string ⟨#[]⟩, .string ⟨#[97, 98]⟩, .string ⟨#[97, 32, 98]⟩, .string ⟨#[120, 0, 121]⟩, .string ⟨#[255, 34, 92]⟩, .string ⟨#[98, 32, 97, 32, 98]⟩, .string ⟨#[108, 111, 110, 103, 32, 116, 101, 120, 116, 32, 111, 102, 32, 116, 104, 105, 114, 116, 121, 45, 116, 119, 111, 32, 98, 121, 116, 101, 115, 32, 105, 116]⟩, .string ⟨#[66]⟩] 9)).heap[w.heap.size + 1]? = some (.cells #[.string ⟨#[97]⟩, .string ⟨#[98]⟩, .string ⟨#[]⟩, .string ⟨#[97, 98]⟩, .string ⟨#[97, 32, 98]⟩, .string ⟨#[120, 0, 121]⟩, .string ⟨#[255, 34, 92]⟩, .string ⟨#[98, 32, 97, 32, 98]⟩, .string ⟨#[108, 111, 110, 103, 32, 116, 101, 120, 116, 32, 111, 102, 32, 116, 104, 105, 114, 116, 121, 45, 116, 119, 111, 32, 98, 121, 116, 101, 115, 32, 105, 116]⟩, .string ⟨#[66]⟩] 9) := by have := heap_alloc_new (w.alloc (.cells #[.int .i64 0, .int .i64 0, .string ⟨#[]⟩] 142)) (.cells #[.string ⟨#[97]⟩, .string ⟨#[98]⟩, .string ⟨#[]⟩, .string ⟨#[97, 98]⟩, .string ⟨#[97, 32, 98]⟩, .string ⟨#[120, 0, 121]⟩, .string ⟨#[255, 34, 92]⟩, .string ⟨#[98, 32, 97, 32, 98]⟩, .string ⟨#[108, 111, 110, 103, 32, 116, 101, 120, 116, 32, 111, 102, 32, 116, 104, 105, 114, 116, 121, 45, 116, 119, 111, 32, 98, 121, 116, 101, 115, 32, 105, 116]⟩, .string ⟨#[66]⟩] 9); simpa using this
  have hb : Below w.heap.size w ((w.alloc (.cells #[.int .i64 0, .int .i64 0, .string ⟨#[]⟩] 142)).alloc (.cells #[.string ⟨#[97]⟩, .string ⟨#[98]⟩, .string ⟨#[]⟩, .string ⟨#[97, 98]⟩, .string ⟨#[97, 32, 98]⟩, .string ⟨#[120, 0, 121]⟩, .string ⟨#[255, 34, 92]⟩, .string ⟨#[98, 32, 97, 32, 98]⟩, .string ⟨#[108, 111, 110, 103, 32, 116, 101, 120, 116, 32, 111, 102, 32, 116, 104, 105, 114, 116, 121, 45, 116, 119, 111, 32, 98, 121, 116, 101, 115, 32, 105, 116]⟩, .string ⟨#[66]⟩] 9)) := ((Below.refl _ _).alloc (Nat.le_refl _) _).alloc (by simp) _
  have hT := Lib.hid (tookBelow h hB hb)
  have HN0 := Lib.hid n0
  have HN1 := Lib.hid n1
  have Hb := Lib.hid hb
  clear n0 n1 hb h
  go_enter Tryz.func146, Tryz.ntmps146
  go_wp2_with fail
  generalize (w.alloc (.cells #[.int .i64 0, .int .i64 0, .string ⟨#[]⟩] 142)).alloc (.cells #[.string ⟨#[97]⟩, .string ⟨#[98]⟩, .string ⟨#[]⟩, .string ⟨#[97, 98]⟩, .string ⟨#[97, 32, 98]⟩, .string ⟨#[120, 0, 121]⟩, .string ⟨#[255, 34, 92]⟩, .string ⟨#[98, 32, 97, 32, 98]⟩, .string ⟨#[108, 111, 110, 103, 32, 116, 101, 120, 116, 32, 111, 102, 32, 116, 104, 105, 114, 116, 121, 45, 116, 119, 111, 32, 98, 121, 116, 101, 115, 32, 105, 116]⟩, .string ⟨#[66]⟩] 9) = wb at *
  refine (next_any B g 10 wb (by decide) (by decide) hT.out.1 hT.out.2.2).mono ?_
  rintro e w1 ⟨r, rfl, hr0, hr1, hK⟩
  have hKs := Lib.hid hK
  obtain ⟨rn, rfl⟩ : ∃ rn : Nat, r = (rn : Int) := ⟨r.toNat, by omega⟩
  have hrn : rn < 10 := by omega
  have hlt0 : w.heap.size < wb.heap.size := (Array.getElem?_eq_some_iff.1 HN0.out).1
  have hlt1 : w.heap.size + 1 < wb.heap.size := (Array.getElem?_eq_some_iff.1 HN1.out).1
  have m0 := (hK.2.1.block w.heap.size hlt0 (by simp; omega)).trans HN0.out
  have m1 := (hK.2.1.block (w.heap.size + 1) hlt1 (by simp; omega)).trans HN1.out
  obtain ⟨c0, c1, c2, f0, f1, f2⟩ := box3 m0
  obtain ⟨s0, hx, hs0⟩ := texts_at rn hrn
  have d0 := (cell_of_row w1 (w.heap.size + 1) rn _ _ _ m1).trans hx
  have hl0 := (Array.getElem?_eq_some_iff.1 m0).1
  have hri : (rn : Int) < 10 := by omega
  have M0 := Lib.hid m0
  clear m0 m1 hx hK hr0 hr1 c0 c1 c2 f0 f1 f2 HN0 HN1
  go_wp2_with fail
  refine (rtext_any s0 _ (by unfold maxLen; omega)).mono ?_
  rintro e w2 ⟨k, n, s1, rfl, hc, hb2⟩
  have hv : vB ⟨k, n, s1⟩ = true := by rw [hc]; exact cleanV_valid _
  have hok : (⟨k, n, s1⟩ : V).ok := by rw [hc]; exact cleanV_ok (⟨by simp, by simp, by show s0.size ≤ maxLen; unfold maxLen; omega⟩)
  have hkd : k = 2 := by
    have hv0 : vB ⟨2, 0, s0⟩ = true := by simp [vB, validB]; omega
    rw [cleanV_idem hv0] at hc
    simp only [V.mk.injEq] at hc
    exact hc.1
  have Hkd := Lib.hid hkd
  have Hv := Lib.hid hv
  have Hok := Lib.hid hok
  obtain ⟨c0, c1, c2, f0, f1, f2⟩ := box3 ((hb2.block _ hl0).trans M0.out)
  clear hc hv hok hkd
  go_wp2_with fail
  refine bodyPost_ret (v := .agg #[.int .i64 k, .int .i64 n, .string s1]) (by simp [results, Tryz.results146, go_sem, c0, c1, c2]) rfl ⟨k, n, s1, rfl, Hv.out, Hok.out, Hkd, ?_⟩
  have hfin := ((hT.out.trans hKs.out).below hb2)
  exact ((hfin.setCell (p := ⟨w.heap.size, 0, none⟩) hB (Nat.le_refl _) _).setCell (p := ⟨w.heap.size, 1, none⟩) hB (Nat.le_refl _) _).setCell (p := ⟨w.heap.size, 2, none⟩) hB (Nat.le_refl _) _
theorem text_any (B g : Nat) (w : World) (h : TapeAt w B g) (hB : B ≤ w.heap.size) :
    Calls Tryz.prog 146 #[.pointer (some ⟨g, 0, none⟩)] w (ValPost w B g) := (text_anyK B g w h hB).mono fun _ _ h => h.val

set_option maxRecDepth 10000 in
theorem int_anyK (B g : Nat) (w : World) (h : TapeAt w B g) (hB : B ≤ w.heap.size) :
    Calls Tryz.prog 145 #[.pointer (some ⟨g, 0, none⟩)] w (ValPostK 1 w B g) := by
  have hgB : g < B := by obtain ⟨_, _, _, _, _, _, _, hg, _⟩ := h; exact hg
  have n0 : ((w.alloc (.cells #[.int .i64 0, .int .i64 0, .string ⟨#[]⟩] 142)).alloc (.cells #[.int .i64 0, .int .i64 1, .int .i64 2, .int .i64 3, .int .i64 (-1), .int .i64 (-2), .int .i64 7, .int .i64 100, .int .i64 4294967296, .int .i64 (-4294967296), .int .i64 5, .int .i64 4] 2)).heap[w.heap.size]? = some (.cells #[.int .i64 0, .int .i64 0, .string ⟨#[]⟩] 142) := by rw [Below.heap_alloc _ _ _ (by simp)]; exact heap_alloc_new _ _
  have n1 : ((w.alloc (.cells #[.int .i64 0, .int .i64 0, .string ⟨#[]⟩] 142)).alloc (.cells #[.int .i64 0, .int .i64 1, .int .i64 2, .int .i64 3, .int .i64 (-1), .int .i64 (-2), .int .i64 7, .int .i64 100, .int .i64 4294967296, .int .i64 (-4294967296), .int .i64 5, .int .i64 4] 2)).heap[w.heap.size + 1]? = some (.cells #[.int .i64 0, .int .i64 1, .int .i64 2, .int .i64 3, .int .i64 (-1), .int .i64 (-2), .int .i64 7, .int .i64 100, .int .i64 4294967296, .int .i64 (-4294967296), .int .i64 5, .int .i64 4] 2) := by have := heap_alloc_new (w.alloc (.cells #[.int .i64 0, .int .i64 0, .string ⟨#[]⟩] 142)) (.cells #[.int .i64 0, .int .i64 1, .int .i64 2, .int .i64 3, .int .i64 (-1), .int .i64 (-2), .int .i64 7, .int .i64 100, .int .i64 4294967296, .int .i64 (-4294967296), .int .i64 5, .int .i64 4] 2); simpa using this
  have hb : Below w.heap.size w ((w.alloc (.cells #[.int .i64 0, .int .i64 0, .string ⟨#[]⟩] 142)).alloc (.cells #[.int .i64 0, .int .i64 1, .int .i64 2, .int .i64 3, .int .i64 (-1), .int .i64 (-2), .int .i64 7, .int .i64 100, .int .i64 4294967296, .int .i64 (-4294967296), .int .i64 5, .int .i64 4] 2)) := ((Below.refl _ _).alloc (Nat.le_refl _) _).alloc (by simp) _
  have hT := Lib.hid (tookBelow h hB hb)
  have HN0 := Lib.hid n0
  have HN1 := Lib.hid n1
  have Hb := Lib.hid hb
  clear n0 n1 hb h
  go_enter Tryz.func145, Tryz.ntmps145
  go_wp2_with fail
  generalize (w.alloc (.cells #[.int .i64 0, .int .i64 0, .string ⟨#[]⟩] 142)).alloc (.cells #[.int .i64 0, .int .i64 1, .int .i64 2, .int .i64 3, .int .i64 (-1), .int .i64 (-2), .int .i64 7, .int .i64 100, .int .i64 4294967296, .int .i64 (-4294967296), .int .i64 5, .int .i64 4] 2) = wb at *
  refine (next_any B g 12 wb (by decide) (by decide) hT.out.1 hT.out.2.2).mono ?_
  rintro e w1 ⟨r, rfl, hr0, hr1, hK⟩
  have hKs := Lib.hid hK
  obtain ⟨rn, rfl⟩ : ∃ rn : Nat, r = (rn : Int) := ⟨r.toNat, by omega⟩
  have hrn : rn < 12 := by omega
  have hlt0 : w.heap.size < wb.heap.size := (Array.getElem?_eq_some_iff.1 HN0.out).1
  have hlt1 : w.heap.size + 1 < wb.heap.size := (Array.getElem?_eq_some_iff.1 HN1.out).1
  have m0 := (hK.2.1.block w.heap.size hlt0 (by simp; omega)).trans HN0.out
  have m1 := (hK.2.1.block (w.heap.size + 1) hlt1 (by simp; omega)).trans HN1.out
  obtain ⟨c0, c1, c2, f0, f1, f2⟩ := box3 m0
  obtain ⟨x0, hx, hx0⟩ := ints_at' rn hrn
  have d0 := (cell_of_row w1 (w.heap.size + 1) rn _ _ _ m1).trans hx
  have hl0 := (Array.getElem?_eq_some_iff.1 m0).1
  have hri : (rn : Int) < 12 := by omega
  have M0 := Lib.hid m0
  clear m0 m1 hx hK hr0 hr1 c0 c1 c2 f0 f1 f2 HN0 HN1
  go_wp2_with fail
  refine (rint_any x0 _).mono ?_
  rintro e w2 ⟨k, n, s1, rfl, hc, hb2⟩
  have hv : vB ⟨k, n, s1⟩ = true := by rw [hc]; exact cleanV_valid _
  have hok : (⟨k, n, s1⟩ : V).ok := by rw [hc]; exact cleanV_ok (rint_ok rn hrn x0 hx0)
  have hkd : k = 1 := by
    have hv0 : vB ⟨1, x0, ⟨#[]⟩⟩ = true := by simp [vB, validB, ByteArray.toList_eq]; omega
    rw [cleanV_idem hv0] at hc
    simp only [V.mk.injEq] at hc
    exact hc.1
  have Hkd := Lib.hid hkd
  have Hv := Lib.hid hv
  have Hok := Lib.hid hok
  obtain ⟨c0, c1, c2, f0, f1, f2⟩ := box3 ((hb2.block _ hl0).trans M0.out)
  clear hc hv hok hkd
  go_wp2_with fail
  refine bodyPost_ret (v := .agg #[.int .i64 k, .int .i64 n, .string s1]) (by simp [results, Tryz.results145, go_sem, c0, c1, c2]) rfl ⟨k, n, s1, rfl, Hv.out, Hok.out, Hkd, ?_⟩
  have hfin := ((hT.out.trans hKs.out).below hb2)
  exact ((hfin.setCell (p := ⟨w.heap.size, 0, none⟩) hB (Nat.le_refl _) _).setCell (p := ⟨w.heap.size, 1, none⟩) hB (Nat.le_refl _) _).setCell (p := ⟨w.heap.size, 2, none⟩) hB (Nat.le_refl _) _
theorem int_any (B g : Nat) (w : World) (h : TapeAt w B g) (hB : B ≤ w.heap.size) :
    Calls Tryz.prog 145 #[.pointer (some ⟨g, 0, none⟩)] w (ValPost w B g) := (int_anyK B g w h hB).mono fun _ _ h => h.val

theorem value_start (w : World) (B g : Nat) (h : TapeAt w B g) (hB : B ≤ w.heap.size) : Took w B g (w.alloc (.cells #[.int .i64 0, .int .i64 0, .string ⟨#[]⟩] 142)) := tookBelow h hB ((Below.refl _ _).alloc (Nat.le_refl _) _)
theorem tvalue_any (B g : Nat) (w : World) (h : TapeAt w B g) (hB : B ≤ w.heap.size) :
    Calls Tryz.prog 115 #[.pointer (some ⟨g, 0, none⟩)] w (ValPost w B g) := by
  have hgB : g < B := by obtain ⟨_, _, _, _, _, _, _, hg, _⟩ := h; exact hg
  have n0 : (w.alloc (.cells #[.int .i64 0, .int .i64 0, .string ⟨#[]⟩] 142)).heap[w.heap.size]? = some (.cells #[.int .i64 0, .int .i64 0, .string ⟨#[]⟩] 142) := heap_alloc_new _ _
  have hT := Lib.hid (value_start w B g h hB)
  have HN0 := Lib.hid n0
  clear n0 h
  go_enter Tryz.func115, Tryz.ntmps115
  go_wp2_with fail
  generalize w.alloc (.cells #[.int .i64 0, .int .i64 0, .string ⟨#[]⟩] 142) = wb at *
  refine (next_any B g 5 wb (by decide) (by decide) hT.out.1 hT.out.2.2).mono ?_
  rintro e w1 ⟨r, rfl, hr0, hr1, hK⟩
  have hKs := Lib.hid hK
  have hlt0 : w.heap.size < wb.heap.size := (Array.getElem?_eq_some_iff.1 HN0.out).1
  have m0 := (hK.2.1.block w.heap.size hlt0 (by simp; omega)).trans HN0.out
  have M0 := Lib.hid m0
  clear hK HN0 m0
  have hfin0 : Took w B g w1 := hT.out.trans hKs.out
  have HF := Lib.hid hfin0
  clear hfin0 hT hKs
  by_cases h0 : r = 0
  · subst h0
    obtain ⟨c0, c1, c2, f0, f1, f2⟩ := box3 M0.out
    go_wp2_with fail
    refine bodyPost_ret (v := .agg #[.int .i64 0, .int .i64 0, .string ⟨#[]⟩]) (by simp [results, Tryz.results115, go_sem, c0, c1, c2]) rfl ⟨0, 0, ⟨#[]⟩, rfl, by simp [vB, validB], ⟨by simp, by simp, by simp [maxLen, ByteArray.size]⟩, ?_⟩
    exact ((HF.out.setCell (p := ⟨w.heap.size, 0, none⟩) hB (Nat.le_refl _) _).setCell (p := ⟨w.heap.size, 1, none⟩) hB (Nat.le_refl _) _).setCell (p := ⟨w.heap.size, 2, none⟩) hB (Nat.le_refl _) _
  · have hcases : (r = 1 ∨ r = 2) ∨ (r = 3 ∨ r = 4) := by omega
    clear hr0 hr1 h0
    rcases hcases with (rfl | rfl) | (rfl | rfl)
    all_goals
      go_wp2_with fail
      first | refine (text_any B g _ HF.out.1 HF.out.2.2).mono ?_ | refine (int_any B g _ HF.out.1 HF.out.2.2).mono ?_
      rintro e w2 ⟨k, n, s1, rfl, hv, hok, hK2⟩
      have Hv := Lib.hid hv
      have Hok := Lib.hid hok
      have hl0 := (Array.getElem?_eq_some_iff.1 M0.out).1
      obtain ⟨c0, c1, c2, f0, f1, f2⟩ := box3 ((hK2.2.1.block w.heap.size hl0 (by simp; omega)).trans M0.out)
      have HK2 := Lib.hid hK2
      clear hv hok hK2
      go_wp2_with fail
      refine bodyPost_ret (v := .agg #[.int .i64 k, .int .i64 n, .string s1]) (by simp [results, Tryz.results115, go_sem, c0, c1, c2]) rfl ⟨k, n, s1, rfl, Hv.out, Hok.out, ?_⟩
      have hfin := HF.out.trans HK2.out
      exact ((hfin.setCell (p := ⟨w.heap.size, 0, none⟩) hB (Nat.le_refl _) _).setCell (p := ⟨w.heap.size, 1, none⟩) hB (Nat.le_refl _) _).setCell (p := ⟨w.heap.size, 2, none⟩) hB (Nat.le_refl _) _

/-- The cells of a list of values, one after the other. -/
def valCells (l : List V) : List Value := l.flatMap fun v => [.int .i64 v.k, .int .i64 v.n, .string v.s]
theorem valCells_len (l : List V) : (valCells l).length = l.length * 3 := by
  unfold valCells
  induction l with
  | nil => rfl
  | cons a l ih => simp only [List.flatMap_cons, List.length_append, List.length_cons, List.length_nil, ih]; omega
theorem valCells_snoc (l : List V) (v : V) : valCells (l ++ [v]) = valCells l ++ [.int .i64 v.k, .int .i64 v.n, .string v.s] := by simp [valCells]
theorem valCells_at : ∀ (l : List V) (i : Nat) (h : i < l.length), (valCells l)[i * 3]? = some (.int .i64 l[i].k) ∧ (valCells l)[i * 3 + 1]? = some (.int .i64 l[i].n) ∧ (valCells l)[i * 3 + 2]? = some (.string l[i].s)
  | v :: l, 0, _ => by simp [valCells]
  | v :: l, i + 1, h => by
    have ih := valCells_at l i (by simpa using h)
    have e : valCells (v :: l) = [.int .i64 v.k, .int .i64 v.n, .string v.s] ++ valCells l := by simp [valCells]
    have e1 : (i + 1) * 3 = 3 + i * 3 := by omega
    rw [e, e1]
    have e2 : ∀ j, ([.int .i64 v.k, .int .i64 v.n, .string v.s] ++ valCells l)[3 + i * 3 + j]? = (valCells l)[i * 3 + j]? := fun j => by
      rw [List.getElem?_append_right (by simp; omega)]
      congr 1
      simp; omega
    have e3 := e2 0
    simp only [Nat.add_zero] at e3
    rw [e3, e2 1, e2 2]
    simpa using ih
/-- An owned row of values. -/
def OwnsV (w : World) (B : Nat) (v : Value) (l : List V) : Prop := w.ownsRow B 142 3 v l.length (valCells l)
theorem OwnsV.nil (w : World) (B : Nat) : OwnsV w B (.slice none 0 0) [] := World.ownsRow_nil _ _ _ _
theorem OwnsV.rowAt {w : World} {B : Nat} {v : Value} {l : List V} (h : OwnsV w B v l) (hok : ∀ x ∈ l, x.ok) : ∃ ao cap, v = .slice ao l.length cap ∧ RowAt w w.heap.size ao l ∧ (∀ b o, ao = some ⟨b, o, none⟩ → B ≤ b) ∧ (ao = none → cap = 0) := by
  rcases h.2 with ⟨rfl, h0⟩ | ⟨g, cap, cur, rfl, hb, hg, hn, hm, hs, ht⟩
  · have : l = [] := List.eq_nil_of_length_eq_zero h0
    subst this
    exact ⟨none, 0, rfl, ⟨hok, .inl rfl⟩, fun _ _ h => by simp at h, fun _ => rfl⟩
  · refine ⟨_, _, rfl, ⟨hok, .inr ⟨g, 0, rfl, (Array.getElem?_eq_some_iff.1 hg).1, fun i hi => ?_⟩⟩, fun b o h => by simp at h; omega, fun h => by simp at h⟩
    obtain ⟨e0, e1, e2⟩ := valCells_at l i hi
    have c0 := World.ownsRow.cells h (g := g) rfl _ _ e0
    have c1 := World.ownsRow.cells h (g := g) rfl _ _ e1
    have c2 := World.ownsRow.cells h (g := g) rfl _ _ e2
    rw [Go.WideShapes.add_plain] at c0 c1 c2
    exact ⟨c0, by simpa [Nat.add_assoc] using c1, by simpa [Nat.add_assoc] using c2⟩
theorem infoV : (Tryz.prog.info? 142).map (fun i => (i.zero, i.size, i.bytes)) = some (some (.agg #[.int .i64 0, .int .i64 0, .string ⟨#[]⟩]), 3, 32) := by kernel_rfl
/-- What an append of one value leaves. -/
def AppV (w0 : World) (B : Nat) (v : Value) (l : List V) (K : Value → World → Prop) : Prop :=
  ∀ l' g' cap w', Hid (l' = l) → OwnsV w' B (.slice (some ⟨g', 0, none⟩) l'.length cap) l' → Away v.ownBlock w0 w' → Below B w0 w' → (v.ownBlock = some g' ∨ w0.heap.size ≤ g') → g' < w'.heap.size →
    K (.slice (some ⟨g', 0, none⟩) l'.length cap) w'

theorem RowAt.away {w w' : World} {B : Nat} {ao : Option Addr} {l : List V} {r : Option Nat} (h : RowAt w B ao l) (ha : Away r w w') (hB : B ≤ w.heap.size) (hr : ∀ b o, ao = some ⟨b, o, none⟩ → some b ≠ r) : RowAt w' B ao l := by
  refine ⟨h.1, ?_⟩
  rcases h.2 with h0 | ⟨b, off, e, hlt, hc⟩
  · exact .inl h0
  · refine .inr ⟨b, off, e, hlt, fun i hi => ?_⟩
    obtain ⟨c0, c1, c2⟩ := hc i hi
    have hb : b < w.heap.size := by omega
    exact ⟨(ha.cell (a := ⟨b, off + i * 3, none⟩) hb (hr b off e)).trans c0, (ha.cell (a := ⟨b, off + i * 3 + 1, none⟩) hb (hr b off e)).trans c1, (ha.cell (a := ⟨b, off + i * 3 + 2, none⟩) hb (hr b off e)).trans c2⟩
theorem valCells_app (a b : List V) : valCells (a ++ b) = valCells a ++ valCells b := by simp [valCells]
theorem valCells_get {l : List V} {j : Nat} {u : Value} (h : (valCells l)[j]? = some u) : ∃ i r, i < l.length ∧ j = i * 3 + r ∧ r < 3 := by
  have := (List.getElem?_eq_some_iff.1 h).1
  rw [valCells_len] at this
  exact ⟨j / 3, j % 3, by omega, by omega, by omega⟩
end Go.Proofs.YtenonljnldbkiaaGreatDoor
/- What all laws of expressions call: plus, awake (it returns true). -/
namespace Go.Proofs.YtenonljnldbkiaaGreatDoor
open Go.RowKit Go.Proofs.EB
set_option maxHeartbeats 4000000
set_option maxRecDepth 100000
attribute [local go_sem] World.cell?_alloc_some

/-- A block that the walk has laid, as a row. -/
theorem rAt_block {α : Type} {enc : α → List Value} {m : Nat} (hm : ∀ a, (enc a).length = m) {w : World} {g : Nat} {T : TypeId} {C : Array Value} {l : List α} (hg : w.heap[g]? = some (.cells C T (0, 0))) (hC : C.toList = cellsL enc l) : RAt enc m w w.heap.size (some ⟨g, 0, none⟩) l := by
  refine .inr ⟨g, 0, rfl, (Array.getElem?_eq_some_iff.1 hg).1, fun i hi j u hu => ?_⟩
  have h1 := cellsL_at hm l i hi j u hu
  rw [← hC] at h1
  simp only [World.cell?, hg, Nat.zero_add]
  simpa using h1
theorem encStr_len (s : ByteArray) : (encStr s).length = 1 := rfl
theorem rint_is (n : Int) (hn : -4294967296 ≤ n ∧ n ≤ 4294967296) (w : World) : Calls Tryz.prog 165 #[.int .i64 n] w (Gives (.agg #[.int .i64 1, .int .i64 n, .string ⟨#[]⟩]) w) := by
  refine (rint_any n w).mono ?_
  rintro e w1 ⟨k, n1, s, rfl, hc, hb⟩
  have hv : vB ⟨1, n, ⟨#[]⟩⟩ = true := by simp [vB, validB]; omega
  rw [cleanV_idem hv] at hc
  simp only [V.mk.injEq] at hc
  obtain ⟨rfl, rfl, rfl⟩ := hc
  exact ⟨rfl, hb⟩
/-- A call that gives a row of terms. -/
def GivesT (l : List Tm) (w : World) (e : Ending) (w' : World) : Prop := ∃ ao cap, e = .returned (.slice ao l.length cap) ∧ TmsAt w' w'.heap.size ao l ∧ Below w.heap.size w w'
def plusL : List Tm := [⟨4, ⟨0, 0, ⟨#[]⟩⟩, 0⟩, ⟨2, ⟨0, 0, ⟨#[]⟩⟩, 0⟩, ⟨1, ⟨1, 1, ⟨#[]⟩⟩, 0⟩]
theorem plusL_len : plusL.length = 3 := rfl
def plusX : Ex := .x2 ⟨4, ⟨0, 0, ⟨#[]⟩⟩, 0⟩ (.x0 ⟨2, ⟨0, 0, ⟨#[]⟩⟩, 0⟩) (.x0 ⟨1, ⟨1, 1, ⟨#[]⟩⟩, 0⟩)
theorem plusX_head : Head plusL plusX [] := by
  refine ⟨rfl, ?_⟩
  have z : zeroB ⟨0, 0, ⟨#[]⟩⟩ = true := by unfold zeroB; rw [toList_nil]; rfl
  have v : vB ⟨1, 1, ⟨#[]⟩⟩ = true := by unfold vB validB; rw [if_neg (by decide), if_pos rfl, toList_nil]; rfl
  refine ⟨?_, rfl, ⟨?_, rfl⟩, ⟨?_, rfl⟩⟩
  · unfold termB fieldsB; rw [if_neg (by decide), if_neg (by decide), z]; rfl
  · unfold termB fieldsB; rw [if_neg (by decide), if_pos rfl, z]; rfl
  · unfold termB fieldsB; rw [if_pos rfl, v]; rfl
theorem plus_tree : treeL plusL = some plusX := treeL_of plusX_head (by decide) (by decide)
theorem plus_valid : validL plusL = true := validL_iff.2 ⟨plusX, plusX_head, by decide, by decide⟩
theorem int_valid {n : Int} (h : -4294967296 ≤ n ∧ n ≤ 4294967296) : vB ⟨1, n, ⟨#[]⟩⟩ = true := by simp [vB, validB]; omega
theorem nullB_int (n : Int) : nullB ⟨1, n, ⟨#[]⟩⟩ = false := by unfold nullB zeroB; rfl
theorem nullB_zero : nullB V.zero = true := by unfold nullB zeroB V.zero; rw [toList_nil]; rfl
theorem plus_eval4 : evalL cmpV plusL [⟨1, 4, ⟨#[]⟩⟩] = ⟨1, 5, ⟨#[]⟩⟩ := by
  unfold evalL
  rw [plus_tree]
  have c : cleanV ⟨1, 4, ⟨#[]⟩⟩ = ⟨1, 4, ⟨#[]⟩⟩ := cleanV_idem (int_valid (by decide))
  have c5 : intVV (4 + 1) = ⟨1, 5, ⟨#[]⟩⟩ := cleanV_idem (int_valid (by decide))
  show appV cmpV 4 [colV [⟨1, 4, ⟨#[]⟩⟩] 0, ⟨1, 1, ⟨#[]⟩⟩] = _
  have e : colV [⟨1, 4, ⟨#[]⟩⟩] 0 = ⟨1, 4, ⟨#[]⟩⟩ := by unfold colV; exact c
  rw [e]
  simp only [appV, strictV, numV, nullB_int]
  simpa using c5
theorem plus_evalN : evalL cmpV plusL [⟨0, 0, ⟨#[]⟩⟩] = ⟨0, 0, ⟨#[]⟩⟩ := by
  unfold evalL
  rw [plus_tree]
  show appV cmpV 4 [colV [⟨0, 0, ⟨#[]⟩⟩] 0, ⟨1, 1, ⟨#[]⟩⟩] = _
  have e : colV [⟨0, 0, ⟨#[]⟩⟩] 0 = V.zero := by unfold colV; exact clean_zero
  rw [e]
  simp only [appV, nullB_zero]
  rfl
theorem plus_format : formatL [⟨#[110]⟩] plusL = [97, 100, 100, 40, 110, 44, 32, 49, 41] := by
  unfold formatL
  rw [plus_tree]
  have e : Lib.itoa 1 = [49] := by unfold Lib.itoa; simp [Lib.decDigits]
  show fmtT [⟨#[110]⟩] ⟨4, ⟨0, 0, ⟨#[]⟩⟩, 0⟩ [[110], fmtV ⟨1, 1, ⟨#[]⟩⟩] = _
  have e2 : fmtV ⟨1, 1, ⟨#[]⟩⟩ = [49] := by unfold fmtV; rw [if_pos rfl]; exact e
  rw [e2]
  rfl
theorem plus_ok : ∀ t ∈ plusL, t.okT := by
  intro t ht
  simp only [plusL, List.mem_cons, List.not_mem_nil, or_false] at ht
  rcases ht with rfl | rfl | rfl <;> refine ⟨⟨by decide, by decide⟩, ⟨⟨by decide, by decide⟩, ⟨by decide, by decide⟩, by simp [maxLen, ByteArray.size]⟩, ⟨by decide, by decide⟩⟩
theorem pv_any (g : Nat) (w : World) (hO : Ops w) (hT : TmsAt w w.heap.size (some ⟨g, 0, none⟩) plusL) : Calls Tryz.prog 183 #[.slice (some ⟨g, 0, none⟩) 3 3] w (Gives (.bool true) w) := by
  have h := exValid_any (some ⟨g, 0, none⟩) 3 plusL (by simp [plusL_len, maxLen]) plus_ok w hO hT
  rw [plus_valid] at h
  exact h
end Go.Proofs.YtenonljnldbkiaaGreatDoor
