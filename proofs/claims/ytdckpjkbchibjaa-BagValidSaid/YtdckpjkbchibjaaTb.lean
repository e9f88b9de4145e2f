/- Contracts of the tape's Text, Int, Value and Row: each gives valid values, whatever the numbers are. -/
import Derived.Test.YtdckpjkbchibjaaTa
import Derived.Laws.AppendOwnNone
namespace Go.Proofs.Ytdckpjkbchibjaa
open Go.RowKit Go.Proofs.EB
set_option maxHeartbeats 1000000
attribute [local go_sem] World.cell?_alloc_some

theorem rtext_any (s : ByteArray) (w : World) (hs : s.size ≤ maxLen) :
    Calls Try.prog 51 #[.string s] w (CleanPost ⟨2, 0, s⟩ w) := by
  go_enter Try.func51, Try.ntmps51
  go_wp2_with fail
  refine (rclean_any _ _ _ _ hs).mono ?_
  rintro e w1 ⟨k, n, s1, rfl, hc, hb⟩
  have Hc := Lib.hid hc
  have hb1 := below_old2 hb
  obtain ⟨c0, c1, c2, f0, f1, f2⟩ := box3 (below_new (by simpa using hb))
  clear hc hb
  go_wp2_with fail
  refine bodyPost_ret (v := .agg #[.int .i64 k, .int .i64 n, .string s1]) (by simp [results, Try.results51, go_sem, c0, c1, c2]) rfl ⟨k, n, s1, rfl, Hc.out, ?_⟩
  exact ((hb1.setCell (by simp) _).setCell (by simp) _).setCell (by simp) _

theorem rint_any (n0 : Int) (w : World) :
    Calls Try.prog 30 #[.int .i64 n0] w (CleanPost ⟨1, n0, ⟨#[]⟩⟩ w) := by
  go_enter Try.func30, Try.ntmps30
  go_wp2_with fail
  refine (rclean_any _ _ _ _ (by simp [maxLen, ByteArray.size])).mono ?_
  rintro e w1 ⟨k, n, s1, rfl, hc, hb⟩
  have Hc := Lib.hid hc
  have hb1 := below_old2 hb
  obtain ⟨c0, c1, c2, f0, f1, f2⟩ := box3 (below_new (by simpa using hb))
  clear hc hb
  go_wp2_with fail
  refine bodyPost_ret (v := .agg #[.int .i64 k, .int .i64 n, .string s1]) (by simp [results, Try.results30, go_sem, c0, c1, c2]) rfl ⟨k, n, s1, rfl, Hc.out, ?_⟩
  exact ((hb1.setCell (by simp) _).setCell (by simp) _).setCell (by simp) _

/-- A call of the tape that gives a valid value. -/
def ValPost (w : World) (B g : Nat) (e : Ending) (w' : World) : Prop := ∃ k n s, e = .returned (.agg #[.int .i64 k, .int .i64 n, .string s]) ∧ vB ⟨k, n, s⟩ = true ∧ (⟨k, n, s⟩ : V).ok ∧ Took w B g w'
/-- The same, of a kind. -/
def ValPostK (kd : Int) (w : World) (B g : Nat) (e : Ending) (w' : World) : Prop := ∃ k n s, e = .returned (.agg #[.int .i64 k, .int .i64 n, .string s]) ∧ vB ⟨k, n, s⟩ = true ∧ (⟨k, n, s⟩ : V).ok ∧ Hid (k = kd) ∧ Took w B g w'
theorem ValPostK.val {kd : Int} {w : World} {B g : Nat} {e : Ending} {w' : World} (h : ValPostK kd w B g e w') : ValPost w B g e w' := by
  obtain ⟨k, n, s, h1, h2, h3, _, h4⟩ := h
  exact ⟨k, n, s, h1, h2, h3, h4⟩
theorem tookBelow {w w1 : World} {B g : Nat} (h : TapeAt w B g) (hB : B ≤ w.heap.size) (hb : Below w.heap.size w w1) : Took w B g w1 := ⟨h.below hb hB, away_weak hb, Nat.le_trans hB hb.size⟩
theorem Took.trans {w w1 w2 : World} {B g : Nat} (h : Took w B g w1) (k : Took w1 B g w2) : Took w B g w2 := ⟨k.1, away_trans h.2.1 k.2.1, k.2.2⟩
theorem Took.below {w w1 w2 : World} {B g : Nat} (h : Took w B g w1) (hb : Below w1.heap.size w1 w2) : Took w B g w2 := h.trans (tookBelow h.1 h.2.2 hb)
theorem Took.start {w w0 w1 : World} {B g : Nat} (h : Took w0 B g w1) (hb : Below w.heap.size w w0) : Took w B g w1 := ⟨h.1, away_trans (away_weak hb) h.2.1, h.2.2⟩
theorem Took.fresh {w w1 w2 : World} {B g : Nat} {r : Option Nat} (h : Took w B g w1) (ha : Away r w1 w2) (hr : ∀ k, r = some k → B ≤ k ∧ w.heap.size ≤ k) : Took w B g w2 :=
  ⟨h.1.away ha (fun k hk => (hr k hk).1) h.2.2, ⟨ha.os.trans h.2.1.os, ha.tape.trans h.2.1.tape, ha.output.trans h.2.1.output, Nat.le_trans h.2.1.size ha.size, fun k hk hne => (ha.block k (Nat.lt_of_lt_of_le hk h.2.1.size) (fun e => by have := (hr k e.symm).2; omega)).trans (h.2.1.block k hk hne)⟩, Nat.le_trans h.2.2 ha.size⟩
/-- A store into a block of the call's own, from B on. -/
theorem Took.setCell {w w1 : World} {B g : Nat} (h : Took w B g w1) {p : Addr} (hp : B ≤ p.block) (hw : w.heap.size ≤ p.block) (u : Value) : Took w B g (w1.setCell p u) := by
  refine ⟨h.1.away (away_setCell w1 p u) (fun k hk => by simp at hk; omega) h.2.2, ⟨h.2.1.os, h.2.1.tape, h.2.1.output, by have := h.2.1.size; simpa [World.setCell] using this, fun k hk hne => ?_⟩, by have := h.2.2; simpa [World.setCell] using this⟩
  rw [Below.heap_setCell _ _ _ _ (by omega)]
  exact h.2.1.block k hk hne
theorem texts_at : ∀ i, i < 10 → ∃ s : ByteArray, (#[.string ⟨#[97]⟩, .string ⟨#[98]⟩, .string ⟨#[]⟩, .string ⟨#[97, 98]⟩, .string ⟨#[97, 32, 98]⟩, .string ⟨#[120, 0, 121]⟩, .string ⟨#[255, 34, 92]⟩, .string ⟨#[98, 32, 97, 32, 98]⟩, .string ⟨#[108, 111, 110, 103, 32, 116, 101, 120, 116, 32, 111, 102, 32, 116, 104, 105, 114, 116, 121, 45, 116, 119, 111, 32, 98, 121, 116, 101, 115, 32, 105, 116]⟩, .string ⟨#[66]⟩] : Array Value)[i]? = some (.string s) ∧ s.size ≤ 32 := by
  intro i hi
  match i, hi with
  | 0, _ => exact ⟨_, rfl, by decide⟩
  | 1, _ => exact ⟨_, rfl, by decide⟩
  | 2, _ => exact ⟨_, rfl, by decide⟩
  | 3, _ => exact ⟨_, rfl, by decide⟩
  | 4, _ => exact ⟨_, rfl, by decide⟩
  | 5, _ => exact ⟨_, rfl, by decide⟩
  | 6, _ => exact ⟨_, rfl, by decide⟩
  | 7, _ => exact ⟨_, rfl, by decide⟩
  | 8, _ => exact ⟨_, rfl, by decide⟩
  | 9, _ => exact ⟨_, rfl, by decide⟩
theorem rint_ok (i : Nat) (_hi : i < 12) (x : Int) (hx : -4294967296 ≤ x ∧ x ≤ 4294967296) : (⟨1, x, ⟨#[]⟩⟩ : V).ok := ⟨by simp, by simp only; omega, by simp [maxLen, ByteArray.size]⟩
theorem ints_at' : ∀ i, i < 12 → ∃ x : Int, (#[.int .i64 0, .int .i64 1, .int .i64 2, .int .i64 3, .int .i64 (-1), .int .i64 (-2), .int .i64 7, .int .i64 100, .int .i64 4294967296, .int .i64 (-4294967296), .int .i64 5, .int .i64 4] : Array Value)[i]? = some (.int .i64 x) ∧ -4294967296 ≤ x ∧ x ≤ 4294967296 := by
  intro i hi
  match i, hi with
  | 0, _ => exact ⟨_, rfl, by decide, by decide⟩
  | 1, _ => exact ⟨_, rfl, by decide, by decide⟩
  | 2, _ => exact ⟨_, rfl, by decide, by decide⟩
  | 3, _ => exact ⟨_, rfl, by decide, by decide⟩
  | 4, _ => exact ⟨_, rfl, by decide, by decide⟩
  | 5, _ => exact ⟨_, rfl, by decide, by decide⟩
  | 6, _ => exact ⟨_, rfl, by decide, by decide⟩
  | 7, _ => exact ⟨_, rfl, by decide, by decide⟩
  | 8, _ => exact ⟨_, rfl, by decide, by decide⟩
  | 9, _ => exact ⟨_, rfl, by decide, by decide⟩
  | 10, _ => exact ⟨_, rfl, by decide, by decide⟩
  | 11, _ => exact ⟨_, rfl, by decide, by decide⟩
set_option maxRecDepth 10000 in
theorem text_anyK (B g : Nat) (w : World) (h : TapeAt w B g) (hB : B ≤ w.heap.size) :
    Calls Try.prog 59 #[.pointer (some ⟨g, 0, none⟩)] w (ValPostK 2 w B g) := by
  have hgB : g < B := by obtain ⟨_, _, _, _, _, _, _, hg, _⟩ := h; exact hg
  have n0 : ((w.alloc (.cells #[.int .i64 0, .int .i64 0, .string ⟨#[]⟩] 42)).alloc (.cells #[.string ⟨#[97]⟩, .string ⟨#[98]⟩, .string ⟨#[]⟩, .string ⟨#[97, 98]⟩, .string ⟨#[97, 32, 98]⟩, .string ⟨#[120, 0, 121]⟩, .string ⟨#[255, 34, 92]⟩, .string ⟨#[98, 32, 97, 32, 98]⟩, .string ⟨#[108, 111, 110, 103, 32, 116, 101, 120, 116, 32, 111, 102, 32, 116, 104, 105, 114, 116, 121, 45, 116, 119, 111, 32, 98, 121, 116, 101, 115, 32, 105, 116]⟩, .string ⟨#[66]⟩] 9)).heap[w.heap.size]? = some (.cells #[.int .i64 0, .int .i64 0, .string ⟨#[]⟩] 42) := by rw [Below.heap_alloc _ _ _ (by simp)]; exact heap_alloc_new _ _
  have n1 : ((w.alloc (.cells #[.int .i64 0, .int .i64 0, .string ⟨#[]⟩] 42)).alloc (.cells #[.string ⟨#[97]⟩, .string ⟨#[98]⟩, .string ⟨#[]⟩, .string ⟨#[97, 98]⟩, .string ⟨#[97, 32, 98]⟩, .string ⟨#[120, 0, 121]⟩, .string ⟨#[255, 34, 92]⟩, .string ⟨#[98, 32, 97, 32, 98]⟩, .string ⟨#[108, 111, 110, 103, 32, 116, 101, 120, 116, 32, 111, 102, 32, 116, 104, 105, 114, 116, 121, 45, 116, 119, 111, 32, 98, 121, 116, 101, 115, 32, 105, 116]⟩, .string ⟨#[66]⟩] 9)).heap[w.heap.size + 1]? = some (.cells #[.string ⟨#[97]⟩, .string ⟨#[98]⟩, .string ⟨#[]⟩, .string ⟨#[97, 98]⟩, .string ⟨#[97, 32, 98]⟩, .string ⟨#[120, 0, 121]⟩, .string ⟨#[255, 34, 92]⟩, .string ⟨#[98, 32, 97, 32, 98]⟩, .string ⟨#[108, 111, 110, 103, 32, 116, 101, 120, 116, 32, 111, 102, 32, 116, 104, 105, 114, 116, 121, 45, 116, 119, 111, 32, 98, 121, 116, 101, 115, 32, 105, 116]⟩, .string ⟨#[66]⟩] 9) := by have := heap_alloc_new (w.alloc (.cells #[.int .i64 0, .int .i64 0, .string ⟨#[]⟩] 42)) (.cells #[.string ⟨#[97]⟩, .string ⟨#[98]⟩, .string ⟨#[]⟩, .string ⟨#[97, 98]⟩, .string ⟨#[97, 32, 98]⟩, .string ⟨#[120, 0, 121]⟩, .string ⟨#[255, 34, 92]⟩, .string ⟨#[98, 32, 97, 32, 98]⟩, .string ⟨#[108, 111, 110, 103, 32, 116, 101, 120, 116, 32, 111, 102, 32, 116, 104, 105, 114, 116, 121, 45, 116, 119, 111, 32, 98, 121, 116, 101, 115, 32, 105, 116]⟩, .string ⟨#[66]⟩] 9); simpa using this
  have hb : Below w.heap.size w ((w.alloc (.cells #[.int .i64 0, .int .i64 0, .string ⟨#[]⟩] 42)).alloc (.cells #[.string ⟨#[97]⟩, .string ⟨#[98]⟩, .string ⟨#[]⟩, .string ⟨#[97, 98]⟩, .string ⟨#[97, 32, 98]⟩, .string ⟨#[120, 0, 121]⟩, .string ⟨#[255, 34, 92]⟩, .string ⟨#[98, 32, 97, 32, 98]⟩, .string ⟨#[108, 111, 110, 103, 32, 116, 101, 120, 116, 32, 111, 102, 32, 116, 104, 105, 114, 116, 121, 45, 116, 119, 111, 32, 98, 121, 116, 101, 115, 32, 105, 116]⟩, .string ⟨#[66]⟩] 9)) := ((Below.refl _ _).alloc (Nat.le_refl _) _).alloc (by simp) _
  have hT := Lib.hid (tookBelow h hB hb)
  have HN0 := Lib.hid n0
  have HN1 := Lib.hid n1
  have Hb := Lib.hid hb
  clear n0 n1 hb h
  go_enter Try.func59, Try.ntmps59
  go_wp2_with fail
  generalize (w.alloc (.cells #[.int .i64 0, .int .i64 0, .string ⟨#[]⟩] 42)).alloc (.cells #[.string ⟨#[97]⟩, .string ⟨#[98]⟩, .string ⟨#[]⟩, .string ⟨#[97, 98]⟩, .string ⟨#[97, 32, 98]⟩, .string ⟨#[120, 0, 121]⟩, .string ⟨#[255, 34, 92]⟩, .string ⟨#[98, 32, 97, 32, 98]⟩, .string ⟨#[108, 111, 110, 103, 32, 116, 101, 120, 116, 32, 111, 102, 32, 116, 104, 105, 114, 116, 121, 45, 116, 119, 111, 32, 98, 121, 116, 101, 115, 32, 105, 116]⟩, .string ⟨#[66]⟩] 9) = wb at *
  refine (next_any B g 10 wb (by decide) (by decide) hT.out.1 hT.out.2.2).mono ?_
  rintro e w1 ⟨r, rfl, hr0, hr1, hK⟩
  have hKs := Lib.hid hK
  obtain ⟨rn, rfl⟩ : ∃ rn : Nat, r = (rn : Int) := ⟨r.toNat, by omega⟩
  have hrn : rn < 10 := by omega
  have hlt0 : w.heap.size < wb.heap.size := (Array.getElem?_eq_some_iff.1 HN0.out).1
  have hlt1 : w.heap.size + 1 < wb.heap.size := (Array.getElem?_eq_some_iff.1 HN1.out).1
  have m0 := (hK.2.1.block w.heap.size hlt0 (by simp; omega)).trans HN0.out
  have m1 := (hK.2.1.block (w.heap.size + 1) hlt1 (by simp; omega)).trans HN1.out
  obtain ⟨c0, c1, c2, f0, f1, f2⟩ := box3 m0
  obtain ⟨s0, hx, hs0⟩ := texts_at rn hrn
  have d0 := (cell_of_row w1 (w.heap.size + 1) rn _ _ _ m1).trans hx
  have hl0 := (Array.getElem?_eq_some_iff.1 m0).1
  have hri : (rn : Int) < 10 := by omega
  have M0 := Lib.hid m0
  clear m0 m1 hx hK hr0 hr1 c0 c1 c2 f0 f1 f2 HN0 HN1
  go_wp2_with fail
  refine (rtext_any s0 _ (by unfold maxLen; omega)).mono ?_
  rintro e w2 ⟨k, n, s1, rfl, hc, hb2⟩
  have hv : vB ⟨k, n, s1⟩ = true := by rw [hc]; exact cleanV_valid _
  have hok : (⟨k, n, s1⟩ : V).ok := by rw [hc]; exact cleanV_ok (⟨by simp, by simp, by show s0.size ≤ maxLen; unfold maxLen; omega⟩)
  have hkd : k = 2 := by
    have hv0 : vB ⟨2, 0, s0⟩ = true := by simp [vB, validB]; omega
    rw [cleanV_idem hv0] at hc
    simp only [V.mk.injEq] at hc
    exact hc.1
  have Hkd := Lib.hid hkd
  have Hv := Lib.hid hv
  have Hok := Lib.hid hok
  obtain ⟨c0, c1, c2, f0, f1, f2⟩ := box3 ((hb2.block _ hl0).trans M0.out)
  clear hc hv hok hkd
  go_wp2_with fail
  refine bodyPost_ret (v := .agg #[.int .i64 k, .int .i64 n, .string s1]) (by simp [results, Try.results59, go_sem, c0, c1, c2]) rfl ⟨k, n, s1, rfl, Hv.out, Hok.out, Hkd, ?_⟩
  have hfin := ((hT.out.trans hKs.out).below hb2)
  exact ((hfin.setCell (p := ⟨w.heap.size, 0, none⟩) hB (Nat.le_refl _) _).setCell (p := ⟨w.heap.size, 1, none⟩) hB (Nat.le_refl _) _).setCell (p := ⟨w.heap.size, 2, none⟩) hB (Nat.le_refl _) _
theorem text_any (B g : Nat) (w : World) (h : TapeAt w B g) (hB : B ≤ w.heap.size) :
    Calls Try.prog 59 #[.pointer (some ⟨g, 0, none⟩)] w (ValPost w B g) := (text_anyK B g w h hB).mono fun _ _ h => h.val

set_option maxRecDepth 10000 in
theorem int_anyK (B g : Nat) (w : World) (h : TapeAt w B g) (hB : B ≤ w.heap.size) :
    Calls Try.prog 60 #[.pointer (some ⟨g, 0, none⟩)] w (ValPostK 1 w B g) := by
  have hgB : g < B := by obtain ⟨_, _, _, _, _, _, _, hg, _⟩ := h; exact hg
  have n0 : ((w.alloc (.cells #[.int .i64 0, .int .i64 0, .string ⟨#[]⟩] 42)).alloc (.cells #[.int .i64 0, .int .i64 1, .int .i64 2, .int .i64 3, .int .i64 (-1), .int .i64 (-2), .int .i64 7, .int .i64 100, .int .i64 4294967296, .int .i64 (-4294967296), .int .i64 5, .int .i64 4] 2)).heap[w.heap.size]? = some (.cells #[.int .i64 0, .int .i64 0, .string ⟨#[]⟩] 42) := by rw [Below.heap_alloc _ _ _ (by simp)]; exact heap_alloc_new _ _
  have n1 : ((w.alloc (.cells #[.int .i64 0, .int .i64 0, .string ⟨#[]⟩] 42)).alloc (.cells #[.int .i64 0, .int .i64 1, .int .i64 2, .int .i64 3, .int .i64 (-1), .int .i64 (-2), .int .i64 7, .int .i64 100, .int .i64 4294967296, .int .i64 (-4294967296), .int .i64 5, .int .i64 4] 2)).heap[w.heap.size + 1]? = some (.cells #[.int .i64 0, .int .i64 1, .int .i64 2, .int .i64 3, .int .i64 (-1), .int .i64 (-2), .int .i64 7, .int .i64 100, .int .i64 4294967296, .int .i64 (-4294967296), .int .i64 5, .int .i64 4] 2) := by have := heap_alloc_new (w.alloc (.cells #[.int .i64 0, .int .i64 0, .string ⟨#[]⟩] 42)) (.cells #[.int .i64 0, .int .i64 1, .int .i64 2, .int .i64 3, .int .i64 (-1), .int .i64 (-2), .int .i64 7, .int .i64 100, .int .i64 4294967296, .int .i64 (-4294967296), .int .i64 5, .int .i64 4] 2); simpa using this
  have hb : Below w.heap.size w ((w.alloc (.cells #[.int .i64 0, .int .i64 0, .string ⟨#[]⟩] 42)).alloc (.cells #[.int .i64 0, .int .i64 1, .int .i64 2, .int .i64 3, .int .i64 (-1), .int .i64 (-2), .int .i64 7, .int .i64 100, .int .i64 4294967296, .int .i64 (-4294967296), .int .i64 5, .int .i64 4] 2)) := ((Below.refl _ _).alloc (Nat.le_refl _) _).alloc (by simp) _
  have hT := Lib.hid (tookBelow h hB hb)
  have HN0 := Lib.hid n0
  have HN1 := Lib.hid n1
  have Hb := Lib.hid hb
  clear n0 n1 hb h
  go_enter Try.func60, Try.ntmps60
  go_wp2_with fail
  generalize (w.alloc (.cells #[.int .i64 0, .int .i64 0, .string ⟨#[]⟩] 42)).alloc (.cells #[.int .i64 0, .int .i64 1, .int .i64 2, .int .i64 3, .int .i64 (-1), .int .i64 (-2), .int .i64 7, .int .i64 100, .int .i64 4294967296, .int .i64 (-4294967296), .int .i64 5, .int .i64 4] 2) = wb at *
  refine (next_any B g 12 wb (by decide) (by decide) hT.out.1 hT.out.2.2).mono ?_
  rintro e w1 ⟨r, rfl, hr0, hr1, hK⟩
  have hKs := Lib.hid hK
  obtain ⟨rn, rfl⟩ : ∃ rn : Nat, r = (rn : Int) := ⟨r.toNat, by omega⟩
  have hrn : rn < 12 := by omega
  have hlt0 : w.heap.size < wb.heap.size := (Array.getElem?_eq_some_iff.1 HN0.out).1
  have hlt1 : w.heap.size + 1 < wb.heap.size := (Array.getElem?_eq_some_iff.1 HN1.out).1
  have m0 := (hK.2.1.block w.heap.size hlt0 (by simp; omega)).trans HN0.out
  have m1 := (hK.2.1.block (w.heap.size + 1) hlt1 (by simp; omega)).trans HN1.out
  obtain ⟨c0, c1, c2, f0, f1, f2⟩ := box3 m0
  obtain ⟨x0, hx, hx0⟩ := ints_at' rn hrn
  have d0 := (cell_of_row w1 (w.heap.size + 1) rn _ _ _ m1).trans hx
  have hl0 := (Array.getElem?_eq_some_iff.1 m0).1
  have hri : (rn : Int) < 12 := by omega
  have M0 := Lib.hid m0
  clear m0 m1 hx hK hr0 hr1 c0 c1 c2 f0 f1 f2 HN0 HN1
  go_wp2_with fail
  refine (rint_any x0 _).mono ?_
  rintro e w2 ⟨k, n, s1, rfl, hc, hb2⟩
  have hv : vB ⟨k, n, s1⟩ = true := by rw [hc]; exact cleanV_valid _
  have hok : (⟨k, n, s1⟩ : V).ok := by rw [hc]; exact cleanV_ok (rint_ok rn hrn x0 hx0)
  have hkd : k = 1 := by
    have hv0 : vB ⟨1, x0, ⟨#[]⟩⟩ = true := by simp [vB, validB, ByteArray.toList_eq]; omega
    rw [cleanV_idem hv0] at hc
    simp only [V.mk.injEq] at hc
    exact hc.1
  have Hkd := Lib.hid hkd
  have Hv := Lib.hid hv
  have Hok := Lib.hid hok
  obtain ⟨c0, c1, c2, f0, f1, f2⟩ := box3 ((hb2.block _ hl0).trans M0.out)
  clear hc hv hok hkd
  go_wp2_with fail
  refine bodyPost_ret (v := .agg #[.int .i64 k, .int .i64 n, .string s1]) (by simp [results, Try.results60, go_sem, c0, c1, c2]) rfl ⟨k, n, s1, rfl, Hv.out, Hok.out, Hkd, ?_⟩
  have hfin := ((hT.out.trans hKs.out).below hb2)
  exact ((hfin.setCell (p := ⟨w.heap.size, 0, none⟩) hB (Nat.le_refl _) _).setCell (p := ⟨w.heap.size, 1, none⟩) hB (Nat.le_refl _) _).setCell (p := ⟨w.heap.size, 2, none⟩) hB (Nat.le_refl _) _
theorem int_any (B g : Nat) (w : World) (h : TapeAt w B g) (hB : B ≤ w.heap.size) :
    Calls Try.prog 60 #[.pointer (some ⟨g, 0, none⟩)] w (ValPost w B g) := (int_anyK B g w h hB).mono fun _ _ h => h.val

theorem value_start (w : World) (B g : Nat) (h : TapeAt w B g) (hB : B ≤ w.heap.size) : Took w B g (w.alloc (.cells #[.int .i64 0, .int .i64 0, .string ⟨#[]⟩] 42)) := tookBelow h hB ((Below.refl _ _).alloc (Nat.le_refl _) _)
theorem tvalue_any (B g : Nat) (w : World) (h : TapeAt w B g) (hB : B ≤ w.heap.size) :
    Calls Try.prog 38 #[.pointer (some ⟨g, 0, none⟩)] w (ValPost w B g) := by
  have hgB : g < B := by obtain ⟨_, _, _, _, _, _, _, hg, _⟩ := h; exact hg
  have n0 : (w.alloc (.cells #[.int .i64 0, .int .i64 0, .string ⟨#[]⟩] 42)).heap[w.heap.size]? = some (.cells #[.int .i64 0, .int .i64 0, .string ⟨#[]⟩] 42) := heap_alloc_new _ _
  have hT := Lib.hid (value_start w B g h hB)
  have HN0 := Lib.hid n0
  clear n0 h
  go_enter Try.func38, Try.ntmps38
  go_wp2_with fail
  generalize w.alloc (.cells #[.int .i64 0, .int .i64 0, .string ⟨#[]⟩] 42) = wb at *
  refine (next_any B g 5 wb (by decide) (by decide) hT.out.1 hT.out.2.2).mono ?_
  rintro e w1 ⟨r, rfl, hr0, hr1, hK⟩
  have hKs := Lib.hid hK
  have hlt0 : w.heap.size < wb.heap.size := (Array.getElem?_eq_some_iff.1 HN0.out).1
  have m0 := (hK.2.1.block w.heap.size hlt0 (by simp; omega)).trans HN0.out
  have M0 := Lib.hid m0
  clear hK HN0 m0
  have hfin0 : Took w B g w1 := hT.out.trans hKs.out
  have HF := Lib.hid hfin0
  clear hfin0 hT hKs
  by_cases h0 : r = 0
  · subst h0
    obtain ⟨c0, c1, c2, f0, f1, f2⟩ := box3 M0.out
    go_wp2_with fail
    refine bodyPost_ret (v := .agg #[.int .i64 0, .int .i64 0, .string ⟨#[]⟩]) (by simp [results, Try.results38, go_sem, c0, c1, c2]) rfl ⟨0, 0, ⟨#[]⟩, rfl, by simp [vB, validB], ⟨by simp, by simp, by simp [maxLen, ByteArray.size]⟩, ?_⟩
    exact ((HF.out.setCell (p := ⟨w.heap.size, 0, none⟩) hB (Nat.le_refl _) _).setCell (p := ⟨w.heap.size, 1, none⟩) hB (Nat.le_refl _) _).setCell (p := ⟨w.heap.size, 2, none⟩) hB (Nat.le_refl _) _
  · have hcases : (r = 1 ∨ r = 2) ∨ (r = 3 ∨ r = 4) := by omega
    clear hr0 hr1 h0
    rcases hcases with (rfl | rfl) | (rfl | rfl)
    all_goals
      go_wp2_with fail
      first | refine (text_any B g _ HF.out.1 HF.out.2.2).mono ?_ | refine (int_any B g _ HF.out.1 HF.out.2.2).mono ?_
      rintro e w2 ⟨k, n, s1, rfl, hv, hok, hK2⟩
      have Hv := Lib.hid hv
      have Hok := Lib.hid hok
      have hl0 := (Array.getElem?_eq_some_iff.1 M0.out).1
      obtain ⟨c0, c1, c2, f0, f1, f2⟩ := box3 ((hK2.2.1.block w.heap.size hl0 (by simp; omega)).trans M0.out)
      have HK2 := Lib.hid hK2
      clear hv hok hK2
      go_wp2_with fail
      refine bodyPost_ret (v := .agg #[.int .i64 k, .int .i64 n, .string s1]) (by simp [results, Try.results38, go_sem, c0, c1, c2]) rfl ⟨k, n, s1, rfl, Hv.out, Hok.out, ?_⟩
      have hfin := HF.out.trans HK2.out
      exact ((hfin.setCell (p := ⟨w.heap.size, 0, none⟩) hB (Nat.le_refl _) _).setCell (p := ⟨w.heap.size, 1, none⟩) hB (Nat.le_refl _) _).setCell (p := ⟨w.heap.size, 2, none⟩) hB (Nat.le_refl _) _

/-- The cells of a list of values, one after the other. -/
def valCells (l : List V) : List Value := l.flatMap fun v => [.int .i64 v.k, .int .i64 v.n, .string v.s]
theorem valCells_len (l : List V) : (valCells l).length = l.length * 3 := by
  unfold valCells
  induction l with
  | nil => rfl
  | cons a l ih => simp only [List.flatMap_cons, List.length_append, List.length_cons, List.length_nil, ih]; omega
theorem valCells_snoc (l : List V) (v : V) : valCells (l ++ [v]) = valCells l ++ [.int .i64 v.k, .int .i64 v.n, .string v.s] := by simp [valCells]
theorem valCells_at : ∀ (l : List V) (i : Nat) (h : i < l.length), (valCells l)[i * 3]? = some (.int .i64 l[i].k) ∧ (valCells l)[i * 3 + 1]? = some (.int .i64 l[i].n) ∧ (valCells l)[i * 3 + 2]? = some (.string l[i].s)
  | v :: l, 0, _ => by simp [valCells]
  | v :: l, i + 1, h => by
    have ih := valCells_at l i (by simpa using h)
    have e : valCells (v :: l) = [.int .i64 v.k, .int .i64 v.n, .string v.s] ++ valCells l := by simp [valCells]
    have e1 : (i + 1) * 3 = 3 + i * 3 := by omega
    rw [e, e1]
    have e2 : ∀ j, ([.int .i64 v.k, .int .i64 v.n, .string v.s] ++ valCells l)[3 + i * 3 + j]? = (valCells l)[i * 3 + j]? := fun j => by
      rw [List.getElem?_append_right (by simp; omega)]
      congr 1
      simp; omega
    have e3 := e2 0
    simp only [Nat.add_zero] at e3
    rw [e3, e2 1, e2 2]
    simpa using ih
/-- An owned row of values. -/
def OwnsV (w : World) (B : Nat) (v : Value) (l : List V) : Prop := w.ownsRow B 42 3 v l.length (valCells l)
theorem OwnsV.nil (w : World) (B : Nat) : OwnsV w B (.slice none 0 0) [] := World.ownsRow_nil _ _ _ _
theorem OwnsV.rowAt {w : World} {B : Nat} {v : Value} {l : List V} (h : OwnsV w B v l) (hok : ∀ x ∈ l, x.ok) : ∃ ao cap, v = .slice ao l.length cap ∧ RowAt w w.heap.size ao l ∧ (∀ b o, ao = some ⟨b, o, none⟩ → B ≤ b) ∧ (ao = none → cap = 0) := by
  rcases h.2 with ⟨rfl, h0⟩ | ⟨g, cap, cur, rfl, hb, hg, hn, hm, hs, ht⟩
  · have : l = [] := List.eq_nil_of_length_eq_zero h0
    subst this
    exact ⟨none, 0, rfl, ⟨hok, .inl rfl⟩, fun _ _ h => by simp at h, fun _ => rfl⟩
  · refine ⟨_, _, rfl, ⟨hok, .inr ⟨g, 0, rfl, (Array.getElem?_eq_some_iff.1 hg).1, fun i hi => ?_⟩⟩, fun b o h => by simp at h; omega, fun h => by simp at h⟩
    obtain ⟨e0, e1, e2⟩ := valCells_at l i hi
    have c0 := World.ownsRow.cells h (g := g) rfl _ _ e0
    have c1 := World.ownsRow.cells h (g := g) rfl _ _ e1
    have c2 := World.ownsRow.cells h (g := g) rfl _ _ e2
    rw [Go.WideShapes.add_plain] at c0 c1 c2
    exact ⟨c0, by simpa [Nat.add_assoc] using c1, by simpa [Nat.add_assoc] using c2⟩
theorem infoV : (Try.prog.info? 42).map (fun i => (i.zero, i.size, i.bytes)) = some (some (.agg #[.int .i64 0, .int .i64 0, .string ⟨#[]⟩]), 3, 32) := by kernel_rfl
/-- What an append of one value leaves. -/
def AppV (w0 : World) (B : Nat) (v : Value) (l : List V) (K : Value → World → Prop) : Prop :=
  ∀ l' g' cap w', Hid (l' = l) → OwnsV w' B (.slice (some ⟨g', 0, none⟩) l'.length cap) l' → Away v.ownBlock w0 w' → Below B w0 w' → (v.ownBlock = some g' ∨ w0.heap.size ≤ g') → g' < w'.heap.size →
    K (.slice (some ⟨g', 0, none⟩) l'.length cap) w'
theorem wpList_appV (w w0 : World) {ops : Array Oper} {rest : List Oper} {o : Oper} {a : Act} {Q : Exit → Act → World → Prop} (hgd : o.guard = none) (s x : Operand)
    (ho : o.op = .call { callee := .builtin .append, args := #[s, x], argTypes := #[30, 30] })
    (B : Nat) (v : Value) (l : List V) (hs : a.eval s = v) (hown : OwnsV w0 B v l) (y : V) (c : Nat) (hx : a.eval x = .slice (some ⟨w0.heap.size, 0, none⟩) 1 c)
    (hw : w.heap = w0.heap.push (.cells #[.int .i64 y.k, .int .i64 y.n, .string y.s] 42)) (hw1 : w.os = w0.os) (hw2 : w.tape = w0.tape) (hw3 : w.output = w0.output)
    (hsz : l.length ≤ 1000000000) (hB : B ≤ w0.heap.size)
    (h : AppV w0 B v (l ++ [y]) fun v' w' => wpList Try.prog ops Q rest (a.put o.dst v') w') : wpList Try.prog ops Q (o :: rest) a w := by
  refine wpList_appendx Try.underlying30 infoV rfl (by decide) w w0 hgd s x ho B v l.length (valCells l) hs hown 1 c #[.int .i64 y.k, .int .i64 y.n, .string y.s] hx hw hw1 hw2 hw3 rfl (by simp [Value.oneCell']) (by decide) (by omega) (by unfold maxLen; omega) hB ?_
  intro g' cap w' h1 h2 h3 h4 h5
  have e1 : l.length + 1 = (l ++ [y]).length := by simp
  rw [e1] at h1 ⊢
  exact h _ g' cap w' rfl (by unfold OwnsV; rw [valCells_snoc]; exact h1) h2 h3 h4 h5

theorem RowAt.away {w w' : World} {B : Nat} {ao : Option Addr} {l : List V} {r : Option Nat} (h : RowAt w B ao l) (ha : Away r w w') (hB : B ≤ w.heap.size) (hr : ∀ b o, ao = some ⟨b, o, none⟩ → some b ≠ r) : RowAt w' B ao l := by
  refine ⟨h.1, ?_⟩
  rcases h.2 with h0 | ⟨b, off, e, hlt, hc⟩
  · exact .inl h0
  · refine .inr ⟨b, off, e, hlt, fun i hi => ?_⟩
    obtain ⟨c0, c1, c2⟩ := hc i hi
    have hb : b < w.heap.size := by omega
    exact ⟨(ha.cell (a := ⟨b, off + i * 3, none⟩) hb (hr b off e)).trans c0, (ha.cell (a := ⟨b, off + i * 3 + 1, none⟩) hb (hr b off e)).trans c1, (ha.cell (a := ⟨b, off + i * 3 + 2, none⟩) hb (hr b off e)).trans c2⟩
/-- A call of the tape that gives a row of valid values. -/
def RowPost (w : World) (B g n : Nat) (e : Ending) (w' : World) : Prop := ∃ ao cap l, e = .returned (.slice ao l.length cap) ∧ l.length ≤ n ∧ (∀ x ∈ l, vB x = true) ∧ RowAt w' w'.heap.size ao l ∧ Took w B g w' ∧ (∀ b o, ao = some ⟨b, o, none⟩ → w.heap.size ≤ b) ∧ (ao = none → cap = 0)
theorem trow_any (B g n : Nat) (w : World) (hn : n ≤ 100000000) (h : TapeAt w B g) (hB : B ≤ w.heap.size) :
    Calls Try.prog 14 #[.pointer (some ⟨g, 0, none⟩), .int .i64 n] w (RowPost w B g n) := by
  have hgB : g < B := by obtain ⟨_, _, _, _, _, _, _, hg, _⟩ := h; exact hg
  have hT := Lib.hid h
  clear h
  go_enter Try.func14, Try.ntmps14
  go_wp2_with fail
  refine (next_any B g ((n : Int) + 1) w (by omega) (by omega) hT.out hB).mono ?_
  rintro e w1 ⟨r, rfl, hr0, hr1, hK⟩
  obtain ⟨m, rfl⟩ : ∃ m : Nat, r = (m : Int) := ⟨r.toNat, by omega⟩
  have hm : m ≤ n := by omega
  have HK := Lib.hid hK
  clear hr0 hr1 hK
  go_wp2_with fail
  go_loopw [5, 6] (fun v i wr => ∃ (k : Nat) (l : List V) (vr : Value), k + l.length = m ∧ i = .int .i64 k ∧ vr = v ∧ Hid (∀ x ∈ l, vB x = true ∧ x.ok) ∧ OwnsV wr w.heap.size vr l ∧ Hid (Took w B g wr) ∧ w.heap.size ≤ wr.heap.size) (fun _ i _ => (intOf i).toNat)
  case atStart => exact ⟨m, [], _, by simp, rfl, rfl, fun x hx => by simp at hx, OwnsV.nil _ _, HK.out, HK.out.2.1.size⟩
  case round =>
    obtain ⟨k, l, vr, hkl, rfl, rfl, hall, hown, hTk, hsz⟩ := hrel
    have hle : l.length ≤ 100000000 := by omega
    have hkb : k ≤ 100000000 := by omega
    have Hkl := Lib.hid hkl
    clear hkl
    by_cases hk : 0 < k
    · go_wp2_with fail
      refine (tvalue_any B g _ hTk.out.1 hTk.out.2.2).mono ?_
      rintro e w2 ⟨k1, n1, s1, rfl, hv, hok, hK2⟩
      have Hv := Lib.hid hv
      have Hok := Lib.hid hok
      have HK2 := Lib.hid hK2
      have hs2 := hK2.2.1.size
      have hown2 : OwnsV w2 w.heap.size vr l := hK2.2.1.owns hown (by
        cases hvb : vr.ownBlock with
        | none => exact .inl rfl
        | some b => right; have := (World.ownsRow.lt hown b hvb).1; simp; omega)
      clear hv hok hK2
      go_wp2_with (at_builtin; refine wpList_appV _ w2 rfl (.tmp 15) (.tmp 18) rfl w.heap.size vr l rfl hown2 ⟨k1, n1, s1⟩ 1 rfl rfl rfl rfl rfl (by omega) (by omega) ?_; intro l3 g3 cap3 w3 hl3 hown3 haw3 hb3 hat3 hlt3)
      refine ⟨⟨k - 1, l3, _, ?_, by rw [show ((k - 1 : Nat) : Int) = (k : Int) - 1 by omega] <;> rfl, rfl, ?_, hown3, ?_, by have := hb3.size; omega⟩, by show ((k : Int) - 1).toNat < ((k : Int)).toNat; omega⟩
      · rw [hl3.out]; have := Hkl.out; simp; omega
      · intro x hx
        rw [hl3.out] at hx
        simp only [List.mem_append, List.mem_singleton] at hx
        rcases hx with hx | rfl
        · exact hall.out x hx
        · exact ⟨Hv.out, Hok.out⟩
      · have h2 := hTk.out.trans HK2.out
        refine ⟨h2.1.away haw3 (fun b hb => by have := (World.ownsRow.lt hown2 b hb).1; omega) h2.2.2, ?_, by have := hb3.size; have := h2.2.2; omega⟩
        exact ⟨haw3.os.trans h2.2.1.os, haw3.tape.trans h2.2.1.tape, haw3.output.trans h2.2.1.output, by have := haw3.size; have := h2.2.1.size; omega, fun b hb hne => (haw3.block b (by have := h2.2.1.size; omega) (fun e => by have := (World.ownsRow.lt hown2 b e.symm).1; omega)).trans (h2.2.1.block b hb hne)⟩
    · have hk0 : k = 0 := by omega
      subst hk0
      obtain ⟨ao, cap, rfl, hrow, hlo, hnil⟩ := hown.rowAt fun x hx => (hall.out x hx).2
      go_wp2_with fail
      go_ret
      exact ⟨ao, cap, l, rfl, by have := Hkl.out; omega, fun x hx => (hall.out x hx).1, hrow, hTk.out, hlo, hnil⟩

theorem valCells_app (a b : List V) : valCells (a ++ b) = valCells a ++ valCells b := by simp [valCells]
theorem valCells_get {l : List V} {j : Nat} {u : Value} (h : (valCells l)[j]? = some u) : ∃ i r, i < l.length ∧ j = i * 3 + r ∧ r < 3 := by
  have := (List.getElem?_eq_some_iff.1 h).1
  rw [valCells_len] at this
  exact ⟨j / 3, j % 3, by omega, by omega, by omega⟩
/-- A copy of a row of values onto a row of the call's own: 'append(s, x...)'. -/
theorem wpList_copyV (w : World) {ops : Array Oper} {rest : List Oper} {o : Oper} {a : Act} {Q : Exit → Act → World → Prop} (hgd : o.guard = none) (s x : Operand)
    (ho : o.op = .call { callee := .builtin .append, args := #[s, x], argTypes := #[30, 30] })
    (B : Nat) (g0 c0 : Nat) (m : List V) (hs : a.eval s = .slice (some ⟨g0, 0, none⟩) m.length c0) (hown : OwnsV w B (.slice (some ⟨g0, 0, none⟩) m.length c0) m) (B' : Nat) (ao : Option Addr) (cap : Nat) (l : List V) (hx : a.eval x = .slice ao l.length cap)
    (hrow : RowAt w B' ao l) (hnil : ao = none → cap = 0) (hsz : m.length + l.length ≤ 1000000000) (hB : B ≤ w.heap.size)
    (h : ∀ l' g' cap' w', Hid (l' = m ++ l) → OwnsV w' B (.slice (some ⟨g', 0, none⟩) l'.length cap') l' → Away (some g0) w w' → Below B w w' → g' < w'.heap.size → wpList Try.prog ops Q rest (a.put o.dst (.slice (some ⟨g', 0, none⟩) l'.length cap')) w') :
    wpList Try.prog ops Q (o :: rest) a w := by
  obtain ⟨i0, hi, hz0, hz1, hz2⟩ := info_parts infoV
  cases ao with
  | none =>
    have hl : l = [] := by
      rcases hrow.2 with h0 | ⟨b, off, e, _⟩
      · exact h0
      · simp at e
    subst hl
    rw [hnil rfl] at hx
    exact wpList_append_own_none hgd s x 30 ho B 42 i0 3 Try.underlying30 hi _ _ _ hs hown hx
      (h m g0 c0 w (by simp [Hid]) hown (away_refl _ _) (Below.refl _ _) (World.ownsRow.lt hown g0 rfl).2)
  | some ad =>
    have hnews : ∀ j u, (valCells l)[j]? = some u → w.cell? (ad.add j) = some u := by
      intro j u hj
      obtain ⟨i, r, hil, rfl, hr3⟩ := valCells_get hj
      rcases hrow.2 with h0 | ⟨b, off, e, _, hc⟩
      · subst h0; simp at hil
      · simp only [Option.some.injEq] at e
        subst e
        obtain ⟨d0, d1, d2⟩ := hc i hil
        obtain ⟨e0, e1, e2⟩ := valCells_at l i hil
        rw [Go.WideShapes.add_plain]
        match r, hr3 with
        | 0, _ => rw [Nat.add_zero] at hj ⊢; rw [e0] at hj; rw [← hj]; exact d0
        | 1, _ => rw [e1] at hj; rw [← hj, ← Nat.add_assoc]; exact d1
        | 2, _ => rw [e2] at hj; rw [← hj, ← Nat.add_assoc]; exact d2
    have hone : ∀ u ∈ valCells l, u.oneCell' = true := by
      intro u hu
      simp only [valCells, List.mem_flatMap] at hu
      obtain ⟨y, _, hy⟩ := hu
      simp at hy
      rcases hy with rfl | rfl | rfl <;> rfl
    refine wpList_append_own_at (w := w) hgd s x 30 ho B 42 i0 _ 3 32 Try.underlying30 hi hz0 hz1 hz2 rfl (by decide) _ _ _ hs hown ad l.length cap (valCells l) hx (valCells_len l) hnews hone (by unfold maxLen; omega) (by omega) hB ?_
    intro v' w' h1 h2 h3 _
    obtain ⟨g', cp', rfl, hbg, hlt⟩ := own_form h1 (by simp [h3])
    have hA : Away (some g0) w w' := ⟨h2.os, h2.tape, h2.output, h2.size, h2.block⟩
    have e1 : m.length + l.length = (m ++ l).length := by simp
    have hbase := (World.ownsRow.lt hown g0 rfl).1
    rw [e1] at h1 ⊢
    exact h (m ++ l) g' cp' w' rfl (by unfold OwnsV; rw [valCells_app]; exact h1) hA (hA.below hB (fun k hk => by simp at hk; omega)) hlt
end Go.Proofs.Ytdckpjkbchibjaa
