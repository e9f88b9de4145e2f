/- Contract of the tape's Edit: some string, at most one byte longer. -/
import Derived.Test.YtninmolgkkhikaaDoorTb
namespace Go.Proofs.YtninmolgkkhikaaDoor
open Go.RowKit Go.Proofs.EB
open Go.Lib (byteCells)
set_option maxHeartbeats 1000000
attribute [local go_sem] World.cell?_alloc_some

/-- A call of the tape that gives a string of at most n bytes. -/
def StrPost (w : World) (B g n : Nat) (e : Ending) (w' : World) : Prop := ∃ r : ByteArray, e = .returned (.string r) ∧ r.size ≤ n ∧ Took w B g w'
/-- The bytes that an edit puts in. -/
def editCells : Array Value := #[.int .u8 48, .int .u8 34, .int .u8 92, .int .u8 32, .int .u8 0, .int .u8 255, .int .u8 1, .int .u8 2, .int .u8 3, .int .u8 97, .int .u8 59, .int .u8 40, .int .u8 45, .int .u8 49, .int .u8 35, .int .u8 110]
theorem edit_at : ∀ i, i < 16 → ∃ x : UInt8, editCells[i]? = some (.int .u8 (x.toNat : Int)) := by
  intro i hi
  match i, hi with
  | 0, _ => exact ⟨48, rfl⟩
  | 1, _ => exact ⟨34, rfl⟩
  | 2, _ => exact ⟨92, rfl⟩
  | 3, _ => exact ⟨32, rfl⟩
  | 4, _ => exact ⟨0, rfl⟩
  | 5, _ => exact ⟨255, rfl⟩
  | 6, _ => exact ⟨1, rfl⟩
  | 7, _ => exact ⟨2, rfl⟩
  | 8, _ => exact ⟨3, rfl⟩
  | 9, _ => exact ⟨97, rfl⟩
  | 10, _ => exact ⟨59, rfl⟩
  | 11, _ => exact ⟨40, rfl⟩
  | 12, _ => exact ⟨45, rfl⟩
  | 13, _ => exact ⟨49, rfl⟩
  | 14, _ => exact ⟨35, rfl⟩
  | 15, _ => exact ⟨110, rfl⟩
  | n + 16, h => omega
theorem edit_any (B g : Nat) (s : ByteArray) (w : World) (hs : s.size ≤ 1000000) (h : TapeAt w B g) (hB : B ≤ w.heap.size) :
    Calls Tryd.prog 17 #[.pointer (some ⟨g, 0, none⟩), .string s] w (StrPost w B g (s.size + 1)) := by
  have hgB : g < B := by obtain ⟨_, _, _, _, _, _, _, hg, _⟩ := h; exact hg
  have hT := Lib.hid h
  clear h
  go_enter Tryd.func17, Tryd.ntmps17
  go_wp2_with fail
  refine (next_any B g ((s.size : Int) + 1) w (by omega) (by omega) hT.out hB).mono ?_
  rintro e w1 ⟨r, rfl, hr0, hr1, hK⟩
  obtain ⟨p, rfl⟩ : ∃ p : Nat, r = (p : Int) := ⟨r.toNat, by omega⟩
  have hp : p ≤ s.size := by omega
  have HK := Lib.hid (hK.below ((Below.refl w1.heap.size w1).alloc (Nat.le_refl _) (.cells editCells 5)))
  have hs1 := hK.2.1.size
  have hn1 : (w1.alloc (.cells editCells 5)).heap[w1.heap.size]? = some (.cells editCells 5 (0, 0)) := heap_alloc_new _ _
  have Hn1 := Lib.hid hn1
  have hB1 := hK.2.2
  have hec : (w1.alloc (.cells editCells 5)).heap.size = w1.heap.size + 1 := by simp
  have Hec := Lib.hid hec
  clear hr0 hr1 hK hn1 hec
  go_wp2_with fail
  have hx : (#[.int .u8 48, .int .u8 34, .int .u8 92, .int .u8 32, .int .u8 0, .int .u8 255, .int .u8 1, .int .u8 2, .int .u8 3, .int .u8 97, .int .u8 59, .int .u8 40, .int .u8 45, .int .u8 49, .int .u8 35, .int .u8 110] : Array Value) = editCells := rfl
  rw [hx]
  clear hx
  generalize w1.alloc (.cells editCells 5) = wb at *
  refine (next_any B g 16 wb (by decide) (by decide) HK.out.1 HK.out.2.2).mono ?_
  rintro e w2 ⟨r2, rfl, hr0, hr1, hK2⟩
  obtain ⟨q, rfl⟩ : ∃ q : Nat, r2 = (q : Int) := ⟨r2.toNat, by omega⟩
  have hq : q < 16 := by omega
  obtain ⟨x, hx⟩ := edit_at q hq
  have m1 := (hK2.2.1.block w1.heap.size (by rw [Hec.out]; omega) (by simp; omega)).trans Hn1.out
  have d0 := (cell_of_row w2 w1.heap.size q _ _ _ m1).trans hx
  have hqi : (q : Int) < 16 := by omega
  have H2 := Lib.hid (HK.out.trans hK2)
  have H3 := Lib.hid (H2.out.below ((Below.refl w2.heap.size w2).alloc (Nat.le_refl _) (.cells #[.int .u8 (x.toNat : Int)] 5)))
  have hown : OwnsB (w2.alloc (.cells #[.int .u8 (x.toNat : Int)] 5)) w2.heap.size 5 (.slice (some ⟨w2.heap.size, 0, none⟩) 1 1) [x] := ⟨by simp [byteCells], .inr ⟨w2.heap.size, 1, #[.int .u8 (x.toNat : Int)], rfl, Nat.le_refl _, heap_alloc_new w2 _, Nat.le_refl _, by decide, rfl, by simp [byteCells]⟩⟩
  clear m1 hr0 hr1 hK2 hx HK
  go_wp2_with (refine wpList_b2s Tryd.underlying9 Tryd.underlying42 Tryd.underlying5 _ rfl (.tmp 17) rfl _ (.slice (some ⟨w2.heap.size, 0, none⟩) 1 1) [x] rfl hown ?_)
  refine (next_any B g 5 _ (by decide) (by decide) H3.out.1 H3.out.2.2).mono ?_
  rintro e w3 ⟨r3, rfl, hr0, hr1, hK3⟩
  have H4 := Lib.hid (H3.out.trans hK3)
  clear hK3 H3 H2 hown d0 hqi hq
  have p0 : (0 : Int) ≤ (p : Int) := by omega
  have p1 : (p : Int) ≤ (s.size : Int) := by omega
  by_cases c0 : r3 = 0
  · subst c0
    clear hr0 hr1
    go_wp2_with fail
    go_ret
    exact ⟨s, rfl, by omega, H4.out⟩
  · by_cases c1 : r3 = 1
    · subst c1
      clear hr0 hr1 c0
      go_wp2_with fail
      go_quiet (fail)
      go_wp2_with fail
      go_ret
      refine ⟨_, rfl, ?_, H4.out.fresh (away_drewN none _ _) (by simp)⟩
      have e1 : (⟨#[x]⟩ : ByteArray).size = 1 := rfl
      simp
      omega
    · by_cases c2 : r3 = 2
      · subst c2
        clear hr0 hr1 c0 c1
        by_cases hps : p < s.size
        · go_wp2_with fail
          go_quiet (fail)
          go_wp2_with fail
          go_ret
          refine ⟨_, rfl, ?_, H4.out.fresh (away_drewN none _ _) (by simp)⟩
          have e1 : (⟨#[x]⟩ : ByteArray).size = 1 := rfl
          simp
          omega
        · go_wp2_with fail
          go_ret
          refine ⟨_, rfl, ?_, H4.out⟩
          have e1 : (⟨#[x]⟩ : ByteArray).size = 1 := rfl
          simp
          omega
      · clear hr0 hr1
        by_cases hps : p < s.size
        · go_wp2_with fail
          go_quiet (fail)
          go_wp2_with fail
          go_ret
          refine ⟨_, rfl, ?_, H4.out.fresh (away_drewN none _ _) (by simp)⟩
          have e1 : (⟨#[x]⟩ : ByteArray).size = 1 := rfl
          simp
          omega
        · go_wp2_with fail
          go_ret
          refine ⟨_, rfl, ?_, H4.out⟩
          have e1 : (⟨#[x]⟩ : ByteArray).size = 1 := rfl
          simp
          omega
end Go.Proofs.YtninmolgkkhikaaDoor
