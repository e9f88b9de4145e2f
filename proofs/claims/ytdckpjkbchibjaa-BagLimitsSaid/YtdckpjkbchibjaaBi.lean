/- The tape's parts for bags: short. -/
import Derived.Test.YtdckpjkbchibjaaBh
import Derived.Test.YtdckpjkbchibjaaTb
namespace Go.Proofs.Ytdckpjkbchibjaa
open Go.RowKit Go.Proofs.EB
set_option maxHeartbeats 8000000
set_option maxRecDepth 100000
attribute [local go_sem] World.cell?_alloc_some

theorem rint_lit (x : Int) (hx : -4294967296 ≤ x ∧ x ≤ 4294967296) (w : World) : Calls Try.prog 30 #[.int .i64 x] w (YieldsV (.agg #[.int .i64 1, .int .i64 x, .string ⟨#[]⟩]) w) := by
  refine (rint_any x w).mono ?_
  rintro e w' ⟨k, n, s, rfl, hc, hb⟩
  have hv0 : vB ⟨1, x, ⟨#[]⟩⟩ = true := by simp [vB, validB, ByteArray.toList_eq]; omega
  rw [cleanV_idem hv0] at hc
  simp only [V.mk.injEq] at hc
  obtain ⟨rfl, rfl, rfl⟩ := hc
  exact ⟨rfl, hb⟩
theorem rtext_is (s : ByteArray) (hs : s.size ≤ 32) (w : World) : Calls Try.prog 51 #[.string s] w (YieldsV (.agg #[.int .i64 2, .int .i64 0, .string s]) w) := by
  refine (rtext_any s w (by unfold maxLen; omega)).mono ?_
  rintro e w' ⟨k, n, s', rfl, hc, hb⟩
  have hv0 : vB ⟨2, 0, s⟩ = true := by simp [vB, validB]; omega
  rw [cleanV_idem hv0] at hc
  simp only [V.mk.injEq] at hc
  obtain ⟨rfl, rfl, rfl⟩ := hc
  exact ⟨rfl, hb⟩
def shortCells : Array Value := #[.int .i64 0, .int .i64 0, .string ⟨#[]⟩, .int .i64 1, .int .i64 1, .string ⟨#[]⟩, .int .i64 1, .int .i64 2, .string ⟨#[]⟩, .int .i64 1, .int .i64 3, .string ⟨#[]⟩, .int .i64 2, .int .i64 0, .string ⟨#[97]⟩, .int .i64 2, .int .i64 0, .string ⟨#[98]⟩]
theorem short_at : ∀ i, i < 6 → ∃ k n s, shortCells[i * 3]? = some (.int .i64 k) ∧ shortCells[i * 3 + 1]? = some (.int .i64 n) ∧ shortCells[i * 3 + 2]? = some (.string s) ∧ vB ⟨k, n, s⟩ = true ∧ (⟨k, n, s⟩ : V).ok
  | 0, _ => ⟨_, _, _, rfl, rfl, rfl, by simp [vB, validB, ByteArray.toList_eq], by simp [V.ok, maxLen, ByteArray.size]⟩
  | 1, _ => ⟨_, _, _, rfl, rfl, rfl, by simp [vB, validB, ByteArray.toList_eq], by simp [V.ok, maxLen, ByteArray.size]⟩
  | 2, _ => ⟨_, _, _, rfl, rfl, rfl, by simp [vB, validB, ByteArray.toList_eq], by simp [V.ok, maxLen, ByteArray.size]⟩
  | 3, _ => ⟨_, _, _, rfl, rfl, rfl, by simp [vB, validB, ByteArray.toList_eq], by simp [V.ok, maxLen, ByteArray.size]⟩
  | 4, _ => ⟨_, _, _, rfl, rfl, rfl, by simp [vB, validB, ByteArray.size], by simp [V.ok, maxLen, ByteArray.size]⟩
  | 5, _ => ⟨_, _, _, rfl, rfl, rfl, by simp [vB, validB, ByteArray.size], by simp [V.ok, maxLen, ByteArray.size]⟩
  | n + 6, h => by omega
theorem short_any (B g : Nat) (w : World) (h : TapeAt w B g) (hB : B ≤ w.heap.size) :
    Calls Try.prog 49 #[.pointer (some ⟨g, 0, none⟩)] w (ValPost w B g) := by
  have hgB : g < B := by obtain ⟨_, _, _, _, _, _, _, hg, _⟩ := h; exact hg
  have hT := Lib.hid h
  clear h
  have hn0 : (w.alloc (.cells #[.int .i64 0, .int .i64 0, .string ⟨#[]⟩] 42)).heap[w.heap.size]? = some (.cells #[.int .i64 0, .int .i64 0, .string ⟨#[]⟩] 42 (0, 0)) := heap_alloc_new w _
  have HN0 := Lib.hid hn0
  clear hn0
  go_enter Try.func49, Try.ntmps49
  go_wp2_with fail
  refine (rint_lit 1 (by decide) _).mono ?_
  rintro e w1 ⟨rfl, hb1⟩
  go_wp2_with fail
  refine (rint_lit 2 (by decide) _).mono ?_
  rintro e w2 ⟨rfl, hb2⟩
  go_wp2_with fail
  refine (rint_lit 3 (by decide) _).mono ?_
  rintro e w3 ⟨rfl, hb3⟩
  go_wp2_with fail
  refine (rtext_is _ (by decide) _).mono ?_
  rintro e w4 ⟨rfl, hb4⟩
  go_wp2_with fail
  refine (rtext_is _ (by decide) _).mono ?_
  rintro e w5 ⟨rfl, hb5⟩
  have hba : Below (w.alloc (.cells #[.int .i64 0, .int .i64 0, .string ⟨#[]⟩] 42)).heap.size (w.alloc (.cells #[.int .i64 0, .int .i64 0, .string ⟨#[]⟩] 42)) w5 := belowT (belowT (belowT (belowT hb1 hb2) hb3) hb4) hb5
  have HN5 := Lib.hid (box_keep hba HN0.out)
  have HB5 := Lib.hid (belowT (below1 w (.cells #[.int .i64 0, .int .i64 0, .string ⟨#[]⟩] 42)) hba)
  have hs5 : w.heap.size < w5.heap.size := by have := hba.size; simp at this; omega
  clear hb1 hb2 hb3 hb4 hb5 hba HN0
  go_wp2_with fail
  have hbb := Lib.hid (belowT HB5.out (below1 w5 (.cells shortCells 42)))
  have hTb := Lib.hid (tookBelow hT.out hB hbb.out)
  have hNb := Lib.hid (box_keep (below1 w5 (.cells shortCells 42)) HN5.out)
  have hCb := Lib.hid (heap_alloc_new w5 (.cells shortCells 42))
  obtain ⟨T, hTe⟩ : ∃ T, T = w5.heap.size := ⟨_, rfl⟩
  rw [← hTe] at hCb hs5 ⊢
  clear hTe
  unfold shortCells at hbb hTb hNb hCb
  generalize (w5.alloc (.cells #[.int .i64 0, .int .i64 0, .string ⟨#[]⟩, .int .i64 1, .int .i64 1, .string ⟨#[]⟩, .int .i64 1, .int .i64 2, .string ⟨#[]⟩, .int .i64 1, .int .i64 3, .string ⟨#[]⟩, .int .i64 2, .int .i64 0, .string ⟨#[97]⟩, .int .i64 2, .int .i64 0, .string ⟨#[98]⟩] 42)) = wb at *
  clear HB5 HN5
  refine (next_any B g 6 wb (by decide) (by decide) hTb.out.1 hTb.out.2.2).mono ?_
  rintro e w1 ⟨r, rfl, hr0, hr1, hK⟩
  have hKs := Lib.hid hK
  obtain ⟨rn, rfl⟩ : ∃ rn : Nat, r = (rn : Int) := ⟨r.toNat, by omega⟩
  have hrn : rn < 6 := by omega
  have hlt0 : w.heap.size < wb.heap.size := (Array.getElem?_eq_some_iff.1 hNb.out).1
  have hlt1 : T < wb.heap.size := (Array.getElem?_eq_some_iff.1 hCb.out).1
  have m0 := (hK.2.1.block w.heap.size hlt0 (by simp; omega)).trans hNb.out
  have m1 := (hK.2.1.block T hlt1 (by simp; omega)).trans hCb.out
  obtain ⟨c0, c1, c2, f0, f1, f2⟩ := box3 m0
  obtain ⟨k, n, s, d0, d1, d2, hv, hok⟩ := short_at rn hrn
  have e0 := box_cell m1 d0
  have e1 := box_cell m1 d1
  have e2 := box_cell m1 d2
  have hri : (rn : Int) < 6 := by omega
  have Hv := Lib.hid hv
  have Hok := Lib.hid hok
  have hs1 : w.heap.size < w1.heap.size := (Array.getElem?_eq_some_iff.1 m0).1
  clear m0 m1 d0 d1 d2 hK hr0 hr1 hv hok hNb hCb
  go_wp2_with fail
  refine bodyPost_ret (v := .agg #[.int .i64 k, .int .i64 n, .string s]) (by simp [results, Try.results49, go_sem, c0, c1, c2]) rfl ⟨k, n, s, rfl, Hv.out, Hok.out, ?_⟩
  have hfin := hTb.out.trans hKs.out
  exact ((hfin.setCell (p := ⟨w.heap.size, 0, none⟩) hB (Nat.le_refl _) _).setCell (p := ⟨w.heap.size, 1, none⟩) hB (Nat.le_refl _) _).setCell (p := ⟨w.heap.size, 2, none⟩) hB (Nat.le_refl _) _
end Go.Proofs.Ytdckpjkbchibjaa
