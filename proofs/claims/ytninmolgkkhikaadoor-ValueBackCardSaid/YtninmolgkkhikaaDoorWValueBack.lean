/- The walk of the law ValueBack. -/
import Derived.Test.YtninmolgkkhikaaDoorPf
import Derived.Test.YtninmolgkkhikaaDoorTt
namespace Go.Proofs.YtninmolgkkhikaaDoor
open Go.RowKit Go.Proofs.EB
set_option maxHeartbeats 1000000
attribute [local go_sem] World.cell?_alloc_some
theorem heldVV {w0 wc w1 : World} {b o b' o' : Nat} {k n k' n' : Int} {s s' : ByteArray} (hb : Below wc.heap.size wc w1)
    (h : (wc.cell? ⟨b, o, none⟩ = some (.int .i64 k) ∧ wc.cell? ⟨b, o + 1, none⟩ = some (.int .i64 n) ∧ wc.cell? ⟨b, o + 2, none⟩ = some (.string s)) ∧ wc.cell? ⟨b', o', none⟩ = some (.int .i64 k') ∧ wc.cell? ⟨b', o' + 1, none⟩ = some (.int .i64 n') ∧ wc.cell? ⟨b', o' + 2, none⟩ = some (.string s') ∧ Below w0.heap.size w0 wc) :
    (w1.cell? ⟨b, o, none⟩ = some (.int .i64 k) ∧ w1.cell? ⟨b, o + 1, none⟩ = some (.int .i64 n) ∧ w1.cell? ⟨b, o + 2, none⟩ = some (.string s)) ∧ w1.cell? ⟨b', o', none⟩ = some (.int .i64 k') ∧ w1.cell? ⟨b', o' + 1, none⟩ = some (.int .i64 n') ∧ w1.cell? ⟨b', o' + 2, none⟩ = some (.string s') ∧ Below w0.heap.size w0 w1 := by
  obtain ⟨⟨c0, c1, c2⟩, h1⟩ := h
  have hlt := World.block_lt_of_cell? wc _ c0
  exact ⟨⟨(hb.cell (p := ⟨b, o, none⟩) hlt).trans c0, (hb.cell (p := ⟨b, o + 1, none⟩) hlt).trans c1, (hb.cell (p := ⟨b, o + 2, none⟩) hlt).trans c2⟩, heldV_step hb h1⟩
theorem W_ValueBack (k n : Int) (s : ByteArray) (w : World) (hok : (⟨k, n, s⟩ : V).ok) (ht : Tab w) (hE : ErrV w) :
    Calls Tryd.prog 5 #[.agg #[.int .i64 k, .int .i64 n, .string s]] w fun e w' => e = .returned (.bool true) ∧ Below w.heap.size w w' := by
  have hb0 : Below w.heap.size w (w.alloc (.cells #[.int .i64 k, .int .i64 n, .string s] 24)) := (Below.refl _ _).alloc (Nat.le_refl _) _
  have hn0 : (w.alloc (.cells #[.int .i64 k, .int .i64 n, .string s] 24)).heap[w.heap.size]? = some (.cells #[.int .i64 k, .int .i64 n, .string s] 24) := heap_alloc_new _ _
  obtain ⟨c0, c1, c2, _, _, _⟩ := box3 hn0
  have Hn0 := Lib.hid hn0
  have Hok := Lib.hid hok
  have Ht := Lib.hid ht
  have HE := Lib.hid hE
  clear hn0 hok ht hE
  by_cases h200 : 200 < s.size
  · have z : decide ((200 : Int) < (s.size : Int)) = true := by simp; omega
    clear h200
    go_enter Tryd.func5, Tryd.ntmps5
    go_wp2_with fail
    refine (awake_any _).mono ?_
    rintro e w1 ⟨rfl, hb1⟩
    go_wp2_with fail
    go_ret
    exact ⟨rfl, hb0.trans (hb1.mono (by simp))⟩
  · have z : decide ((200 : Int) < (s.size : Int)) = false := by simp; omega
    clear h200
    rcases hc : cleanV ⟨k, n, s⟩ with ⟨kc, nc, sc⟩
    have hF := fun w ht => format_any k n s w Hok.out.2.2 ht
    have hback := parse_back ⟨k, n, s⟩
    have hfl := fmt_len ⟨k, n, s⟩
    rw [hc] at hF hback hfl
    obtain ⟨f, hf⟩ : ∃ f : ByteArray, f = ⟨(fmtV ⟨kc, nc, sc⟩).toArray⟩ := ⟨_, rfl⟩
    have hfs : f.size ≤ 1000000 := by rw [hf]; simp only [ByteArray.size, List.size_toArray]; omega
    have hP := fun w h => parse_any f w hfs h
    have hfd : f.data.toList = fmtV ⟨kc, nc, sc⟩ := by rw [hf]
    rw [hfd, hback] at hP
    rw [← hf] at hF
    have hC := fun w => clean_is w Hok.out.2.2 hc
    have HF := Lib.hid hF
    have HP := Lib.hid hP
    have HC := Lib.hid hC
    have hg := guardV
    have heq := fun w => (eqlV kc nc kc nc sc sc w).trans (by simp : _ = Result.ok (.bool true) w)
    have Heq := Lib.hid heq
    clear hF hP hC hback hfl hf hfd hc heq
    go_enter Tryd.func5, Tryd.ntmps5
    go_wp2_with fail
    refine (HF.out _ (tab_below Ht.out hb0)).mono ?_
    rintro e w1 ⟨rfl, hb1⟩
    have hb01 := hb0.trans (hb1.mono (by simp))
    have Hn1 := Lib.hid ((hb1.block _ (by simp)).trans Hn0.out)
    have hl1 := (Array.getElem?_eq_some_iff.1 Hn1.out).1
    have hs1 := hb01.size
    clear hb1
    go_wp2_with fail
    refine (HP.out _ (err_below HE.out hb01)).mono ?_
    rintro e w2 ⟨hb2, rfl⟩
    have hb02 := hb01.trans (hb2.mono hb01.size)
    have Hn2 := Lib.hid ((hb2.block _ hl1).trans Hn1.out)
    have hl2 := (Array.getElem?_eq_some_iff.1 Hn2.out).1
    have hs2 := hb02.size
    clear hb2 hb01 c0 c1 c2
    have hnn : (w2.alloc (.cells #[.int .i64 kc, .int .i64 nc, .string sc] 24)).heap[w2.heap.size]? = some (.cells #[.int .i64 kc, .int .i64 nc, .string sc] 24) := heap_alloc_new _ _
    obtain ⟨d0, d1, d2, _, _, _⟩ := box3 hnn
    obtain ⟨c0, c1, c2, _, _, _⟩ := box3 ((Below.heap_alloc w2 (.cells #[.int .i64 kc, .int .i64 nc, .string sc] 24) _ hl2).trans Hn2.out)
    have hb03 : Below w.heap.size w (w2.alloc (.cells #[.int .i64 kc, .int .i64 nc, .string sc] 24)) := hb02.alloc hs2 _
    have heq := Heq.out
    go_wp2_with fail
    go_region_held3 (fun w1 => (w1.cell? ⟨w2.heap.size, 0, none⟩ = some (.int .i64 kc) ∧ w1.cell? ⟨w2.heap.size, 0 + 1, none⟩ = some (.int .i64 nc) ∧ w1.cell? ⟨w2.heap.size, 0 + 2, none⟩ = some (.string sc)) ∧ w1.cell? ⟨w.heap.size, 0, none⟩ = some (.int .i64 k) ∧ w1.cell? ⟨w.heap.size, 0 + 1, none⟩ = some (.int .i64 n) ∧ w1.cell? ⟨w.heap.size, 0 + 2, none⟩ = some (.string s) ∧ Below w.heap.size w w1)
      (first | exact ⟨⟨d0, d1, d2⟩, c0, c1, c2, hb03.drew⟩ | exact heldVV (hb := by assumption) (h := by assumption))
      ((first
        | (go_at_call 21; refine (HC.out _).mono ?_; rintro e w3 ⟨rfl, hb3⟩)
        | (go_at_call 13; refine (awake_any _).mono ?_; rintro e w3 ⟨rfl, hb3⟩)))
    obtain ⟨_, _, _, _, hbf⟩ : (w3.cell? ⟨w2.heap.size, 0, none⟩ = some (.int .i64 kc) ∧ w3.cell? ⟨w2.heap.size, 0 + 1, none⟩ = some (.int .i64 nc) ∧ w3.cell? ⟨w2.heap.size, 0 + 2, none⟩ = some (.string sc)) ∧ w3.cell? ⟨w.heap.size, 0, none⟩ = some (.int .i64 k) ∧ w3.cell? ⟨w.heap.size, 0 + 1, none⟩ = some (.int .i64 n) ∧ w3.cell? ⟨w.heap.size, 0 + 2, none⟩ = some (.string s) ∧ Below w.heap.size w w3 := by assumption
    go_wp2_with fail
    go_ret
    exact ⟨rfl, hbf⟩
end Go.Proofs.YtninmolgkkhikaaDoor
