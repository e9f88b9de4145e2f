/- The walk of the law ValueFormat. -/
import Derived.Test.YtkdjbgjcccnijaaDoorTt
namespace Go.Proofs.YtkdjbgjcccnijaaDoor
open Go.RowKit Go.Proofs.EB
set_option maxHeartbeats 1000000
attribute [local go_sem] World.cell?_alloc_some
theorem W_ValueFormat (k n : Int) (s : ByteArray) (w : World) (hok : (⟨k, n, s⟩ : V).ok) (ht : Tab w) :
    Calls Tryd.prog 7 #[.agg #[.int .i64 k, .int .i64 n, .string s]] w fun e w' => e = .returned (.bool true) ∧ Below w.heap.size w w' := by
  have hAw : ∀ w1, Below w.heap.size w w1 → Calls Tryd.prog 15 #[] w1 fun e w' => e = .returned (.bool true) ∧ Below w.heap.size w w' := fun w1 h1 => (awake_any w1).mono fun _ _ h => ⟨h.1, h1.trans (h.2.mono h1.size)⟩
  have hb0 : Below w.heap.size w (w.alloc (.cells #[.int .i64 k, .int .i64 n, .string s] 27)) := (Below.refl _ _).alloc (Nat.le_refl _) _
  have hn0 : (w.alloc (.cells #[.int .i64 k, .int .i64 n, .string s] 27)).heap[w.heap.size]? = some (.cells #[.int .i64 k, .int .i64 n, .string s] 27) := heap_alloc_new _ _
  obtain ⟨c0, c1, c2, _, _, _⟩ := box3 hn0
  have Hok := Lib.hid hok
  have Ht := Lib.hid ht
  clear hn0 hok ht
  by_cases h200 : 200 < s.size
  · have z : decide ((200 : Int) < (s.size : Int)) = true := by simp; omega
    clear h200
    go_enter Tryd.func7, Tryd.ntmps7
    go_wp2_with fail
    refine (hAw _ hb0).mono ?_
    rintro e w1 ⟨rfl, hb1⟩
    go_wp2_with fail
    go_ret
    exact ⟨rfl, hb1⟩
  · have z : decide ((200 : Int) < (s.size : Int)) = false := by simp; omega
    clear h200
    obtain ⟨f, hf⟩ : ∃ f : ByteArray, f = ⟨(fmtV (cleanV ⟨k, n, s⟩)).toArray⟩ := ⟨_, rfl⟩
    have hF : ∀ W, Tab W → Calls Tryd.prog 29 #[.agg #[.int .i64 k, .int .i64 n, .string s]] W fun e w' => e = .returned (.string f) ∧ Below W.heap.size W w' := by rw [hf]; exact fun W h => format_any k n s W Hok.out.2.2 h
    have hR : ∀ W, Calls Tryd.prog 30 #[.agg #[.int .i64 k, .int .i64 n, .string s]] W fun e w' => e = .returned (.string f) ∧ Below W.heap.size W w' := by rw [hf]; exact fun W => rformat_any k n s W Hok.out.2.2
    have hg : (f.toList == f.toList) = true := by simp
    clear hf
    go_enter Tryd.func7, Tryd.ntmps7
    go_wp2_with fail
    go_region_held3 (fun w1 => w1.cell? ⟨w.heap.size, 0, none⟩ = some (.int .i64 k) ∧ w1.cell? ⟨w.heap.size, 0 + 1, none⟩ = some (.int .i64 n) ∧ w1.cell? ⟨w.heap.size, 0 + 2, none⟩ = some (.string s) ∧ Below w.heap.size w w1)
      (first | exact ⟨c0, c1, c2, hb0.drew⟩ | exact heldV_step (hb := by assumption) (h := by assumption))
      ((first
        | (go_at_call 29; refine (hF _ (tab_below Ht.out (And.right (And.right (And.right (by assumption)))))).mono ?_; rintro e w1 ⟨rfl, hb1⟩)
        | (go_at_call 30; refine (hR _).mono ?_; rintro e w1 ⟨rfl, hb1⟩)
        | (go_at_call 15; refine (awake_any _).mono ?_; rintro e w1 ⟨rfl, hb1⟩)))
    obtain ⟨_, _, _, hbf⟩ : w1.cell? ⟨w.heap.size, 0, none⟩ = some (.int .i64 k) ∧ w1.cell? ⟨w.heap.size, 0 + 1, none⟩ = some (.int .i64 n) ∧ w1.cell? ⟨w.heap.size, 0 + 2, none⟩ = some (.string s) ∧ Below w.heap.size w w1 := by assumption
    go_wp2_with fail
    go_ret
    exact ⟨rfl, hbf⟩
end Go.Proofs.YtkdjbgjcccnijaaDoor
