/- The walk of the law ValueParse. -/
import Derived.Test.YtninmolgkkhikaaDoorPf
namespace Go.Proofs.YtninmolgkkhikaaDoor
open Go.RowKit Go.Proofs.EB
set_option maxHeartbeats 1000000
attribute [local go_sem] World.cell?_alloc_some
theorem W_ValueParse (s : ByteArray) (w : World) (_ : s.size ≤ maxLen) (hE : ErrV w) :
    Calls Tryd.prog 3 #[.string s] w fun e w' => e = .returned (.bool true) ∧ Below w.heap.size w w' := by
  by_cases h300 : 300 < s.size
  · have z : decide ((300 : Int) < (s.size : Int)) = true := by simp; omega
    clear h300
    go_enter Tryd.func3, Tryd.ntmps3
    go_wp2_with fail
    refine (awake_any _).mono ?_
    rintro e w1 ⟨rfl, hb1⟩
    go_wp2_with fail
    go_ret
    exact ⟨rfl, hb1⟩
  · have z : decide ((300 : Int) < (s.size : Int)) = false := by simp; omega
    have hs : s.size ≤ 1000000 := by omega
    have hP := fun w h => parse_any s w hs h
    have hQ := fun w => rparse_any s w hs
    rcases hr : parseS s.data.toList with ⟨⟨k, n, t⟩, r⟩
    rw [hr] at hP hQ
    have HP := Lib.hid hP
    have HQ := Lib.hid hQ
    have HE := Lib.hid hE
    have hg := guardV
    have heq := fun w => (eqlV k n k n t t w).trans (by simp : _ = Result.ok (.bool true) w)
    have Heq := Lib.hid heq
    clear h300 hP hQ hr hE heq
    go_enter Tryd.func3, Tryd.ntmps3
    go_wp2_with fail
    refine (HP.out _ HE.out).mono ?_
    rintro e w1 ⟨hb1, rfl⟩
    have hn1 : (w1.alloc (.cells #[.int .i64 k, .int .i64 n, .string t] 24)).heap[w1.heap.size]? = some (.cells #[.int .i64 k, .int .i64 n, .string t] 24) := heap_alloc_new _ _
    have Hn1 := Lib.hid hn1
    have hb1' : Below w.heap.size w (w1.alloc (.cells #[.int .i64 k, .int .i64 n, .string t] 24)) := hb1.alloc hb1.size _
    clear hn1
    go_wp2_with fail
    refine (HQ.out _).mono ?_
    rintro e w2 ⟨hb2, rfl⟩
    have hb02 := hb1'.trans (hb2.mono hb1'.size)
    obtain ⟨c0, c1, c2, f0, f1, f2⟩ := box3 ((hb2.block _ (by simp)).trans Hn1.out)
    have hs2 := hb02.size
    have hlt2 : w1.heap.size < w2.heap.size := by have := hb2.size; simp at this; omega
    have heq := Heq.out
    have hnn : (w2.alloc (.cells #[.int .i64 k, .int .i64 n, .string t] 24)).heap[w2.heap.size]? = some (.cells #[.int .i64 k, .int .i64 n, .string t] 24) := heap_alloc_new _ _
    obtain ⟨d0, d1, d2, _, _, _⟩ := box3 hnn
    have Hb02 := Lib.hid hb02
    clear hb2 hb1' hnn hb02 hb1
    go_wp2_with fail
    refine (awake_any _).mono ?_
    rintro e w3 ⟨rfl, hb3⟩
    go_wp2_with fail
    go_ret
    exact ⟨rfl, (Hb02.out.alloc hs2 _).trans (hb3.mono (by simp; omega))⟩
end Go.Proofs.YtninmolgkkhikaaDoor
