/- The walk of the law LexerScan. -/
import Derived.Test.YtninmolgkkhikaaDoorLi
namespace Go.Proofs.YtninmolgkkhikaaDoor
open Go.RowKit Go.Proofs.EB
set_option maxHeartbeats 1000000
attribute [local go_sem] World.cell?_alloc_some
theorem W_LexerScan (s : ByteArray) (w : World) (_ : s.size ≤ maxLen) (hE : ErrV w) :
    Calls Tryd.prog 7 #[.string s] w fun e w' => e = .returned (.bool true) ∧ Below w.heap.size w w' := by
  have HE := Lib.hid hE
  clear hE
  by_cases h500 : 500 < s.size
  · have z : decide ((500 : Int) < (s.size : Int)) = true := by simp; omega
    clear h500
    go_enter Tryd.func7, Tryd.ntmps7
    go_wp2_with fail
    refine (lawake_any _ HE.out).mono ?_
    rintro e w1 ⟨rfl, hb1⟩
    go_wp2_with fail
    go_ret
    exact ⟨rfl, hb1⟩
  · have z : decide ((500 : Int) < (s.size : Int)) = false := by simp; omega
    have hs : s.size ≤ 1000000 := by omega
    clear h500
    go_enter Tryd.func7, Tryd.ntmps7
    go_wp2_with fail
    refine (scans_any s _ hs HE.out).mono ?_
    rintro e w1 ⟨rfl, hb1⟩
    go_wp2_with fail
    refine (lawake_any _ (err_below HE.out hb1)).mono ?_
    rintro e w2 ⟨rfl, hb2⟩
    go_wp2_with fail
    go_ret
    exact ⟨rfl, hb1.trans (hb2.mono hb1.size)⟩
end Go.Proofs.YtninmolgkkhikaaDoor
