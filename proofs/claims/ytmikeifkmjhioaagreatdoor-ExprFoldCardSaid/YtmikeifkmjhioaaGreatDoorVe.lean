/- Contracts of Format of package value at texts, and of awake: it returns true. -/
import Derived.Test.YtmikeifkmjhioaaGreatDoorVd
namespace Go.Proofs.YtmikeifkmjhioaaGreatDoor
open Go.RowKit Go.Proofs.EB
open Go.Lib (byteCells)
set_option maxHeartbeats 400000

theorem format_text (s : ByteArray) (w : World) (hs : s.size ≤ 32) :
    Calls Tryz.prog 64 #[.agg #[.int .i64 2, .int .i64 0, .string s]] w fun e w' => e = .returned (.string ⟨(quoteL s.data.toList ++ [34]).toArray⟩) ∧ Below w.heap.size w w' := by
  have hv : validB 2 0 s = true := by simp [validB]; omega
  have hm : s.size ≤ maxLen := by unfold maxLen; omega
  go_enter Tryz.func64, Tryz.ntmps64
  go_wp2_with fail
  refine (clean_any _ _ _ _ hm).mono ?_
  rintro e w1 ⟨k1, n1, s1, rfl, hcl, hb1⟩
  simp only [cleanV, vB, hv, if_true, V.mk.injEq] at hcl
  obtain ⟨rfl, rfl, rfl⟩ := hcl
  have hb1' := below_old2 hb1
  have hn := below_new (by simpa using hb1)
  obtain ⟨c0, c1, c2, f0, f1, f2⟩ := box3 hn
  clear hn hb1
  have hsz := hb1'.size
  go_wp2_with fail
  refine (quote_any _ _ (by omega)).mono ?_
  rintro e w2 ⟨rfl, hb2⟩
  go_wp2_with fail
  go_ret
  refine ⟨rfl, ?_⟩
  refine Below.trans ?_ (hb2.mono (by simp; omega))
  exact ((hb1'.setCell (by simp) _).setCell (by simp) _).setCell (by simp) _

end Go.Proofs.YtmikeifkmjhioaaGreatDoor
