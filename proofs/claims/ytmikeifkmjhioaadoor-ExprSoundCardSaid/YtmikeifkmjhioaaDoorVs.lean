/- The reference's Format. -/
import Derived.Test.YtmikeifkmjhioaaDoorVr
namespace Go.Proofs.YtmikeifkmjhioaaDoor
open Go.RowKit Go.Proofs.EB
set_option maxHeartbeats 1000000
attribute [local go_sem] World.cell?_alloc_some

/-- The text form of a clean value. -/
def fmtV (x : V) : List UInt8 := if x.k = 1 then Lib.itoa x.n else if x.k = 2 then quoteL x.s.data.toList ++ [34] else [110, 117, 108, 108]
theorem rformat_any (k n : Int) (s : ByteArray) (w : World) (hs : s.size ≤ maxLen) :
    Calls Tryd.prog 91 #[.agg #[.int .i64 k, .int .i64 n, .string s]] w fun e w' => e = .returned (.string ⟨(fmtV (cleanV ⟨k, n, s⟩)).toArray⟩) ∧ Below w.heap.size w w' := by
  have hvc := cleanV_valid ⟨k, n, s⟩
  rcases clean_shape ⟨k, n, s⟩ with hc | ⟨n1, hc⟩ | ⟨s1, hc⟩
  · have hf : fmtV (cleanV ⟨k, n, s⟩) = [110, 117, 108, 108] := by rw [hc]; rfl
    rw [hf]
    have Hc := Lib.hid hc
    clear hc hf hvc
    go_enter Tryd.func91, Tryd.ntmps91
    go_wp2_with fail
    refine (rclean_any _ _ _ _ hs).mono ?_
    rintro e w1 ⟨k1, n1, s1, rfl, hcl, hb1⟩
    rw [Hc.out] at hcl
    simp only [V.mk.injEq] at hcl
    obtain ⟨rfl, rfl, rfl⟩ := hcl
    have hb1' := below_old2 hb1
    obtain ⟨c0, c1, c2, f0, f1, f2⟩ := box3 (below_new (by simpa using hb1))
    clear hb1
    go_wp2_with fail
    go_ret
    exact ⟨rfl, ((hb1'.setCell (by simp) _).setCell (by simp) _).setCell (by simp) _⟩
  · have hf : fmtV (cleanV ⟨k, n, s⟩) = Lib.itoa n1 := by rw [hc]; rfl
    rw [hf]
    rw [hc] at hvc
    have hr : -4294967296 ≤ n1 ∧ n1 ≤ 4294967296 := by simp [vB, validB] at hvc; omega
    have Hc := Lib.hid hc
    have Hr := Lib.hid hr
    clear hc hf hvc hr
    go_enter Tryd.func91, Tryd.ntmps91
    go_wp2_with fail
    refine (rclean_any _ _ _ _ hs).mono ?_
    rintro e w1 ⟨k1, n2, s1, rfl, hcl, hb1⟩
    rw [Hc.out] at hcl
    simp only [V.mk.injEq] at hcl
    obtain ⟨rfl, rfl, rfl⟩ := hcl
    have hb1' := below_old2 hb1
    obtain ⟨c0, c1, c2, f0, f1, f2⟩ := box3 (below_new (by simpa using hb1))
    have hsz := hb1'.size
    clear hb1
    go_wp2_with fail
    refine (digits_any _ (by have := Hr.out; omega) (by have := Hr.out; omega) _).mono ?_
    rintro e w2 ⟨rfl, hb2⟩
    go_wp2_with fail
    go_ret
    refine ⟨rfl, ?_⟩
    refine Below.trans ?_ (hb2.mono (by simp; omega))
    exact ((hb1'.setCell (by simp) _).setCell (by simp) _).setCell (by simp) _
  · have hf : fmtV (cleanV ⟨k, n, s⟩) = quoteL s1.data.toList ++ [34] := by rw [hc]; rfl
    rw [hf]
    rw [hc] at hvc
    have hr : s1.size ≤ 32 := by simp [vB, validB] at hvc; omega
    have Hc := Lib.hid hc
    clear hc hf hvc
    go_enter Tryd.func91, Tryd.ntmps91
    go_wp2_with fail
    refine (rclean_any _ _ _ _ hs).mono ?_
    rintro e w1 ⟨k1, n2, s2, rfl, hcl, hb1⟩
    rw [Hc.out] at hcl
    simp only [V.mk.injEq] at hcl
    obtain ⟨rfl, rfl, rfl⟩ := hcl
    have hb1' := below_old2 hb1
    obtain ⟨c0, c1, c2, f0, f1, f2⟩ := box3 (below_new (by simpa using hb1))
    have hsz := hb1'.size
    clear hb1
    go_wp2_with fail
    refine (rquote_any _ _ (by omega)).mono ?_
    rintro e w2 ⟨rfl, hb2⟩
    go_wp2_with fail
    go_ret
    refine ⟨rfl, ?_⟩
    refine Below.trans ?_ (hb2.mono (by simp; omega))
    exact ((hb1'.setCell (by simp) _).setCell (by simp) _).setCell (by simp) _
end Go.Proofs.YtmikeifkmjhioaaDoor
