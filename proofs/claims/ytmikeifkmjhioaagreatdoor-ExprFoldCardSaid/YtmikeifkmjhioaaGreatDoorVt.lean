/- Format of package value, where the table of powers of ten reads as it is laid. -/
import Derived.Test.YtmikeifkmjhioaaGreatDoorVs
namespace Go.Proofs.YtmikeifkmjhioaaGreatDoor
open Go.RowKit Go.Proofs.EB
set_option maxHeartbeats 1000000
attribute [local go_sem] World.cell?_alloc_some

theorem var_below {P : Program} {w w' : World} {n : String} {cs : Array Value} (hb : Below w.heap.size w w') (h : w.var? P n = some cs) : w'.var? P n = some cs := by
  unfold World.var? at h ⊢
  cases hg : P.globalNamed n with
  | none => rw [hg] at h; simp at h
  | some g =>
    rw [hg] at h
    simp only [Option.bind_some] at h ⊢
    have hlt : g < w.heap.size := by
      rcases Nat.lt_or_ge g w.heap.size with h1 | h1
      · exact h1
      · rw [Array.getElem?_eq_none h1] at h; simp at h
    rw [hb.block g hlt]
    exact h
/-- The table that FormatInt reads. -/
def Tab (w : World) : Prop := Lib.TabIs Tryz.prog w "internal/strconv.uint64pow10" .u64 Lib.pow10Tab
theorem tab_below {w w' : World} (h : Tab w) (hb : Below w.heap.size w w') : Tab w' := var_below hb h
theorem below_grown {w : World} (k : Nat) (os : Array Obj) : Below w.heap.size w (Go.Sort.grow (w.drewN k) os) :=
  ⟨rfl, rfl, rfl, by simp [Go.Sort.grow, World.drewN], fun i hi => by simp only [Go.Sort.grow, World.drewN, Array.getElem?_append_left hi]⟩
theorem fmtInt_b (n : Int) (h0 : -9223372036854775808 ≤ n) (h1 : n ≤ 9223372036854775807) (w : World) (h : Tab w) :
    Calls Tryz.prog 94 #[.int .i64 n, .int .i64 10] w fun e w' => e = .returned (.string ⟨(Lib.itoa n).toArray⟩) ∧ Below w.heap.size w w' :=
  (Tryz.strconv_FormatInt_10 n h0 h1 w h).mono fun _ _ hp => by
    obtain ⟨he, k, os, rfl⟩ := hp
    exact ⟨he, below_grown k os⟩
theorem format_any (k n : Int) (s : ByteArray) (w : World) (hs : s.size ≤ maxLen) (htab : Tab w) :
    Calls Tryz.prog 64 #[.agg #[.int .i64 k, .int .i64 n, .string s]] w fun e w' => e = .returned (.string ⟨(fmtV (cleanV ⟨k, n, s⟩)).toArray⟩) ∧ Below w.heap.size w w' := by
  have hvc := cleanV_valid ⟨k, n, s⟩
  rcases clean_shape ⟨k, n, s⟩ with hc | ⟨n1, hc⟩ | ⟨s1, hc⟩
  · have hf : fmtV (cleanV ⟨k, n, s⟩) = [110, 117, 108, 108] := by rw [hc]; rfl
    rw [hf]
    have Hc := Lib.hid hc
    clear hc hf hvc
    go_enter Tryz.func64, Tryz.ntmps64
    go_wp2_with fail
    refine (clean_any _ _ _ _ hs).mono ?_
    rintro e w1 ⟨k1, n1, s1, rfl, hcl, hb1⟩
    rw [Hc.out] at hcl
    simp only [V.mk.injEq] at hcl
    obtain ⟨rfl, rfl, rfl⟩ := hcl
    have hb1' := below_old2 hb1
    obtain ⟨c0, c1, c2, f0, f1, f2⟩ := box3 (below_new (by simpa using hb1))
    clear hb1
    go_wp2_with fail
    go_ret
    exact ⟨rfl, ((hb1'.setCell (by simp) _).setCell (by simp) _).setCell (by simp) _⟩
  · have hf : fmtV (cleanV ⟨k, n, s⟩) = Lib.itoa n1 := by rw [hc]; rfl
    rw [hf]
    rw [hc] at hvc
    have hr : -4294967296 ≤ n1 ∧ n1 ≤ 4294967296 := by simp [vB, validB] at hvc; omega
    have Hc := Lib.hid hc
    have Hr := Lib.hid hr
    clear hc hf hvc hr
    go_enter Tryz.func64, Tryz.ntmps64
    go_wp2_with fail
    refine (clean_any _ _ _ _ hs).mono ?_
    rintro e w1 ⟨k1, n2, s1, rfl, hcl, hb1⟩
    rw [Hc.out] at hcl
    simp only [V.mk.injEq] at hcl
    obtain ⟨rfl, rfl, rfl⟩ := hcl
    have hb1' := below_old2 hb1
    obtain ⟨c0, c1, c2, f0, f1, f2⟩ := box3 (below_new (by simpa using hb1))
    have hsz := hb1'.size
    clear hb1
    go_wp2_with fail
    refine (fmtInt_b _ (by have := Hr.out; omega) (by have := Hr.out; omega) _ (tab_below htab (((hb1'.setCell (by simp) _).setCell (by simp) _).setCell (by simp) _))).mono ?_
    rintro e w2 ⟨rfl, hb2⟩
    go_wp2_with fail
    go_ret
    refine ⟨rfl, ?_⟩
    refine Below.trans ?_ (hb2.mono (by simp; omega))
    exact ((hb1'.setCell (by simp) _).setCell (by simp) _).setCell (by simp) _
  · have hf : fmtV (cleanV ⟨k, n, s⟩) = quoteL s1.data.toList ++ [34] := by rw [hc]; rfl
    rw [hf]
    rw [hc] at hvc
    have hr : s1.size ≤ 32 := by simp [vB, validB] at hvc; omega
    have Hc := Lib.hid hc
    clear hc hf hvc
    go_enter Tryz.func64, Tryz.ntmps64
    go_wp2_with fail
    refine (clean_any _ _ _ _ hs).mono ?_
    rintro e w1 ⟨k1, n2, s2, rfl, hcl, hb1⟩
    rw [Hc.out] at hcl
    simp only [V.mk.injEq] at hcl
    obtain ⟨rfl, rfl, rfl⟩ := hcl
    have hb1' := below_old2 hb1
    obtain ⟨c0, c1, c2, f0, f1, f2⟩ := box3 (below_new (by simpa using hb1))
    have hsz := hb1'.size
    clear hb1
    go_wp2_with fail
    refine (quote_any _ _ (by omega)).mono ?_
    rintro e w2 ⟨rfl, hb2⟩
    go_wp2_with fail
    go_ret
    refine ⟨rfl, ?_⟩
    refine Below.trans ?_ (hb2.mono (by simp; omega))
    exact ((hb1'.setCell (by simp) _).setCell (by simp) _).setCell (by simp) _
end Go.Proofs.YtmikeifkmjhioaaGreatDoor
