/- Contracts of Format of package value at texts, and of awake: it returns true. -/
import Derived.Test.YtninmolgkkhikaaDoorVd
namespace Go.Proofs.YtninmolgkkhikaaDoor
open Go.RowKit Go.Proofs.EB
open Go.Lib (byteCells)
set_option maxHeartbeats 400000

theorem format_text (s : ByteArray) (w : World) (hs : s.size ≤ 32) :
    Calls Tryd.prog 20 #[.agg #[.int .i64 2, .int .i64 0, .string s]] w fun e w' => e = .returned (.string ⟨(quoteL s.data.toList ++ [34]).toArray⟩) ∧ Below w.heap.size w w' := by
  have hv : validB 2 0 s = true := by simp [validB]; omega
  have hm : s.size ≤ maxLen := by unfold maxLen; omega
  go_enter Tryd.func20, Tryd.ntmps20
  go_wp2_with fail
  refine (clean_any _ _ _ _ hm).mono ?_
  rintro e w1 ⟨k1, n1, s1, rfl, hcl, hb1⟩
  simp only [cleanV, vB, hv, if_true, V.mk.injEq] at hcl
  obtain ⟨rfl, rfl, rfl⟩ := hcl
  have hb1' := below_old2 hb1
  have hn := below_new (by simpa using hb1)
  obtain ⟨c0, c1, c2, f0, f1, f2⟩ := box3 hn
  clear hn hb1
  have hsz := hb1'.size
  go_wp2_with fail
  refine (quote_any _ _ (by omega)).mono ?_
  rintro e w2 ⟨rfl, hb2⟩
  go_wp2_with fail
  go_ret
  refine ⟨rfl, ?_⟩
  refine Below.trans ?_ (hb2.mono (by simp; omega))
  exact ((hb1'.setCell (by simp) _).setCell (by simp) _).setCell (by simp) _

theorem awake_any (w : World) : Calls Tryd.prog 13 #[] w fun e w' => e = .returned (.bool true) ∧ Below w.heap.size w w' := by
  go_enter Tryd.func13, Tryd.ntmps13
  go_wp2_with fail
  refine (valid_any _ _ _ _ (by simp [maxLen, ByteArray.size])).mono ?_
  rintro e w1 ⟨rfl, rfl⟩
  have hv : validB 2 0 ⟨#[97, 34, 10]⟩ = true := by decide
  go_wp2_with fail
  refine (format_text _ _ (by decide)).mono ?_
  rintro e w1 ⟨rfl, hb1⟩
  have hq : (quoteL [97, 34, 10] ++ [34]) = [34, 97, 92, 50, 50, 92, 48, 97, 34] := by decide
  go_wp2_with fail
  have hrow : RowAt (w1.alloc (.cells #[.int .i64 0, .int .i64 0, .string ⟨#[]⟩, .int .i64 2, .int .i64 0, .string ⟨#[97]⟩] 24)) (w1.alloc (.cells #[.int .i64 0, .int .i64 0, .string ⟨#[]⟩, .int .i64 2, .int .i64 0, .string ⟨#[97]⟩] 24)).heap.size
      (some ⟨w1.heap.size, 0, none⟩) [⟨0, 0, ⟨#[]⟩⟩, ⟨2, 0, ⟨#[97]⟩⟩] := by
    refine ⟨?_, .inr ⟨w1.heap.size, 0, rfl, by simp, ?_⟩⟩
    · intro v hv
      simp at hv
      rcases hv with rfl | rfl <;> exact ⟨by simp, by simp, by simp [maxLen, ByteArray.size]⟩
    · intro i hi
      match i, hi with
      | 0, _ => simp [VCells]
      | 1, _ => simp [VCells]
  refine (encodeRow_any _ _ [⟨0, 0, ⟨#[]⟩⟩, ⟨2, 0, ⟨#[97]⟩⟩] _ (by simp) hrow).mono ?_
  rintro e w2 ⟨rfl, hb2⟩
  have he : encRow [⟨0, 0, ⟨#[]⟩⟩, ⟨2, 0, ⟨#[97]⟩⟩] = [1, 3, 97, 0, 0] := by decide +kernel
  go_wp2_with fail
  go_ret
  refine ⟨rfl, ?_⟩
  have h1 := hb1.size
  simp at h1
  refine Below.trans ?_ (hb2.mono (by simp; omega))
  refine Below.alloc ?_ (by omega) _
  refine Below.trans ?_ (hb1.mono (by simp; omega))
  exact ((Below.refl _ _).alloc (by simp) _).alloc (by simp) _
end Go.Proofs.YtninmolgkkhikaaDoor
