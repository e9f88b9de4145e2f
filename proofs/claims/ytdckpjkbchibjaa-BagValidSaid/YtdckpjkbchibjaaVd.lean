/- Contracts of EncodeRow of package value and of its reference. -/
import Derived.Test.YtdckpjkbchibjaaVc
namespace Go.Proofs.Ytdckpjkbchibjaa
open Go.RowKit Go.Proofs.EB
open Go.Lib (byteCells)
set_option maxHeartbeats 400000

def encRow (l : List V) : List UInt8 := l.flatMap fun x => encV (cleanV x)
theorem int5_len (m : Int) : (int5 m).length = 5 := rfl
theorem encV_len (x : V) : (encV (cleanV x)).length ≤ 67 := by
  have h := cleanV_valid x
  generalize cleanV x = y at h
  obtain ⟨k, n, s⟩ := y
  unfold encV
  simp only
  by_cases h1 : k = 1
  · subst h1; simp [int5_len]
  · by_cases h2 : k = 2
    · subst h2
      have hr : s.size ≤ 32 := by simp [vB, validB] at h; omega
      have := escL_len s.data.toList
      have e : s.data.toList.length = s.size := by simp
      simp; omega
    · simp [h1, h2]
theorem encRow_snoc (l : List V) (x : V) : encRow (l ++ [x]) = encRow l ++ encV (cleanV x) := by simp [encRow]
theorem encRow_len (l : List V) : (encRow l).length ≤ 67 * l.length := by
  unfold encRow
  induction l with
  | nil => simp
  | cons a l ih => simp only [List.flatMap_cons, List.length_append, List.length_cons]; have := encV_len a; omega
theorem take_snocV (l : List V) (k : Nat) (h : k < l.length) : l.take (k + 1) = l.take k ++ [l[k]] := List.take_succ_eq_append_getElem h

theorem encodeRow_any (ao : Option Addr) (cap : Nat) (l : List V) (w : World) (hl : l.length ≤ 1000000) (hr : RowAt w w.heap.size ao l) :
    Calls Try.prog 67 #[.slice ao l.length cap] w fun e w' => e = .returned (.string ⟨(encRow l).toArray⟩) ∧ Below w.heap.size w w' := by
  go_enter Try.func67, Try.ntmps67
  go_wp2_with fail
  go_loopw [3, 8] (fun v i wr => ∃ (k : Nat) (l' : List UInt8) (vr : Value), k ≤ l.length ∧ i = .int .i64 k ∧ vr = v ∧ Hid (l' = encRow (l.take k)) ∧ OwnsB wr w.heap.size 5 vr l' ∧ Below w.heap.size w wr) (fun _ i _ => l.length - (intOf i).toNat)
  case atStart => exact ⟨0, [], _, Nat.zero_le _, rfl, rfl, by simp [Hid, encRow], OwnsB.nil _ _, Below.refl _ _⟩
  case round =>
    obtain ⟨k, l', vr, hk, rfl, rfl, hl', hown, hb⟩ := hrel
    have hle : l'.length ≤ 67000000 := by
      rw [hl'.out]
      have h1 := encRow_len (l.take k)
      have h2 : (l.take k).length ≤ k := List.length_take_le _ _
      omega
    have hsz := hb.size
    by_cases hlt : k < l.length
    · obtain ⟨b, off, kk, n, s, rfl, hbB, hv, hok, c1, c2, c3⟩ := (hr.below hb).at hlt
      have hq := encRow_snoc (l.take k) l[k]
      rw [← take_snocV l k hlt, hv] at hq
      have Hq := Lib.hid hq
      have Hok := Lib.hid hok
      clear hv hok hq
      go_wp2_with fail
      refine (clean_any _ _ _ _ Hok.out.2.2).mono ?_
      rintro e w1 ⟨k1, n1, s1, rfl, hcl, hb1⟩
      have hvc : validB k1 n1 s1 = true := by have := cleanV_valid ⟨kk, n, s⟩; rw [← hcl] at this; exact this
      have Hcl := Lib.hid hcl
      have hb1' := below_old2 hb1
      have hs1 := hb1'.size
      clear hcl hb1
      go_wp2_with fail
      refine (appendValue_any _ l' k1 n1 s1 w.heap.size _ hvc (by omega) (ownsB_below hown hb1') (by omega)).mono ?_
      rintro e w2 ⟨v2, rfl, hown2, hb2⟩
      go_wp2_with fail
      refine ⟨⟨k + 1, _, v2, by omega, by go_num, rfl, ?_, hown2, (hb.trans (hb1'.mono hsz)).trans hb2⟩, by simp [intOf]; omega⟩
      unfold Hid
      rw [Hq.out, hl'.out, Hcl.out]
    · obtain rfl : k = l.length := by omega
      have htk : l.take l.length = l := List.take_of_length_le (Nat.le_refl _)
      have hl4 := hl'.out
      rw [htk] at hl4
      clear hl'
      subst hl4
      go_wp2_with (refine wpList_b2s Try.underlying9 Try.underlying86 Try.underlying5 _ rfl (.tmp 17) rfl _ vr _ rfl hown ?_)
      go_ret
      exact ⟨rfl, hb⟩
end Go.Proofs.Ytdckpjkbchibjaa
