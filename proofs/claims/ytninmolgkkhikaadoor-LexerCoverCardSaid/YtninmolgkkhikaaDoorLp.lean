/- Join of the reference. -/
import Derived.Test.YtninmolgkkhikaaDoorLo
namespace Go.Proofs.YtninmolgkkhikaaDoor
open Go.RowKit Go.Proofs.EB Go.Proofs.TX
set_option maxHeartbeats 2000000
attribute [local go_sem] World.cell?_alloc_some

theorem str_eq {u : ByteArray} {l : List UInt8} (h : u.data.toList = l) : u = ⟨l.toArray⟩ := by rw [← h]
theorem rjoin_any (ao : Option Addr) (cap : Nat) (l : List Tok) (w : World) (hl : l.length ≤ 100000) (hra : ToksAt w w.heap.size ao l)
    (hb : ∀ t ∈ l, t.s.size ≤ 1000000 ∧ (-9223372036854775808 ≤ t.n ∧ t.n ≤ 9223372036854775807)) (hsz : ∀ k, k ≤ l.length → (joinL (l.take k)).length ≤ 1000000) :
    Calls Tryd.prog 31 #[.slice ao l.length cap] w fun e w' => e = .returned (.string ⟨(joinL l).toArray⟩) ∧ Below w.heap.size w w' := by
  have Hbd := Lib.hid hb
  have Hsz := Lib.hid hsz
  obtain ⟨R, hR⟩ : ∃ R, R = joinL l := ⟨_, rfl⟩
  rw [← hR]
  have HR := Lib.hid hR
  clear hb hsz hR
  go_enter Tryd.func31, Tryd.ntmps31
  go_wp2_with fail
  go_loopw [3, 4] (fun v i wr => ∃ (k : Nat) (u : ByteArray), k ≤ l.length ∧ i = .int .i64 k ∧ v = .string u ∧ Hid (u.data.toList = joinL (l.take k)) ∧ Below w.heap.size w wr) (fun _ i _ => l.length - (intOf i).toNat)
  case atStart => exact ⟨0, ⟨#[]⟩, Nat.zero_le _, rfl, rfl, rfl, Below.refl _ _⟩
  case round =>
    obtain ⟨k, u, hk, rfl, rfl, hacc, hbl⟩ := hrel
    have hs0 := hbl.size
    have hus : u.data.toList.length = u.size := by simp
    by_cases hlt : k < l.length
    · have hst := joinL_take hlt
      have hul : u.size ≤ 1000000 := by rw [← hus, hacc.out]; exact Hsz.out k hk
      have hal2 : Hid ((addT u.data.toList l[k]).length ≤ 1000000) := by unfold Hid; rw [hacc.out, ← hst]; exact Hsz.out (k + 1) hlt
      have hbk := Hbd.out l[k] (List.getElem_mem hlt)
      have htx : textT l[k] = textK l[k].k l[k].n l[k].s := rfl
      obtain ⟨b1, o1, tk, ts, tn, tp, rfl, hB1, hv1, c1, c2, c3, c4⟩ := (hra.below hbl).at hlt
      rw [← hacc.out] at hst
      rw [hv1] at hst hbk htx hal2
      have hki : (k : Int) < (l.length : Int) := by omega
      have hki0 : (0 : Int) ≤ (k : Int) := by omega
      have Hst := Lib.hid hst
      have hT := fun w => rtextT_any tk tn tp ts w hbk.1
      have HT := Lib.hid hT
      cases hx : textK tk tn ts with
      | none =>
        have hnx : Hid (joinL (l.take (k + 1)) = u.data.toList) := by unfold Hid; rw [Hst.out]; unfold addT; rw [htx]; simp only [hx]
        have Hx := Lib.hid hx
        clear hst hbk htx hal2 hT hx hv1 hus
        go_wp2_with fail
        refine (HT.out _).mono ?_
        rintro e w1 ⟨t, ok, rfl, hb1, hok, _⟩
        rw [Hx.out] at hok
        obtain rfl : ok = false := hok
        have hb2 := hbl.trans (hb1.mono hs0)
        clear hb1
        go_wp2_with fail
        exact ⟨⟨k + 1, u, by omega, by go_num, rfl, hnx.out.symm, hb2⟩, by simp [intOf]; omega⟩
      | some x =>
        have hadd : addT u.data.toList ⟨tk, ts, tn, tp⟩ = if u.data.toList = [] then x else u.data.toList ++ 32 :: x := by unfold addT; rw [htx]; simp only [hx]
        have hxl : x.length ≤ 1000000 := by
          have := hal2.out
          rw [hadd] at this
          split at this
          · exact this
          · simp at this; omega
        have hnx : Hid (joinL (l.take (k + 1)) = if u.data.toList = [] then x else u.data.toList ++ 32 :: x) := by unfold Hid; rw [Hst.out, hadd]
        have Hx := Lib.hid hx
        clear hst hbk htx hal2 hT hx hv1 hadd
        by_cases hu0 : u.size = 0
        · have hnil : u.data.toList = [] := List.eq_nil_of_length_eq_zero (by omega)
          have ze := strEmpty hu0
          have hu1 : u = ⟨#[]⟩ := str_eq hnil
          have Hnx : Hid (joinL (l.take (k + 1)) = x) := by unfold Hid; rw [hnx.out, if_pos hnil]
          have Hu1 := Lib.hid hu1
          clear hnx hnil hu0 hu1 hus
          go_wp2_with fail
          refine (HT.out _).mono ?_
          rintro e w1 ⟨t, ok, rfl, hb1, hok, htt⟩
          rw [Hx.out] at hok htt
          obtain rfl : ok = true := hok
          have htt2 : t = ⟨x.toArray⟩ := htt rfl
          have Htt := Lib.hid htt2
          have hts : t.size ≤ 1000000 := by rw [htt2]; simp only [ByteArray.size, List.size_toArray]; omega
          have hb2 := hbl.trans (hb1.mono hs0)
          clear hb1 htt htt2
          go_wp2_with fail
          exact ⟨⟨k + 1, u ++ t, by omega, by go_num, rfl, by unfold Hid; rw [Hnx.out, Htt.out, Hu1.out]; simp, hb2⟩, by simp [intOf]; omega⟩
        · have hne : u.data.toList ≠ [] := fun e => by rw [e] at hus; simp at hus; omega
          have ze := strNonempty (s := u) (by omega)
          have Hnx : Hid (joinL (l.take (k + 1)) = u.data.toList ++ 32 :: x) := by unfold Hid; rw [hnx.out, if_neg hne]
          have hq : (u ++ ⟨#[32]⟩).size ≤ 1000001 := by
            have : (⟨#[32]⟩ : ByteArray).size = 1 := rfl
            simp; omega
          clear hnx hne hu0 hus
          go_wp2_with fail
          refine (HT.out _).mono ?_
          rintro e w1 ⟨t, ok, rfl, hb1, hok, htt⟩
          rw [Hx.out] at hok htt
          obtain rfl : ok = true := hok
          have htt2 : t = ⟨x.toArray⟩ := htt rfl
          have Htt := Lib.hid htt2
          have hts : t.size ≤ 1000000 := by rw [htt2]; simp only [ByteArray.size, List.size_toArray]; omega
          have hb2 := hbl.trans (hb1.mono hs0)
          clear hb1 htt htt2
          go_wp2_with fail
          exact ⟨⟨k + 1, u ++ ⟨#[32]⟩ ++ t, by omega, by go_num, rfl, by unfold Hid; rw [Hnx.out, Htt.out]; simp, hb2⟩, by simp [intOf]; omega⟩
    · have hkl : k = l.length := by omega
      have hfin : Hid (u = ⟨R.toArray⟩) := by unfold Hid; rw [HR.out]; refine str_eq ?_; rw [hacc.out, hkl, List.take_length]
      clear hkl hus
      go_wp2_with fail
      go_ret
      exact ⟨by rw [← hfin.out]; rfl, hbl⟩
end Go.Proofs.YtninmolgkkhikaaDoor
