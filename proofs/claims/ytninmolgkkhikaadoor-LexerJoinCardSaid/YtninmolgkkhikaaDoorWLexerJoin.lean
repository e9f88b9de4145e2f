/- The walk of the law LexerJoin. -/
import Derived.Test.YtninmolgkkhikaaDoorLp
import Derived.Test.YtninmolgkkhikaaDoorLi
namespace Go.Proofs.YtninmolgkkhikaaDoor
open Go.RowKit Go.Proofs.EB Go.Proofs.TX
set_option maxHeartbeats 2000000
attribute [local go_sem] World.cell?_alloc_some

theorem textK_len {k n : Int} {s : ByteArray} {x : List UInt8} {S : Nat} (hs : s.size ≤ S) (h : textK k n s = some x) : x.length ≤ 3 * S + 12 := by
  have hsl : s.data.toList.length = s.size := by simp
  unfold textK at h
  split at h
  · split at h
    · have := Option.some.inj h; rw [← this]; omega
    · cases h
  · split at h
    · split at h
      · rename_i hr
        have := Option.some.inj h; rw [← this]
        have := itoa_len n (by omega)
        omega
      · cases h
    · split at h
      · split at h
        · have := Option.some.inj h; rw [← this]
          have := quoteL_len s.data.toList
          simp only [List.length_append, List.length_cons, List.length_nil]
          omega
        · cases h
      · split at h
        · split at h
          · have := Option.some.inj h; rw [← this]; omega
          · cases h
        · cases h
theorem addT_len {acc : List UInt8} {t : Tok} {S : Nat} (hs : t.s.size ≤ S) : (addT acc t).length ≤ acc.length + (3 * S + 13) := by
  unfold addT
  cases hx : textT t with
  | none => simp
  | some x =>
    have := textK_len hs hx
    simp only
    split
    · omega
    · simp; omega
theorem joinL_len {l : List Tok} {S : Nat} (hs : ∀ t ∈ l, t.s.size ≤ S) : ∀ k, k ≤ l.length → (joinL (l.take k)).length ≤ k * (3 * S + 13) := by
  intro k
  induction k with
  | zero => intro _; simp [joinL]
  | succ k ih =>
    intro hk
    rw [joinL_take (by omega)]
    have h1 := addT_len (acc := joinL (l.take k)) (hs l[k] (List.getElem_mem (by omega)))
    have h2 := ih (by omega)
    rw [Nat.succ_mul]
    omega
/-- What a slice of tokens that came in is. -/
def TokIn (l : List Tok) : Prop := ∀ t ∈ l, t.s.size ≤ maxLen ∧ (-9223372036854775808 ≤ t.n ∧ t.n ≤ 9223372036854775807)
theorem W_LexerJoin (ao : Option Addr) (cap : Nat) (l : List Tok) (w : World) (hl : l.length ≤ maxLen) (hra : ToksAt w w.heap.size ao l ∧ TokIn l) (ht : Tab w) (hE : ErrV w) :
    Calls Tryd.prog 11 #[.slice ao l.length cap] w fun e w' => e = .returned (.bool true) ∧ Below w.heap.size w w' := by
  obtain ⟨hra, hin⟩ := hra
  have HE := Lib.hid hE
  have Ht := Lib.hid ht
  have Hin := Lib.hid hin
  unfold maxLen at hl
  clear hE ht hin
  by_cases h60 : 60 < l.length
  · have z : decide ((60 : Int) < (l.length : Int)) = true := by rw [decide_eq_true_eq]; omega
    clear h60
    go_enter Tryd.func11, Tryd.ntmps11
    go_wp2_with fail
    refine (lawake_any _ HE.out).mono ?_
    rintro e w1 ⟨rfl, hb1⟩
    go_wp2_with fail
    go_ret
    exact ⟨rfl, hb1⟩
  · have z : decide ((60 : Int) < (l.length : Int)) = false := by rw [decide_eq_false_iff_not]; omega
    have h60' : l.length ≤ 60 := by omega
    clear h60
    go_enter Tryd.func11, Tryd.ntmps11
    go_wp2_with fail
    clear z
    go_loop [3] (fun i => ∃ k : Nat, k ≤ l.length ∧ i = .int .i64 k ∧ Hid (∀ j (h : j < l.length), j < k → l[j].s.size ≤ 200)) (fun i => l.length - (intOf i).toNat)
    case atStart => exact ⟨0, Nat.zero_le _, rfl, fun j _ h => absurd h (by omega)⟩
    case round =>
      obtain ⟨k, hk, rfl, hall⟩ := hrel
      by_cases hlt : k < l.length
      · have hbk := Hin.out l[k] (List.getElem_mem hlt)
        obtain ⟨b1, o1, tk, ts, tn, tp, rfl, hB1, hv1, c1, c2, c3, c4⟩ := hra.at hlt
        rw [hv1] at hbk
        have hts := hbk.1
        unfold maxLen at hts
        simp only at hts
        have Hv1 := Lib.hid hv1
        have hki : (k : Int) < (l.length : Int) := by omega
        have hki0 : (0 : Int) ≤ (k : Int) := by omega
        clear hbk hv1
        by_cases h200 : 200 < ts.size
        · have z : decide ((200 : Int) < (ts.size : Int)) = true := by rw [decide_eq_true_eq]; omega
          clear h200
          go_wp2_with fail
          refine (lawake_any _ HE.out).mono ?_
          rintro e w1 ⟨rfl, hb1⟩
          go_wp2_with fail
          go_ret
          exact ⟨rfl, hb1⟩
        · have z : decide ((200 : Int) < (ts.size : Int)) = false := by rw [decide_eq_false_iff_not]; omega
          go_wp2_with fail
          go_round
          case rel =>
            refine ⟨k + 1, by omega, by go_num, fun j hj hjk => ?_⟩
            by_cases hje : j < k
            · exact hall.out j hj hje
            · obtain rfl : j = k := by omega
              rw [Hv1.out]; show ts.size ≤ 200; omega
          case measure => simp [intOf]; omega
      · have hall2 : ∀ t ∈ l, t.s.size ≤ 200 := by
          intro t hm
          obtain ⟨j, hj, rfl⟩ := List.mem_iff_getElem.1 hm
          exact hall.out j hj (by omega)
        have hjl := joinL_len hall2
        have hb : ∀ t ∈ l, t.s.size ≤ 1000000 ∧ (-9223372036854775808 ≤ t.n ∧ t.n ≤ 9223372036854775807) := fun t hm => ⟨by have := hall2 t hm; omega, (Hin.out t hm).2⟩
        have hsz : ∀ k, k ≤ l.length → (joinL (l.take k)).length ≤ 1000000 := fun k hk => by
          have h1 := hjl k hk
          have h2 : k * (3 * 200 + 13) ≤ 60 * (3 * 200 + 13) := Nat.mul_le_mul_right _ (by omega)
          omega
        have hP := fun w hra ht => join_any ao cap l w (by omega) hra ht hb hsz
        have hQ := fun w hra => rjoin_any ao cap l w (by omega) hra hb hsz
        have huz : (⟨(joinL l).toArray⟩ : ByteArray).size ≤ 1000000 := by
          have := hsz l.length (Nat.le_refl _)
          rw [List.take_length] at this
          simpa only [ByteArray.size, List.size_toArray] using this
        generalize (⟨(joinL l).toArray⟩ : ByteArray) = u at *
        have hs1 := fun w hE => scans_any u w huz hE
        have HP := Lib.hid hP
        have HQ := Lib.hid hQ
        have HS := Lib.hid hs1
        have heq : (u.toList == u.toList) = true := by simp
        clear hall2 hjl hb hsz hP hQ hs1 hall
        go_wp2_with fail
        refine (HP.out _ hra Ht.out).mono ?_
        rintro e w1 ⟨rfl, hb1⟩
        have hra1 := (hra.below hb1).mono hb1.size
        go_wp2_with fail
        refine (HQ.out _ hra1).mono ?_
        rintro e w2 ⟨rfl, hb2⟩
        have hb02 := hb1.trans (hb2.mono hb1.size)
        have hra2 := (hra.below hb02).mono hb02.size
        clear hra1 hb1 hb2
        go_wp2_with fail
        refine (HP.out _ hra2 (tab_below Ht.out hb02)).mono ?_
        rintro e w3 ⟨rfl, hb3⟩
        have hb03 := hb02.trans (hb3.mono hb02.size)
        clear hra2 hb3 hb02
        go_wp2_with fail
        refine (HS.out _ (err_below HE.out hb03)).mono ?_
        rintro e w4 ⟨rfl, hb4⟩
        have hb04 := hb03.trans (hb4.mono hb03.size)
        clear hb4 hb03
        go_wp2_with fail
        refine (lawake_any _ (err_below HE.out hb04)).mono ?_
        rintro e w5 ⟨rfl, hb5⟩
        go_wp2_with fail
        go_ret
        exact ⟨rfl, hb04.trans (hb5.mono hb04.size)⟩
end Go.Proofs.YtninmolgkkhikaaDoor
