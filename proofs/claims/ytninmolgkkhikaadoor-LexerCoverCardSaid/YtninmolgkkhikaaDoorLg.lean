/- Contracts of isSign, sign and token of the reference. -/
import Derived.Test.YtninmolgkkhikaaDoorLf
namespace Go.Proofs.TX
/-- A sign. -/
def sgnB (l : List UInt8) : Bool := l == [40] || l == [41] || l == [44] || l == [46] || l == [59] || l == [43] || l == [45] || l == [42] || l == [47] || l == [61] || l == [60] || l == [43, 43] || l == [60, 61]
theorem sgnB_one (c : UInt8) : sgnB [c] = sign1 c := by
  unfold sgnB sign1
  have e : ∀ a b : UInt8, ([c] == [a, b]) = false := fun a b => by simp
  have e1 : ∀ a : UInt8, ([c] == [a]) = (c == a) := fun a => by simp
  rw [e, e]
  simp only [e1, Bool.or_false]
theorem sgnB_two (c d : UInt8) : sgnB [c, d] = (c == 43 && d == 43 || c == 60 && d == 61) := by
  unfold sgnB
  have e : ∀ a : UInt8, ([c, d] == [a]) = false := fun a => by simp
  have e1 : ∀ a b : UInt8, ([c, d] == [a, b]) = (c == a && d == b) := fun a b => by simp
  simp only [e, e1, Bool.false_or]
/-- What the reference's sign gives. -/
theorem signN_ref (l : List UInt8) : signN l = if 2 ≤ l.length ∧ sgnB (l.take 2) = true then 2 else if 1 ≤ l.length ∧ sgnB (l.take 1) = true then 1 else 0 := by
  rcases l with _ | ⟨c, _ | ⟨d, l⟩⟩
  · rfl
  · simp only [List.take_succ_cons, List.take_zero, List.length_cons, List.length_nil, sgnB_one, signN_one]
    simp
  · rw [signN_two]
    simp only [List.take_succ_cons, List.take_zero, List.length_cons, sgnB_one, sgnB_two]
    simp
end Go.Proofs.TX
namespace Go.Proofs.YtninmolgkkhikaaDoor
open Go.RowKit Go.Proofs.EB Go.Proofs.TX
set_option maxHeartbeats 1000000
attribute [local go_sem] World.cell?_alloc_some

theorem isSign_any (s : ByteArray) (w : World) : Calls Tryd.prog 79 #[.string s] w fun e w' => e = .returned (.bool (sgnB s.data.toList)) ∧ w' = w := by
  rw [← toList_eq_data]
  go_enter Tryd.func79, Tryd.ntmps79
  go_wp2
  all_goals go_ret
  all_goals (refine ⟨?_, rfl⟩; first | (simp [sgnB, *]; done) | (exfalso; simp_all; done))
theorem rsign_any (s : ByteArray) (w : World) (hs : s.size ≤ 1000000) : Calls Tryd.prog 80 #[.string s] w fun e w' => e = .returned (.int .i64 (signN s.data.toList : Nat)) ∧ w' = w := by
  obtain ⟨R, hR⟩ : ∃ R : Nat, R = signN s.data.toList := ⟨_, rfl⟩
  rw [← hR]
  have hsl : s.data.toList.length = s.size := by simp
  rw [signN_ref, hsl] at hR
  have hd : ∀ n, (s.extract 0 n).data.toList = s.data.toList.take n := fun n => by rw [extract_sub]; simp
  have h2 := fun w => isSign_any (s.extract 0 2) w
  have h1 := fun w => isSign_any (s.extract 0 1) w
  rw [hd] at h1 h2
  obtain ⟨b2, hb2⟩ : ∃ b, b = sgnB (s.data.toList.take 2) := ⟨_, rfl⟩
  obtain ⟨b1, hb1⟩ : ∃ b, b = sgnB (s.data.toList.take 1) := ⟨_, rfl⟩
  rw [← hb2] at h2 hR
  rw [← hb1] at h1 hR
  clear hb1 hb2 hd hsl
  have H1 := Lib.hid h1
  have H2 := Lib.hid h2
  clear h1 h2
  by_cases c2 : 2 ≤ s.size
  · cases b2
    · cases b1
      · have HR : Hid (R = 0) := by unfold Hid; rw [hR]; simp
        clear hR
        go_enter Tryd.func80, Tryd.ntmps80
        go_wp2_with fail
        refine (H2.out _).mono ?_
        rintro e w' ⟨rfl, rfl⟩
        go_wp2_with fail
        refine (H1.out _).mono ?_
        rintro e w' ⟨rfl, rfl⟩
        go_wp2_with fail
        go_ret
        exact ⟨by rw [HR.out]; rfl, rfl⟩
      · have HR : Hid (R = 1) := by unfold Hid; rw [hR, if_neg (by simp), if_pos ⟨by omega, rfl⟩]
        clear hR
        go_enter Tryd.func80, Tryd.ntmps80
        go_wp2_with fail
        refine (H2.out _).mono ?_
        rintro e w' ⟨rfl, rfl⟩
        go_wp2_with fail
        refine (H1.out _).mono ?_
        rintro e w' ⟨rfl, rfl⟩
        go_wp2_with fail
        go_ret
        exact ⟨by rw [HR.out]; rfl, rfl⟩
    · have HR : Hid (R = 2) := by unfold Hid; rw [hR]; simp [c2]
      clear hR
      go_enter Tryd.func80, Tryd.ntmps80
      go_wp2_with fail
      refine (H2.out _).mono ?_
      rintro e w' ⟨rfl, rfl⟩
      go_wp2_with fail
      go_ret
      exact ⟨by rw [HR.out]; rfl, rfl⟩
  · by_cases c1 : 1 ≤ s.size
    · cases b1
      · have HR : Hid (R = 0) := by unfold Hid; rw [hR]; simp [c2]
        clear hR
        go_enter Tryd.func80, Tryd.ntmps80
        go_wp2_with fail
        refine (H1.out _).mono ?_
        rintro e w' ⟨rfl, rfl⟩
        go_wp2_with fail
        go_ret
        exact ⟨by rw [HR.out]; rfl, rfl⟩
      · have HR : Hid (R = 1) := by unfold Hid; rw [hR, if_neg (fun h => c2 h.1), if_pos ⟨c1, rfl⟩]
        clear hR
        go_enter Tryd.func80, Tryd.ntmps80
        go_wp2_with fail
        refine (H1.out _).mono ?_
        rintro e w' ⟨rfl, rfl⟩
        go_wp2_with fail
        go_ret
        exact ⟨by rw [HR.out]; rfl, rfl⟩
    · have HR : Hid (R = 0) := by unfold Hid; rw [hR, if_neg (fun h => c2 h.1), if_neg (fun h => c1 h.1)]
      clear hR
      go_enter Tryd.func80, Tryd.ntmps80
      go_wp2_with fail
      go_ret
      exact ⟨by rw [HR.out]; rfl, rfl⟩
set_option maxRecDepth 100000 in
set_option maxHeartbeats 4000000 in
theorem rtoken_name (s : ByteArray) (w : World) (hs : s.size ≤ 1000000) (h0 : 0 < s.size) (h1 : letB s[0] = true) :
    Calls Tryd.prog 59 #[.string s] w (TkPost (if runC nameC s.data.toList ≤ 16 then .ok ⟨1, s.data.toList.take (runC nameC s.data.toList), 0⟩ (runC nameC s.data.toList) else .err 1) w) := by
  have hL := rletter_any s[0]
  rw [h1] at hL
  have HL := Lib.hid hL
  clear hL h1
  obtain ⟨R, hR⟩ : ∃ R : Nat, R = runC nameC s.data.toList := ⟨_, rfl⟩
  rw [← hR]
  have HR := Lib.hid hR
  clear hR
  have hb0 : Below w.heap.size w (w.alloc (.cells #[.int .i64 0, .string ⟨#[]⟩, .int .i64 0, .int .i64 0] 50)) := (Below.refl _ _).alloc (Nat.le_refl _) _
  have Hb0 := Lib.hid hb0
  have hn0 : (w.alloc (.cells #[.int .i64 0, .string ⟨#[]⟩, .int .i64 0, .int .i64 0] 50)).heap[w.heap.size]? = some (.cells #[.int .i64 0, .string ⟨#[]⟩, .int .i64 0, .int .i64 0] 50) := heap_alloc_new _ _
  have Hn0 := Lib.hid hn0
  clear hb0 hn0
  by_cases h16 : R ≤ 16
  · have z1 : decide ((16 : Int) < (R : Int)) = false := by simp; omega
    rw [if_pos h16]
    have hx := extract_head s R
    obtain ⟨u, hu⟩ : ∃ u, s.extract 0 R = u := ⟨_, rfl⟩
    have Hu : Hid (u = ⟨(s.data.toList.take R).toArray⟩) := hu.symm.trans hx
    clear hx
    go_enter Tryd.func59, Tryd.ntmps59
    go_wp2_with fail
    refine (HL.out _).mono ?_
    rintro e w' ⟨rfl, rfl⟩
    go_wp2_with fail
    go_loop [5] (fun i => ∃ k : Nat, k ≤ s.size ∧ i = .int .i64 k ∧ Hid (R = k + runC nameC (s.data.toList.drop k))) (fun i => s.size - (intOf i).toNat)
    case atStart => exact ⟨0, Nat.zero_le _, rfl, by unfold Hid; rw [HR.out]; simp⟩
    case round =>
      obtain ⟨k, hk, rfl, hU⟩ := hrel
      by_cases hlt : k < s.size
      · have hst := drop_cons hlt
        have hP := rinName_any s[k]
        cases hpk : nameC s[k]
        · have hfin : Hid (R = k) := by unfold Hid; rw [hU.out, hst, runC, if_neg (by rw [hpk]; decide)]; rfl
          rw [hpk] at hP
          have HP := Lib.hid hP
          clear hpk hst hP
          go_wp2_with fail
          refine (HP.out _).mono ?_
          rintro e w' ⟨rfl, rfl⟩
          obtain rfl : R = k := hfin.out
          go_wp2_with fail
          refine bodyPost_ret (v := .tuple #[.agg #[.int .i64 1, .string u, .int .i64 0, .int .i64 0], .int .i64 R, .int .i64 0]) (by simp [results, Tryd.results59, go_sem]) rfl ?_
          exact tkPost_ok ((Below.refl _ _).alloc (Nat.le_refl _) _) Hu.out rfl
        · have hnx : Hid (R = k + 1 + runC nameC (s.data.toList.drop (k + 1))) := by unfold Hid; rw [hU.out, hst, runC, if_pos hpk]; omega
          rw [hpk] at hP
          have HP := Lib.hid hP
          clear hpk hst hP
          go_wp2_with fail
          refine (HP.out _).mono ?_
          rintro e w' ⟨rfl, rfl⟩
          go_wp2_with fail
          go_round
          case rel => exact ⟨k + 1, by omega, by go_num, hnx⟩
          case measure => simp [intOf]; omega
      · have hfin : Hid (R = k) := by unfold Hid; rw [hU.out, drop_all (by omega)]; rfl
        obtain rfl : R = k := hfin.out
        go_wp2_with fail
        refine bodyPost_ret (v := .tuple #[.agg #[.int .i64 1, .string u, .int .i64 0, .int .i64 0], .int .i64 R, .int .i64 0]) (by simp [results, Tryd.results59, go_sem]) rfl ?_
        exact tkPost_ok ((Below.refl _ _).alloc (Nat.le_refl _) _) Hu.out rfl
  · have z1 : decide ((16 : Int) < (R : Int)) = true := by simp; omega
    rw [if_neg h16]
    go_enter Tryd.func59, Tryd.ntmps59
    go_wp2_with fail
    refine (HL.out _).mono ?_
    rintro e w' ⟨rfl, rfl⟩
    go_wp2_with fail
    go_loop [5] (fun i => ∃ k : Nat, k ≤ s.size ∧ i = .int .i64 k ∧ Hid (R = k + runC nameC (s.data.toList.drop k))) (fun i => s.size - (intOf i).toNat)
    case atStart => exact ⟨0, Nat.zero_le _, rfl, by unfold Hid; rw [HR.out]; simp⟩
    case round =>
      obtain ⟨k, hk, rfl, hU⟩ := hrel
      by_cases hlt : k < s.size
      · have hst := drop_cons hlt
        have hP := rinName_any s[k]
        cases hpk : nameC s[k]
        · have hfin : Hid (R = k) := by unfold Hid; rw [hU.out, hst, runC, if_neg (by rw [hpk]; decide)]; rfl
          rw [hpk] at hP
          have HP := Lib.hid hP
          clear hpk hst hP
          go_wp2_with fail
          refine (HP.out _).mono ?_
          rintro e w' ⟨rfl, rfl⟩
          obtain rfl : R = k := hfin.out
          go_wp2_with fail
          refine bodyPost_ret (v := .tuple #[.agg #[.int .i64 0, .string ⟨#[]⟩, .int .i64 0, .int .i64 0], .int .i64 0, .int .i64 1]) (by simp [results, Tryd.results59, go_sem]) rfl ?_
          exact tkPost_err Hb0.out rfl
        · have hnx : Hid (R = k + 1 + runC nameC (s.data.toList.drop (k + 1))) := by unfold Hid; rw [hU.out, hst, runC, if_pos hpk]; omega
          rw [hpk] at hP
          have HP := Lib.hid hP
          clear hpk hst hP
          go_wp2_with fail
          refine (HP.out _).mono ?_
          rintro e w' ⟨rfl, rfl⟩
          go_wp2_with fail
          go_round
          case rel => exact ⟨k + 1, by omega, by go_num, hnx⟩
          case measure => simp [intOf]; omega
      · have hfin : Hid (R = k) := by unfold Hid; rw [hU.out, drop_all (by omega)]; rfl
        obtain rfl : R = k := hfin.out
        go_wp2_with fail
        refine bodyPost_ret (v := .tuple #[.agg #[.int .i64 0, .string ⟨#[]⟩, .int .i64 0, .int .i64 0], .int .i64 0, .int .i64 1]) (by simp [results, Tryd.results59, go_sem]) rfl ?_
        exact tkPost_err Hb0.out rfl
set_option maxRecDepth 100000 in
set_option maxHeartbeats 4000000 in
theorem rtoken_num (s : ByteArray) (w : World) (hs : s.size ≤ 1000000) (h0 : 0 < s.size) (h1 : letB s[0] = false) (h2 : digB s[0] = true) :
    Calls Tryd.prog 59 #[.string s] w (TkPost (if isDec (s.data.toList.take (runC digB s.data.toList)) = true then (if valD (s.data.toList.take (runC digB s.data.toList)) ≤ 4294967296 then .ok ⟨2, [], valD (s.data.toList.take (runC digB s.data.toList))⟩ (runC digB s.data.toList) else .err 1) else .err 2) w) := by
  have hL := rletter_any s[0]
  rw [h1] at hL
  have HL := Lib.hid hL
  have hD := rdecimal_any s[0]
  rw [h2] at hD
  have HD := Lib.hid hD
  clear hL h1 hD h2
  obtain ⟨R, hR⟩ : ∃ R : Nat, R = runC digB s.data.toList := ⟨_, rfl⟩
  rw [← hR]
  have HR := Lib.hid hR
  clear hR
  obtain ⟨u, hu⟩ : ∃ u, s.extract 0 R = u := ⟨_, rfl⟩
  have hud : u.data.toList = s.data.toList.take R := by rw [← hu, extract_sub]; simp
  have hus : u.size ≤ 1000000 := by rw [← hu]; simp; omega
  have hb0 : Below w.heap.size w (w.alloc (.cells #[.int .i64 0, .string ⟨#[]⟩, .int .i64 0, .int .i64 0] 50)) := (Below.refl _ _).alloc (Nat.le_refl _) _
  have Hb0 := Lib.hid hb0
  have hn0 : (w.alloc (.cells #[.int .i64 0, .string ⟨#[]⟩, .int .i64 0, .int .i64 0] 50)).heap[w.heap.size]? = some (.cells #[.int .i64 0, .string ⟨#[]⟩, .int .i64 0, .int .i64 0] 50) := heap_alloc_new _ _
  have Hn0 := Lib.hid hn0
  clear hb0 hn0
  cases hd : isDec (s.data.toList.take R)
  · have HN := Lib.hid (num_no u hus (by rw [hud]; exact hd))
    rw [if_neg (by decide)]
    clear hd hud
    go_enter Tryd.func59, Tryd.ntmps59
    go_wp2_with fail
    refine (HL.out _).mono ?_
    rintro e w' ⟨rfl, rfl⟩
    go_wp2_with fail
    refine (HD.out _).mono ?_
    rintro e w' ⟨rfl, rfl⟩
    go_wp2_with fail
    go_loop [5] (fun i => ∃ k : Nat, k ≤ s.size ∧ i = .int .i64 k ∧ Hid (R = k + runC digB (s.data.toList.drop k))) (fun i => s.size - (intOf i).toNat)
    case atStart => exact ⟨0, Nat.zero_le _, rfl, by unfold Hid; rw [HR.out]; simp⟩
    case round =>
      obtain ⟨k, hk, rfl, hU⟩ := hrel
      by_cases hlt : k < s.size
      · have hst := drop_cons hlt
        have hP := rdecimal_any s[k]
        cases hpk : digB s[k]
        · have hfin : Hid (R = k) := by unfold Hid; rw [hU.out, hst, runC, if_neg (by rw [hpk]; decide)]; rfl
          rw [hpk] at hP
          have HP := Lib.hid hP
          clear hpk hst hP
          go_wp2_with fail
          refine (HP.out _).mono ?_
          rintro e w' ⟨rfl, rfl⟩
          obtain rfl : R = k := hfin.out
          go_wp2_with fail
          refine (HN.out _).mono ?_
          rintro e w' ⟨rfl, rfl⟩
          go_wp2_with fail
          refine bodyPost_ret (v := .tuple #[.agg #[.int .i64 0, .string ⟨#[]⟩, .int .i64 0, .int .i64 0], .int .i64 0, .int .i64 2]) (by simp [results, Tryd.results59, go_sem]) rfl ?_
          exact tkPost_err Hb0.out rfl
        · have hnx : Hid (R = k + 1 + runC digB (s.data.toList.drop (k + 1))) := by unfold Hid; rw [hU.out, hst, runC, if_pos hpk]; omega
          rw [hpk] at hP
          have HP := Lib.hid hP
          clear hpk hst hP
          go_wp2_with fail
          refine (HP.out _).mono ?_
          rintro e w' ⟨rfl, rfl⟩
          go_wp2_with fail
          go_round
          case rel => exact ⟨k + 1, by omega, by go_num, hnx⟩
          case measure => simp [intOf]; omega
      · have hfin : Hid (R = k) := by unfold Hid; rw [hU.out, drop_all (by omega)]; rfl
        obtain rfl : R = k := hfin.out
        go_wp2_with fail
        refine (HN.out _).mono ?_
        rintro e w' ⟨rfl, rfl⟩
        go_wp2_with fail
        refine bodyPost_ret (v := .tuple #[.agg #[.int .i64 0, .string ⟨#[]⟩, .int .i64 0, .int .i64 0], .int .i64 0, .int .i64 2]) (by simp [results, Tryd.results59, go_sem]) rfl ?_
        exact tkPost_err Hb0.out rfl
  · rw [if_pos rfl]
    by_cases hv : valD (s.data.toList.take R) ≤ 4294967296
    · rw [if_pos hv]
      generalize hx : valD (s.data.toList.take R) = x at *
      have HN := Lib.hid (num_yes u hus (by rw [hud]; exact hd) (x : Int) (by rw [hud, hx]; omega))
      have z1 : decide ((4294967296 : Int) < (x : Int)) = false := by simp; omega
      clear hd hud hx hv
      go_enter Tryd.func59, Tryd.ntmps59
      go_wp2_with fail
      refine (HL.out _).mono ?_
      rintro e w' ⟨rfl, rfl⟩
      go_wp2_with fail
      refine (HD.out _).mono ?_
      rintro e w' ⟨rfl, rfl⟩
      go_wp2_with fail
      go_loop [5] (fun i => ∃ k : Nat, k ≤ s.size ∧ i = .int .i64 k ∧ Hid (R = k + runC digB (s.data.toList.drop k))) (fun i => s.size - (intOf i).toNat)
      case atStart => exact ⟨0, Nat.zero_le _, rfl, by unfold Hid; rw [HR.out]; simp⟩
      case round =>
        obtain ⟨k, hk, rfl, hU⟩ := hrel
        by_cases hlt : k < s.size
        · have hst := drop_cons hlt
          have hP := rdecimal_any s[k]
          cases hpk : digB s[k]
          · have hfin : Hid (R = k) := by unfold Hid; rw [hU.out, hst, runC, if_neg (by rw [hpk]; decide)]; rfl
            rw [hpk] at hP
            have HP := Lib.hid hP
            clear hpk hst hP
            go_wp2_with fail
            refine (HP.out _).mono ?_
            rintro e w' ⟨rfl, rfl⟩
            obtain rfl : R = k := hfin.out
            go_wp2_with fail
            refine (HN.out _).mono ?_
            rintro e w' ⟨rfl, rfl⟩
            go_wp2_with fail
            refine bodyPost_ret (v := .tuple #[.agg #[.int .i64 2, .string ⟨#[]⟩, .int .i64 (x : Int), .int .i64 0], .int .i64 R, .int .i64 0]) (by simp [results, Tryd.results59, go_sem]) rfl ?_
            exact tkPost_ok ((Below.refl _ _).alloc (Nat.le_refl _) _) rfl rfl
          · have hnx : Hid (R = k + 1 + runC digB (s.data.toList.drop (k + 1))) := by unfold Hid; rw [hU.out, hst, runC, if_pos hpk]; omega
            rw [hpk] at hP
            have HP := Lib.hid hP
            clear hpk hst hP
            go_wp2_with fail
            refine (HP.out _).mono ?_
            rintro e w' ⟨rfl, rfl⟩
            go_wp2_with fail
            go_round
            case rel => exact ⟨k + 1, by omega, by go_num, hnx⟩
            case measure => simp [intOf]; omega
        · have hfin : Hid (R = k) := by unfold Hid; rw [hU.out, drop_all (by omega)]; rfl
          obtain rfl : R = k := hfin.out
          go_wp2_with fail
          refine (HN.out _).mono ?_
          rintro e w' ⟨rfl, rfl⟩
          go_wp2_with fail
          refine bodyPost_ret (v := .tuple #[.agg #[.int .i64 2, .string ⟨#[]⟩, .int .i64 (x : Int), .int .i64 0], .int .i64 R, .int .i64 0]) (by simp [results, Tryd.results59, go_sem]) rfl ?_
          exact tkPost_ok ((Below.refl _ _).alloc (Nat.le_refl _) _) rfl rfl
    · rw [if_neg hv]
      have HN := Lib.hid (num_yes u hus (by rw [hud]; exact hd) 4294967297 (by rw [hud]; omega))
      clear hd hud hv
      go_enter Tryd.func59, Tryd.ntmps59
      go_wp2_with fail
      refine (HL.out _).mono ?_
      rintro e w' ⟨rfl, rfl⟩
      go_wp2_with fail
      refine (HD.out _).mono ?_
      rintro e w' ⟨rfl, rfl⟩
      go_wp2_with fail
      go_loop [5] (fun i => ∃ k : Nat, k ≤ s.size ∧ i = .int .i64 k ∧ Hid (R = k + runC digB (s.data.toList.drop k))) (fun i => s.size - (intOf i).toNat)
      case atStart => exact ⟨0, Nat.zero_le _, rfl, by unfold Hid; rw [HR.out]; simp⟩
      case round =>
        obtain ⟨k, hk, rfl, hU⟩ := hrel
        by_cases hlt : k < s.size
        · have hst := drop_cons hlt
          have hP := rdecimal_any s[k]
          cases hpk : digB s[k]
          · have hfin : Hid (R = k) := by unfold Hid; rw [hU.out, hst, runC, if_neg (by rw [hpk]; decide)]; rfl
            rw [hpk] at hP
            have HP := Lib.hid hP
            clear hpk hst hP
            go_wp2_with fail
            refine (HP.out _).mono ?_
            rintro e w' ⟨rfl, rfl⟩
            obtain rfl : R = k := hfin.out
            go_wp2_with fail
            refine (HN.out _).mono ?_
            rintro e w' ⟨rfl, rfl⟩
            go_wp2_with fail
            refine bodyPost_ret (v := .tuple #[.agg #[.int .i64 0, .string ⟨#[]⟩, .int .i64 0, .int .i64 0], .int .i64 0, .int .i64 1]) (by simp [results, Tryd.results59, go_sem]) rfl ?_
            exact tkPost_err Hb0.out rfl
          · have hnx : Hid (R = k + 1 + runC digB (s.data.toList.drop (k + 1))) := by unfold Hid; rw [hU.out, hst, runC, if_pos hpk]; omega
            rw [hpk] at hP
            have HP := Lib.hid hP
            clear hpk hst hP
            go_wp2_with fail
            refine (HP.out _).mono ?_
            rintro e w' ⟨rfl, rfl⟩
            go_wp2_with fail
            go_round
            case rel => exact ⟨k + 1, by omega, by go_num, hnx⟩
            case measure => simp [intOf]; omega
        · have hfin : Hid (R = k) := by unfold Hid; rw [hU.out, drop_all (by omega)]; rfl
          obtain rfl : R = k := hfin.out
          go_wp2_with fail
          refine (HN.out _).mono ?_
          rintro e w' ⟨rfl, rfl⟩
          go_wp2_with fail
          refine bodyPost_ret (v := .tuple #[.agg #[.int .i64 0, .string ⟨#[]⟩, .int .i64 0, .int .i64 0], .int .i64 0, .int .i64 1]) (by simp [results, Tryd.results59, go_sem]) rfl ?_
          exact tkPost_err Hb0.out rfl
set_option maxRecDepth 100000 in
set_option maxHeartbeats 4000000 in
theorem rtoken_text (s : ByteArray) (w : World) (hs : s.size ≤ 1000000) (h0 : 0 < s.size) (h1 : letB s[0] = false) (h2 : digB s[0] = false) (h3 : s[0].toNat = 34) :
    Calls Tryd.prog 59 #[.string s] w (TkPost (textTk (s.data.toList.drop 1)) w) := by
  have hL := rletter_any s[0]
  rw [h1] at hL
  have HL := Lib.hid hL
  have hD := rdecimal_any s[0]
  rw [h2] at hD
  have HD := Lib.hid hD
  have z : ((s[0].toNat : Int) == 34) = true := by simp [h3]
  have hU := fun w => unquote_any s w hs
  have hq : unqO s.data.toList = unqt [] (s.data.toList.drop 1) := by unfold unqO; rw [prefix_iff h0 34, if_pos (by simpa using u34 h3)]
  rw [hq] at hU
  have hsl : (s.data.toList.drop 1).length + 1 = s.size := by simp; omega
  have hb0 : Below w.heap.size w (w.alloc (.cells #[.int .i64 0, .string ⟨#[]⟩, .int .i64 0, .int .i64 0] 50)) := (Below.refl _ _).alloc (Nat.le_refl _) _
  have Hb0 := Lib.hid hb0
  have hn0 : (w.alloc (.cells #[.int .i64 0, .string ⟨#[]⟩, .int .i64 0, .int .i64 0] 50)).heap[w.heap.size]? = some (.cells #[.int .i64 0, .string ⟨#[]⟩, .int .i64 0, .int .i64 0] 50) := heap_alloc_new _ _
  have Hn0 := Lib.hid hn0
  clear hb0 hn0
  clear hL h1 hD h2 h3 hq
  unfold textTk
  cases hu : unqt [] (s.data.toList.drop 1) with
  | none =>
    rw [hu] at hU
    have hU2 : ∀ w, Calls Tryd.prog 38 #[.string s] w fun e w' => e = .returned (.tuple #[.string ⟨#[]⟩, .int .i64 0]) ∧ Below w.heap.size w w' := fun w => (hU w).mono fun _ _ h => ⟨h.2, h.1⟩
    have HU := Lib.hid hU2
    simp only
    clear hU hu hU2
    go_enter Tryd.func59, Tryd.ntmps59
    go_wp2_with fail
    refine (HL.out _).mono ?_
    rintro e w' ⟨rfl, rfl⟩
    go_wp2_with fail
    refine (HD.out _).mono ?_
    rintro e w' ⟨rfl, rfl⟩
    go_wp2_with fail
    refine (HU.out _).mono ?_
    rintro e w1 ⟨rfl, hb1⟩
    obtain ⟨c0, c1, c2, c3, _, _, _, _⟩ := box4 ((hb1.block _ (by simp)).trans Hn0.out)
    have hb2 := Hb0.out.trans (hb1.mono (by simp))
    clear hb1
    go_wp2_with fail
    refine bodyPost_ret (v := .tuple #[.agg #[.int .i64 0, .string ⟨#[]⟩, .int .i64 0, .int .i64 0], .int .i64 0, .int .i64 2]) (by simp [results, Tryd.results59, go_sem, c0, c1, c2, c3]) rfl ?_
    exact tkPost_err (set4 hb2 (Nat.le_refl _) _ _ _ _) rfl
  | some x =>
    obtain ⟨t, m⟩ := x
    rw [hu] at hU
    have hlen := unqt_bound _ _ _ _ _ (Nat.le_refl _) hu
    have hlen2 : t.length + m + 1 ≤ (s.data.toList.drop 1).length := by simpa using hlen
    obtain ⟨n, hn⟩ : ∃ n, n = s.size - m := ⟨_, rfl⟩
    have hn2 : (s.data.toList.drop 1).length + 1 - m = n := by omega
    obtain ⟨tu, htu⟩ : ∃ tu : ByteArray, tu = ⟨t.toArray⟩ := ⟨_, rfl⟩
    have hts : tu.size = t.length := by rw [htu]; simp [ByteArray.size]
    have hU2 : ∀ w, Calls Tryd.prog 38 #[.string s] w fun e w' => e = .returned (.tuple #[.string tu, .int .i64 (n : Nat)]) ∧ Below w.heap.size w w' := fun w => (hU w).mono fun _ _ h => ⟨by rw [htu, hn]; exact h.2, h.1⟩
    have HU := Lib.hid hU2
    have hn0 : 0 < n := by omega
    have y1 : ((n : Int) == 0) = false := by rw [beq_eq_false_iff_ne]; omega
    simp only
    rw [hn2]
    by_cases h32 : t.length ≤ 32
    · have y2 : decide ((32 : Int) < (tu.size : Int)) = false := by rw [decide_eq_false_iff_not]; omega
      have Htu := Lib.hid htu
      rw [if_pos h32]
      clear hU hu hU2 hlen hlen2 hn hn2 htu hts h32 hsl
      go_enter Tryd.func59, Tryd.ntmps59
      go_wp2_with fail
      refine (HL.out _).mono ?_
      rintro e w' ⟨rfl, rfl⟩
      go_wp2_with fail
      refine (HD.out _).mono ?_
      rintro e w' ⟨rfl, rfl⟩
      go_wp2_with fail
      refine (HU.out _).mono ?_
      rintro e w1 ⟨rfl, hb1⟩
      obtain ⟨c0, c1, c2, c3, _, _, _, _⟩ := box4 ((hb1.block _ (by simp)).trans Hn0.out)
      have hb2 := Hb0.out.trans (hb1.mono (by simp))
      clear hb1
      go_wp2_with fail
      refine bodyPost_ret (v := .tuple #[.agg #[.int .i64 3, .string tu, .int .i64 0, .int .i64 0], .int .i64 n, .int .i64 0]) (by simp [results, Tryd.results59, go_sem, c0, c1, c2, c3]) rfl ?_
      exact tkPost_ok (set4 hb2 (Nat.le_refl _) _ _ _ _) Htu.out rfl
    · have y2 : decide ((32 : Int) < (tu.size : Int)) = true := by rw [decide_eq_true_eq]; omega
      rw [if_neg h32]
      clear hU hu hU2 hlen hlen2 hn hn2 htu hts h32 hsl
      go_enter Tryd.func59, Tryd.ntmps59
      go_wp2_with fail
      refine (HL.out _).mono ?_
      rintro e w' ⟨rfl, rfl⟩
      go_wp2_with fail
      refine (HD.out _).mono ?_
      rintro e w' ⟨rfl, rfl⟩
      go_wp2_with fail
      refine (HU.out _).mono ?_
      rintro e w1 ⟨rfl, hb1⟩
      obtain ⟨c0, c1, c2, c3, _, _, _, _⟩ := box4 ((hb1.block _ (by simp)).trans Hn0.out)
      have hb2 := Hb0.out.trans (hb1.mono (by simp))
      clear hb1
      go_wp2_with fail
      refine bodyPost_ret (v := .tuple #[.agg #[.int .i64 0, .string ⟨#[]⟩, .int .i64 0, .int .i64 0], .int .i64 0, .int .i64 1]) (by simp [results, Tryd.results59, go_sem, c0, c1, c2, c3]) rfl ?_
      exact tkPost_err (set4 hb2 (Nat.le_refl _) _ _ _ _) rfl
set_option maxRecDepth 100000 in
set_option maxHeartbeats 4000000 in
theorem rtoken_sign (s : ByteArray) (w : World) (hs : s.size ≤ 1000000) (h0 : 0 < s.size) (h1 : letB s[0] = false) (h2 : digB s[0] = false) (h3 : s[0].toNat ≠ 34) :
    Calls Tryd.prog 59 #[.string s] w (TkPost (if signN s.data.toList = 0 then .err 2 else .ok ⟨4, s.data.toList.take (signN s.data.toList), 0⟩ (signN s.data.toList)) w) := by
  have hL := rletter_any s[0]
  rw [h1] at hL
  have HL := Lib.hid hL
  have hD := rdecimal_any s[0]
  rw [h2] at hD
  have HD := Lib.hid hD
  have z : ((s[0].toNat : Int) == 34) = false := by rw [beq_eq_false_iff_ne]; omega
  have hS := fun w => rsign_any s w hs
  have hle := (signN_le s.data.toList).1
  have hsl : s.data.toList.length = s.size := by simp
  have hb0 : Below w.heap.size w (w.alloc (.cells #[.int .i64 0, .string ⟨#[]⟩, .int .i64 0, .int .i64 0] 50)) := (Below.refl _ _).alloc (Nat.le_refl _) _
  have Hb0 := Lib.hid hb0
  have hn0 : (w.alloc (.cells #[.int .i64 0, .string ⟨#[]⟩, .int .i64 0, .int .i64 0] 50)).heap[w.heap.size]? = some (.cells #[.int .i64 0, .string ⟨#[]⟩, .int .i64 0, .int .i64 0] 50) := heap_alloc_new _ _
  have Hn0 := Lib.hid hn0
  clear hb0 hn0
  clear hL h1 hD h2 h3
  generalize signN s.data.toList = R at *
  have HS := Lib.hid hS
  have hns : R ≤ s.size := by omega
  clear hS hle hsl
  by_cases hR0 : R = 0
  · have y : ((R : Int) == 0) = true := by simp [hR0]
    rw [if_pos hR0]
    clear hR0
    go_enter Tryd.func59, Tryd.ntmps59
    go_wp2_with fail
    refine (HL.out _).mono ?_
    rintro e w' ⟨rfl, rfl⟩
    go_wp2_with fail
    refine (HD.out _).mono ?_
    rintro e w' ⟨rfl, rfl⟩
    go_wp2_with fail
    refine (HS.out _).mono ?_
    rintro e w' ⟨rfl, rfl⟩
    go_wp2_with fail
    refine bodyPost_ret (v := .tuple #[.agg #[.int .i64 0, .string ⟨#[]⟩, .int .i64 0, .int .i64 0], .int .i64 0, .int .i64 2]) (by simp [results, Tryd.results59, go_sem]) rfl ?_
    exact tkPost_err Hb0.out rfl
  · have y : ((R : Int) == 0) = false := by rw [beq_eq_false_iff_ne]; omega
    rw [if_neg hR0]
    have hx := extract_head s R
    obtain ⟨u, hu⟩ : ∃ u, s.extract 0 R = u := ⟨_, rfl⟩
    have Hu : Hid (u = ⟨(s.data.toList.take R).toArray⟩) := hu.symm.trans hx
    clear hx hR0
    go_enter Tryd.func59, Tryd.ntmps59
    go_wp2_with fail
    refine (HL.out _).mono ?_
    rintro e w' ⟨rfl, rfl⟩
    go_wp2_with fail
    refine (HD.out _).mono ?_
    rintro e w' ⟨rfl, rfl⟩
    go_wp2_with fail
    refine (HS.out _).mono ?_
    rintro e w' ⟨rfl, rfl⟩
    go_wp2_with fail
    refine bodyPost_ret (v := .tuple #[.agg #[.int .i64 4, .string u, .int .i64 0, .int .i64 0], .int .i64 R, .int .i64 0]) (by simp [results, Tryd.results59, go_sem]) rfl ?_
    exact tkPost_ok ((Below.refl _ _).alloc (Nat.le_refl _) _) Hu.out rfl
theorem tokAt_eq (s : ByteArray) (h0 : 0 < s.size) : tokAt s.data.toList = if letB s[0] = true then (if runC nameC s.data.toList ≤ 16 then .ok ⟨1, s.data.toList.take (runC nameC s.data.toList), 0⟩ (runC nameC s.data.toList) else .err 1)
    else if digB s[0] = true then
      (if isDec (s.data.toList.take (runC digB s.data.toList)) = true then (if valD (s.data.toList.take (runC digB s.data.toList)) ≤ 4294967296 then .ok ⟨2, [], valD (s.data.toList.take (runC digB s.data.toList))⟩ (runC digB s.data.toList) else .err 1) else .err 2)
    else if s[0].toNat = 34 then textTk (s.data.toList.drop 1)
    else if signN s.data.toList = 0 then .err 2 else .ok ⟨4, s.data.toList.take (signN s.data.toList), 0⟩ (signN s.data.toList) := by
  have hl := drop_cons (s := s) (k := 0) h0
  rw [List.drop_zero] at hl
  conv => lhs; rw [hl]
  unfold tokAt
  simp only
  rw [← hl]
  have e1 : s.data.toList.length = (s.data.toList.drop 1).length + 1 := by have := congrArg List.length hl; simpa using this
  unfold textTk
  rw [e1]
  rfl
theorem rtoken_any (s : ByteArray) (w : World) (hs : s.size ≤ 1000000) (h0 : 0 < s.size) :
    Calls Tryd.prog 59 #[.string s] w (TkPost (tokAt s.data.toList) w) := by
  rw [tokAt_eq s h0]
  cases h1 : letB s[0]
  · rw [if_neg (by decide)]
    cases h2 : digB s[0]
    · rw [if_neg (by decide)]
      by_cases h3 : s[0].toNat = 34
      · rw [if_pos h3]; exact rtoken_text s w hs h0 h1 h2 h3
      · rw [if_neg h3]; exact rtoken_sign s w hs h0 h1 h2 h3
    · rw [if_pos rfl]; exact rtoken_num s w hs h0 h1 h2
  · rw [if_pos rfl]; exact rtoken_name s w hs h0 h1
end Go.Proofs.YtninmolgkkhikaaDoor
