/- The reference's digit, Unquote, Number and Parse. -/
import Derived.Test.YtninmolgkkhikaaDoorPc
import Derived.Test.YtninmolgkkhikaaDoorTa
namespace Go.Proofs.YtninmolgkkhikaaDoor
open Go.RowKit Go.Proofs.EB Go.Proofs.TX
open Go.Lib (byteCells)
set_option maxHeartbeats 1000000
attribute [local go_sem] World.cell?_alloc_some

/-- The value of a digit, or -1. -/
def digI (c : UInt8) : Int := match hexV c with | some a => (a : Int) | none => -1
theorem hexV_of_at : ∀ k, k < 16 → hexV (hexD.getD k 0) = some k := by decide
theorem hexV_at (c : UInt8) (a : Nat) (h : hexV c = some a) : hexD.getD a 0 = c := by
  have hh : ∀ j : Fin 256, ∀ a : Fin 16, hexV (UInt8.ofNat j.val) = some a.val → hexD.getD a.val 0 = UInt8.ofNat j.val := by decide +kernel
  have := hh ⟨c.toNat, c.toNat_lt⟩ ⟨a, hexV_lt h⟩
  simp only [UInt8.ofNat_toNat] at this
  exact this h
theorem rdigit_any (c : UInt8) (w : World) :
    Calls Tryd.prog 68 #[.int .u8 (c.toNat : Int)] w fun e w' => e = .returned (.int .i64 (digI c)) ∧ w' = w := by
  obtain ⟨R, hR⟩ : ∃ R, R = digI c := ⟨_, rfl⟩
  rw [← hR]
  have HR := Lib.hid hR
  clear hR
  go_enter Tryd.func68, Tryd.ntmps68
  go_wp2_with fail
  go_loop [3] (fun i => ∃ k : Nat, k ≤ 16 ∧ i = .int .i64 k ∧ Hid (∀ j, j < k → hexD.getD j 0 ≠ c)) (fun i => 16 - (intOf i).toNat)
  case atStart => exact ⟨0, by omega, rfl, fun j h => absurd h (by omega)⟩
  case round =>
    obtain ⟨k, hk, rfl, hall⟩ := hrel
    by_cases hlt : k < 16
    · have hki : (k : Int) < 16 := by omega
      have hx := hexAt k hlt hlt
      obtain ⟨b, hb⟩ : ∃ b, b = hexD.getD k 0 := ⟨_, rfl⟩
      rw [← hb] at hx
      have Hb := Lib.hid hb
      clear hb
      by_cases hbc : b = c
      · have hfin : Hid (R = (k : Int)) := by
          unfold Hid; rw [HR.out]; unfold digI
          rw [← hbc, Hb.out, hexV_of_at k hlt]
        have z1 : ((b.toNat : Int) == (c.toNat : Int)) = true := by rw [hbc]; simp
        clear hbc
        go_wp2_with fail
        go_ret
        exact ⟨by rw [hfin.out]; rfl, rfl⟩
      · have z1 : ((b.toNat : Int) == (c.toNat : Int)) = false := by
          simp only [beq_eq_false_iff_ne, ne_eq]
          intro e
          exact hbc (UInt8.toNat_inj.1 (by omega))
        have hbc' := Lib.hid hbc
        clear hbc
        go_wp2_with fail
        go_round
        case rel =>
          refine ⟨k + 1, by omega, by go_num, fun j hj => ?_⟩
          by_cases hje : j < k
          · exact hall.out j hje
          · obtain rfl : j = k := by omega
            rw [← Hb.out]; exact hbc'.out
        case measure => simp [intOf]; omega
    · have hki : ¬ (k : Int) < 16 := by omega
      have hfin : Hid (R = -1) := by
        unfold Hid; rw [HR.out]; unfold digI
        cases hv : hexV c with
        | none => rfl
        | some a => exact absurd (hexV_at c a hv) (hall.out a (by have := hexV_lt hv; omega))
      go_wp2_with fail
      go_ret
      exact ⟨by rw [hfin.out]; rfl, rfl⟩

/-- A number and whether there is one. -/
def numR (l : List UInt8) : Value := if isDec l = true then .tuple #[.int .i64 ((min (valD l) 4294967297 : Nat) : Int), .bool true] else .tuple #[.int .i64 0, .bool false]
theorem valD_snoc (l : List UInt8) (c : UInt8) : valD (l ++ [c]) = valD l * 10 + (c.toNat - 48) := valF_snoc l 0 c
theorem num_loop (s : ByteArray) (w : World) (hs : s.size ≤ 1000000) (h0 : 0 < s.size) (hall : isDec s.data.toList = s.data.toList.all digB) (hz : decide ((1 : Int) < (s.size : Int)) = false ∨ (decide ((1 : Int) < (s.size : Int)) = true ∧ ((s[0].toNat : Int) == 48) = false)) :
    Calls Tryd.prog 40 #[.string s] w fun e w' => e = .returned (numR s.data.toList) ∧ w' = w := by
  obtain ⟨R, hR⟩ : ∃ R, R = numR s.data.toList := ⟨_, rfl⟩
  rw [← hR]
  have HR := Lib.hid hR
  have Hall := Lib.hid hall
  have z1 : ((s.size : Int) == 0) = false := by rw [beq_eq_false_iff_ne]; omega
  clear hall hR
  rcases hz with hz | ⟨hz1, hz2⟩
  all_goals
    go_enter Tryd.func40, Tryd.ntmps40
    go_wp2_with fail
    try clear hz
    try clear hz1 hz2
    go_loop [4, 5] (fun n i => ∃ (k N : Nat), k ≤ s.size ∧ i = .int .i64 k ∧ n = .int .i64 N ∧ Hid (N = min (valD (s.data.toList.take k)) 4294967297) ∧ N ≤ 4294967297 ∧ Hid ((s.data.toList.take k).all digB = true)) (fun _ i => s.size - (intOf i).toNat)
    case atStart => exact ⟨0, 0, Nat.zero_le _, rfl, rfl, rfl, by omega, rfl⟩
    case round =>
      obtain ⟨k, N, hk, rfl, rfl, hN, hNb, hd⟩ := hrel
      by_cases hlt : k < s.size
      · have hat := all_take hlt
        rw [hd.out, Bool.true_and] at hat
        have Hat := Lib.hid hat
        clear hat
        by_cases hdg : 48 ≤ s[k].toNat ∧ s[k].toNat ≤ 57
        · have hdb : Hid (digB s[k] = true) := by simp [Hid, digB, hdg]
          have hvs := valD_snoc (s.data.toList.take k) s[k]
          rw [← take_snoc s k hlt] at hvs
          have Hvs := Lib.hid hvs
          have z2 : decide ((s[k].toNat : Int) < 48) = false := by simp; omega
          have z3 : decide ((57 : Int) < (s[k].toNat : Int)) = false := by simp; omega
          have d0 := hdg.1
          have d1 := hdg.2
          clear hdg hvs
          go_wp2_with fail
          refine ⟨⟨k + 1, min (N * 10 + (s[k].toNat - 48)) 4294967297, by omega, by go_num, by congr 1; omega, ?_, by omega, by unfold Hid; rw [Hat.out, hdb.out]⟩, by simp [intOf]; omega⟩
          have e1 := Hvs.out
          have e2 := hN.out
          unfold Hid
          omega
        · have hdb : Hid (digB s[k] = false) := by simp [Hid, digB]; omega
          have hfin := all_false_of_take (l := s.data.toList) (k := k + 1) (by rw [Hat.out, hdb.out])
          have z : decide ((s[k].toNat : Int) < 48) = true ∨ (decide ((s[k].toNat : Int) < 48) = false ∧ decide ((57 : Int) < (s[k].toNat : Int)) = true) := by simp; omega
          have Hfin : Hid (R = .tuple #[.int .i64 0, .bool false]) := by unfold Hid; rw [HR.out]; unfold numR; rw [Hall.out, hfin]; rfl
          clear hdg hfin
          rcases z with z2 | ⟨z2, z3⟩
          all_goals
            go_wp2_with fail
            go_ret2
            exact ⟨by rw [Hfin.out]; rfl, rfl⟩
      · have hk2 : k = s.size := by omega
        have htk : s.data.toList.take s.size = s.data.toList := List.take_of_length_le (by simp)
        have hfin : s.data.toList.all digB = true := by rw [← htk, ← hk2]; exact hd.out
        have Hfin : Hid (R = .tuple #[.int .i64 N, .bool true]) := by unfold Hid; rw [HR.out]; unfold numR; rw [Hall.out, hfin, if_pos rfl, hN.out, hk2, htk]
        clear hk2 htk hfin
        go_wp2_with fail
        go_ret2
        exact ⟨by rw [Hfin.out]; rfl, rfl⟩
theorem number_any (s : ByteArray) (w : World) (hs : s.size ≤ 1000000) :
    Calls Tryd.prog 40 #[.string s] w fun e w' => e = .returned (numR s.data.toList) ∧ w' = w := by
  by_cases h0 : s.size = 0
  · have z1 : ((s.size : Int) == 0) = true := by simp [h0]
    have hR : numR s.data.toList = .tuple #[.int .i64 0, .bool false] := by unfold numR; rw [isDec_nil h0]; rfl
    rw [hR]
    clear hR h0
    go_enter Tryd.func40, Tryd.ntmps40
    go_wp2_with fail
    go_ret2
    exact ⟨rfl, rfl⟩
  · by_cases h1 : 1 < s.size
    · by_cases h48 : s[0].toNat = 48
      · have z1 : ((s.size : Int) == 0) = false := by rw [beq_eq_false_iff_ne]; omega
        have z2 : ((s[0].toNat : Int) == 48) = true := by simp [h48]
        have hR : numR s.data.toList = .tuple #[.int .i64 0, .bool false] := by unfold numR; rw [isDec_lead h1 h48]; rfl
        rw [hR]
        clear h48 hR
        go_enter Tryd.func40, Tryd.ntmps40
        go_wp2_with fail
        go_ret2
        exact ⟨rfl, rfl⟩
      · exact num_loop s w hs (by omega) (isDec_rest (by omega) (by omega)) (.inr ⟨by simp; omega, by simp; omega⟩)
    · exact num_loop s w hs (by omega) (isDec_rest (by omega) (by omega)) (.inl (by simp; omega))
/-- A quoted text at the head of a list. -/
def unqO (l : List UInt8) : Option (List UInt8 × Nat) := if Lib.hasPrefix l [34] = true then unqt [] (l.drop 1) else none
def UPost (o : Option (List UInt8 × Nat)) (n : Nat) (w : World) (e : Ending) (w' : World) : Prop :=
  Below w.heap.size w w' ∧ match o with
  | some (t, m) => e = .returned (.tuple #[.string ⟨t.toArray⟩, .int .i64 ((n - m : Nat) : Int)])
  | none => e = .returned (.tuple #[.string ⟨#[]⟩, .int .i64 0])
theorem uPost_eq {o o' : Option (List UInt8 × Nat)} {n : Nat} {w w' : World} {e : Ending} (h : o = o') (hp : UPost o' n w e w') : UPost o n w e w' := h ▸ hp
theorem uPost_mk {t : List UInt8} {m n k : Nat} {w w' : World} {e : Ending} (hb : Below w.heap.size w w') (hk : n - m = k + 1) (he : e = .returned (.tuple #[.string ⟨t.toArray⟩, .int .i64 ((k : Int) + 1)])) : UPost (some (t, m)) n w e w' :=
  ⟨hb, by show e = _; rw [he, hk]; rfl⟩
theorem unqt_at_end {s : ByteArray} {k : Nat} {t : List UInt8} (h : k < s.size) (hb : s[k].toNat = 34) : unqt t (s.data.toList.drop k) = some (t, s.size - (k + 1)) := by
  rw [drop_cons h, u34 hb, unqt_cons_q]
  congr 2
  simp
theorem unqt_at_esc {s : ByteArray} {k : Nat} {t : List UInt8} (h : k < s.size) (hb : s[k].toNat = 92) : unqt t (s.data.toList.drop k) = match escAt (s.data.toList.drop (k + 1)) with | some x => unqt (t ++ [x]) (s.data.toList.drop (k + 3)) | none => none := by
  rw [drop_cons h, u92 hb]
  rcases hl : s.data.toList.drop (k + 1) with _ | ⟨h1, _ | ⟨h2, r⟩⟩
  · rw [unqt_esc0]; rfl
  · rw [unqt_esc1]; rfl
  · rw [unqt_esc]
    have e3 : s.data.toList.drop (k + 3) = r := by
      rw [show k + 3 = (k + 1) + 2 by omega, ← List.drop_drop, hl]; rfl
    rw [e3]; rfl
theorem unqt_at_bad {s : ByteArray} {k : Nat} {t : List UInt8} (h : k < s.size) (h34 : s[k].toNat ≠ 34) (hb : s[k].toNat ≠ 92) (hn : needN s[k].toNat = true) : unqt t (s.data.toList.drop k) = none := by
  rw [drop_cons h, unqt_plain _ _ _ h34 hb, if_pos hn]
theorem unqt_at_ok {s : ByteArray} {k : Nat} {t : List UInt8} (h : k < s.size) (h34 : s[k].toNat ≠ 34) (hb : s[k].toNat ≠ 92) (hn : needN s[k].toNat = false) : unqt t (s.data.toList.drop k) = unqt (t ++ [s[k]]) (s.data.toList.drop (k + 1)) := by
  rw [drop_cons h, unqt_plain _ _ _ h34 hb, if_neg (by rw [hn]; decide)]
theorem escAt_drop {s : ByteArray} {k : Nat} (h : k + 2 < s.size) : escAt (s.data.toList.drop (k + 1)) = esc2 s[k + 1] s[k + 2] := by
  rw [drop_cons (by omega), drop_cons (by omega)]; rfl
theorem escAt_drop_short {s : ByteArray} {k : Nat} (h : ¬ k + 2 < s.size) : escAt (s.data.toList.drop (k + 1)) = none := by
  cases he : escAt (s.data.toList.drop (k + 1)) with
  | none => rfl
  | some x => have := escAt_len he; simp at this; omega
theorem prefix_iff {s : ByteArray} (h : 0 < s.size) (c : UInt8) : Lib.hasPrefix s.data.toList [c] = decide (s[0] = c) := by
  have e := drop_cons (s := s) (k := 0) h
  rw [List.drop_zero] at e
  rw [e]
  unfold Lib.hasPrefix
  rw [Bool.eq_iff_iff]
  simp [List.isPrefixOf]
  exact eq_comm
set_option maxRecDepth 100000 in
set_option maxHeartbeats 8000000 in
theorem unquote_any (s : ByteArray) (w : World) (hs : s.size ≤ 1000000) :
    Calls Tryd.prog 38 #[.string s] w (UPost (unqO s.data.toList) s.size w) := by
  by_cases h0 : s.size = 0
  · have z1 : ((s.size : Int) == 0) = true := by simp [h0]
    have hR : unqO s.data.toList = none := by
      have : s.data.toList.length = 0 := by simpa using h0
      rw [List.eq_nil_of_length_eq_zero this]; rfl
    rw [hR]
    clear hR h0
    go_enter Tryd.func38, Tryd.ntmps38
    go_wp2_with fail
    go_ret2
    exact ⟨Below.refl _ _, rfl⟩
  · have z1 : ((s.size : Int) == 0) = false := by rw [beq_eq_false_iff_ne]; omega
    have hpos : 0 < s.size := by omega
    have hpi := prefix_iff hpos 34
    by_cases h34 : s[0].toNat = 34
    · have hR : unqO s.data.toList = unqt [] (s.data.toList.drop 1) := by unfold unqO; rw [hpi, if_pos (by simpa using u34 h34)]
      have z2 : ((s[0].toNat : Int) != 34) = false := by simp [h34]
      obtain ⟨R, hR2⟩ : ∃ R, R = unqO s.data.toList := ⟨_, rfl⟩
      rw [← hR2]
      have HR := Lib.hid (hR2.trans hR)
      clear hR hR2 hpi h34 h0
      go_enter Tryd.func38, Tryd.ntmps38
      go_wp2_with fail
      clear z2 z1
      go_loopw [4, 5] (fun v i wr => ∃ (k : Nat) (l : List UInt8) (vr : Value), k ≤ s.size ∧ i = .int .i64 k ∧ vr = v ∧ Hid (R = unqt l (s.data.toList.drop k)) ∧ l.length ≤ k ∧ OwnsB wr w.heap.size 5 vr l ∧ Below w.heap.size w wr) (fun _ i _ => s.size - (intOf i).toNat)
      case atStart => exact ⟨1, [], _, by omega, rfl, rfl, HR.out, by simp, OwnsB.nil _ _, Below.refl _ _⟩
      case round =>
        obtain ⟨k, l, vr, hk, rfl, rfl, hU, hlk, hown, hb⟩ := hrel
        clear HR
        have hsz := hb.size
        by_cases hlt : k < s.size
        · by_cases q34 : s[k].toNat = 34
          · have hfin : Hid (R = some (l, s.size - (k + 1))) := by unfold Hid; rw [hU.out, unqt_at_end hlt q34]
            have y1 : ((s[k].toNat : Int) == 34) = true := by simp [q34]
            clear q34
            go_wp2_with (refine wpList_b2s Tryd.underlying9 Tryd.underlying42 Tryd.underlying5 _ rfl (.tmp 80) rfl _ _ l rfl hown ?_)
            go_ret2
            exact uPost_eq hfin.out (uPost_mk hb (by omega) rfl)
          · have y1 : ((s[k].toNat : Int) == 34) = false := by simp; omega
            by_cases q92 : s[k].toNat = 92
            · have y2 : ((s[k].toNat : Int) != 92) = false := by simp [q92]
              have y3 : decide ((s[k].toNat : Int) < 32) = false := by simp; omega
              have y4 : decide ((126 : Int) < (s[k].toNat : Int)) = false := by simp; omega
              have hst := Lib.hid (unqt_at_esc (t := l) hlt q92)
              clear q34 q92
              by_cases hk2 : k + 2 < s.size
              · have hea := escAt_drop hk2
                cases hv1 : hexV s[k + 1] with
                | none =>
                  have hfin : Hid (R = none) := by unfold Hid; rw [hU.out, hst.out, hea]; unfold esc2; rw [hv1]
                  have hD : ∀ w, Calls Tryd.prog 68 #[.int .u8 (s[k + 1].toNat : Int)] w fun e w' => e = .returned (.int .i64 (-1)) ∧ w' = w := fun w => (rdigit_any _ w).mono fun _ _ h => ⟨by rw [h.1]; unfold digI; rw [hv1], h.2⟩
                  clear hv1 hea hst
                  go_wp2_with fail
                  refine (hD _).mono ?_
                  rintro e w' ⟨rfl, rfl⟩
                  go_wp2_with fail
                  go_ret2
                  exact uPost_eq hfin.out ⟨hb, rfl⟩
                | some x1 =>
                  have hx1 := hexV_lt hv1
                  have hD : ∀ w, Calls Tryd.prog 68 #[.int .u8 (s[k + 1].toNat : Int)] w fun e w' => e = .returned (.int .i64 x1) ∧ w' = w := fun w => (rdigit_any _ w).mono fun _ _ h => ⟨by rw [h.1]; unfold digI; rw [hv1], h.2⟩
                  cases hv2 : hexV s[k + 2] with
                  | none =>
                    have hfin : Hid (R = none) := by unfold Hid; rw [hU.out, hst.out, hea]; unfold esc2; rw [hv1, hv2]
                    have hD2 : ∀ w, Calls Tryd.prog 68 #[.int .u8 (s[k + 2].toNat : Int)] w fun e w' => e = .returned (.int .i64 (-1)) ∧ w' = w := fun w => (rdigit_any _ w).mono fun _ _ h => ⟨by rw [h.1]; unfold digI; rw [hv2], h.2⟩
                    clear hv1 hv2 hea hst
                    go_wp2_with fail
                    refine (hD _).mono ?_
                    rintro e w' ⟨rfl, rfl⟩
                    go_wp2_with fail
                    refine (hD2 _).mono ?_
                    rintro e w' ⟨rfl, rfl⟩
                    go_wp2_with fail
                    go_ret2
                    exact uPost_eq hfin.out ⟨hb, rfl⟩
                  | some x2 =>
                    have hx2 := hexV_lt hv2
                    have hD2 : ∀ w, Calls Tryd.prog 68 #[.int .u8 (s[k + 2].toNat : Int)] w fun e w' => e = .returned (.int .i64 x2) ∧ w' = w := fun w => (rdigit_any _ w).mono fun _ _ h => ⟨by rw [h.1]; unfold digI; rw [hv2], h.2⟩
                    have hesc'0 : esc2 s[k + 1] s[k + 2] = if needN (x1 * 16 + x2) = true then some (UInt8.ofNat (x1 * 16 + x2)) else none := by unfold esc2; rw [hv1, hv2]
                    have Hea := Lib.hid hea
                    have hw1 : IntKind.i64.wrap ((x1 : Int) * 16) = (x1 : Int) * 16 := IntWalk.i64_in _ (by omega)
                    have hw2 : IntKind.i64.wrap ((x1 : Int) * 16 + (x2 : Int)) = (x1 : Int) * 16 + (x2 : Int) := IntWalk.i64_in _ (by omega)
                    have hw3 : IntKind.u8.wrap ((x1 : Int) * 16 + (x2 : Int)) = (x1 : Int) * 16 + (x2 : Int) := IntWalk.u8_in _ (by omega)
                    obtain ⟨b, hbx⟩ : ∃ b : UInt8, b = UInt8.ofNat (x1 * 16 + x2) := ⟨_, rfl⟩
                    have hbn : b.toNat = x1 * 16 + x2 := by rw [hbx]; simp; omega
                    have Hz : Hid ((x1 : Int) * 16 + (x2 : Int) = (b.toNat : Int)) := by unfold Hid; omega
                    rw [← hbn, UInt8.ofNat_toNat] at hesc'0
                    have hesc := Lib.hid hesc'0
                    clear hbx hbn hesc'0
                    have hw4 : IntKind.i64.wrap ((k : Int) + 1) = (k : Int) + 1 := IntWalk.i64_in _ (by omega)
                    have hw5 : IntKind.i64.wrap ((k : Int) + 2) = (k : Int) + 2 := IntWalk.i64_in _ (by omega)
                    have hd1 : digI s[k + 1] = (x1 : Int) := by unfold digI; rw [hv1]
                    have hd2 : digI s[k + 2] = (x2 : Int) := by unfold digI; rw [hv2]
                    have Hd1 := Lib.hid hd1
                    have Hd2 := Lib.hid hd2
                    clear hv1 hv2 hea hd1 hd2
                    go_wp2_with fail
                    refine (hD _).mono ?_
                    rintro e w' ⟨rfl, rfl⟩
                    go_wp2_with fail
                    refine (hD2 _).mono ?_
                    rintro e w' ⟨rfl, rfl⟩
                    go_wp2_with fail
                    have hd1 := Hd1.out
                    have hd2 := Hd2.out
                    clear hD hD2
                    go_quiet ((go_at_call 68; exact Calls.quiet_of_same (rdigit_any _ _)))
                    have hz := Hz.out
                    rw [hz]
                    have hownq : OwnsB (w'.drewN nq) w.heap.size 5 vr l := (away_drewN none w' nq).ownsB hown (by cases vr.ownBlock <;> simp)
                    have hbq : Below w.heap.size w (w'.drewN nq) := hb.trans ((away_drewN none w' nq).below hsz (by simp))
                    have hszq : w.heap.size ≤ (w'.drewN nq).heap.size := hsz
                    have hesc' := hesc.out
                    have Hb255 := Lib.hid (b.toNat_lt)
                    clear hz hd1 hd2 hw1 hw2 hw3 hw4 hw5 Hz Hd1 Hd2 hesc hx1 hx2
                    cases hn : needN b.toNat
                    · have hfin : Hid (R = none) := by unfold Hid; rw [hU.out, hst.out, Hea.out, hesc', hn]; rfl
                      simp only [needN, decide_eq_false_iff_not, not_or] at hn
                      have y5 : decide ((32 : Int) ≤ (b.toNat : Int)) = true := by simp; omega
                      have y6 : decide ((b.toNat : Int) ≤ 126) = true := by simp; omega
                      have y7 : ((b.toNat : Int) != 34) = true := by simp; omega
                      have y8 : ((b.toNat : Int) != 92) = true := by simp; omega
                      clear hn hesc' Hea hst
                      go_wp2_with fail
                      go_ret2
                      exact uPost_eq hfin.out ⟨hbq, rfl⟩
                    · have hfin : Hid (R = unqt (l ++ [b]) (s.data.toList.drop (k + 3))) := by unfold Hid; rw [hU.out, hst.out, Hea.out, hesc', hn]; rfl
                      simp only [needN, decide_eq_true_eq] at hn
                      have hcase : (decide ((32 : Int) ≤ (b.toNat : Int)) = false) ∨ (decide ((32 : Int) ≤ (b.toNat : Int)) = true ∧ decide ((b.toNat : Int) ≤ 126) = false) ∨ (decide ((32 : Int) ≤ (b.toNat : Int)) = true ∧ decide ((b.toNat : Int) ≤ 126) = true ∧ ((b.toNat : Int) != 34) = false) ∨ (decide ((32 : Int) ≤ (b.toNat : Int)) = true ∧ decide ((b.toNat : Int) ≤ 126) = true ∧ ((b.toNat : Int) != 34) = true ∧ ((b.toNat : Int) != 92) = false) := by
                        simp only [decide_eq_true_eq, decide_eq_false_iff_not, bne_iff_ne, ne_eq, bne_eq_false_iff_eq]
                        omega
                      clear hn hesc' Hea hst
                      rcases hcase with y5 | ⟨y5, y6⟩ | ⟨y5, y6, y7⟩ | ⟨y5, y6, y7, y8⟩
                      all_goals
                        go_wp2_with (at_builtin; refine wpList_app Tryd.underlying42 infoU8 _ (w'.drewN nq) rfl (.tmp 69) (.tmp 71) rfl w.heap.size vr l rfl hownq [b] 1 1 _ rfl rfl rfl rfl rfl rfl rfl (by decide) (by omega) hszq ?_; intro l2 g1 cap1 w2 hl2 hown2 haw2 hb2 hat2 hlt2)
                        refine ⟨⟨k + 3, l2, _, by omega, by go_num, rfl, ?_, ?_, hown2, hbq.trans hb2⟩, by simp [intOf]; omega⟩
                        · unfold Hid; rw [hfin.out, hl2.out]
                        · rw [hl2.out]; simp; omega
              · have hfin : Hid (R = none) := by unfold Hid; rw [hU.out, hst.out, escAt_drop_short hk2]
                clear hst
                go_wp2_with fail
                go_ret2
                exact uPost_eq hfin.out ⟨hb, rfl⟩
            · have y2 : ((s[k].toNat : Int) != 92) = true := by simp; omega
              cases hn : needN s[k].toNat
              · have hst := Lib.hid (unqt_at_ok (t := l) hlt q34 q92 hn)
                simp only [needN, decide_eq_false_iff_not, not_or] at hn
                have y3 : decide ((s[k].toNat : Int) < 32) = false := by simp; omega
                have y4 : decide ((126 : Int) < (s[k].toNat : Int)) = false := by simp; omega
                clear q34 q92 hn
                go_wp2_with (at_builtin; refine wpList_app Tryd.underlying42 infoU8 _ wr rfl (.tmp 100) (.tmp 104) rfl w.heap.size vr l rfl hown [s[k]] 1 1 _ rfl rfl rfl rfl rfl rfl rfl (by decide) (by omega) hsz ?_; intro l2 g1 cap1 w2 hl2 hown2 haw2 hb2 hat2 hlt2)
                refine ⟨⟨k + 1, l2, _, by omega, by go_num, rfl, ?_, ?_, hown2, hb.trans hb2⟩, by simp [intOf]; omega⟩
                · unfold Hid; rw [hU.out, hst.out, hl2.out]
                · rw [hl2.out]; simp; omega
              · have hfin : Hid (R = none) := by unfold Hid; rw [hU.out, unqt_at_bad hlt q34 q92 hn]
                simp only [needN, decide_eq_true_eq] at hn
                have y3 : decide ((s[k].toNat : Int) < 32) = true ∨ (decide ((s[k].toNat : Int) < 32) = false ∧ decide ((126 : Int) < (s[k].toNat : Int)) = true) := by simp; omega
                clear q34 q92 hn
                rcases y3 with y3 | ⟨y3, y4⟩
                all_goals
                  go_wp2_with fail
                  go_ret2
                  exact uPost_eq hfin.out ⟨hb, rfl⟩
        · have hfin : Hid (R = none) := by unfold Hid; rw [hU.out, drop_all (by omega)]; rfl
          go_wp2_with fail
          go_ret2
          exact uPost_eq hfin.out ⟨hb, rfl⟩
    · have hR : unqO s.data.toList = none := by unfold unqO; rw [hpi, if_neg (by simp; intro e; exact h34 (by rw [e]; rfl))]
      have z2 : ((s[0].toNat : Int) != 34) = true := by simp; omega
      rw [hR]
      clear hR h34 hpi
      go_enter Tryd.func38, Tryd.ntmps38
      go_wp2_with fail
      go_ret2
      exact ⟨Below.refl _ _, rfl⟩
end Go.Proofs.YtninmolgkkhikaaDoor
