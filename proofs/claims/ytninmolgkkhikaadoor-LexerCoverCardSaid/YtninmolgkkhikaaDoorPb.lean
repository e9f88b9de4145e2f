/- Contracts of escapedByte, unescape, inLimits and parseText of package value. -/
import Derived.Test.YtninmolgkkhikaaDoorVs
import Derived.Test.YtninmolgkkhikaaDoorPa
namespace Go.Proofs.YtninmolgkkhikaaDoor
open Go.RowKit Go.Proofs.EB Go.Proofs.TX
open Go.Lib (byteCells)
set_option maxHeartbeats 1000000
attribute [local go_sem] World.cell?_alloc_some

theorem needN_I (b : Nat) : needI (b : Int) = needN b := by unfold needI needN; congr 1; apply propext; omega
theorem hex_index (c : UInt8) : Lib.indexByte (⟨#[48, 49, 50, 51, 52, 53, 54, 55, 56, 57, 97, 98, 99, 100, 101, 102]⟩ : ByteArray).data.toList ((c.toNat : Int)).toNat.toUInt8 = match hexV c with | some a => (a : Int) | none => -1 := by
  have h : ∀ j : Fin 256, Lib.indexByte (⟨#[48, 49, 50, 51, 52, 53, 54, 55, 56, 57, 97, 98, 99, 100, 101, 102]⟩ : ByteArray).data.toList (UInt8.ofNat j.val) = match hexV (UInt8.ofNat j.val) with | some a => (a : Int) | none => -1 := by decide +kernel
  have h1 := h ⟨c.toNat, c.toNat_lt⟩
  have e : UInt8.ofNat c.toNat = c := by simp
  simp only [e] at h1
  have e2 : ((c.toNat : Int)).toNat.toUInt8 = c := by simp
  rw [e2]
  exact h1
theorem idx_any (c : UInt8) (w : World) (v : Int) (h : (match hexV c with | some a => (a : Int) | none => -1) = v) : Calls Tryd.prog 93 #[.string ⟨#[48, 49, 50, 51, 52, 53, 54, 55, 56, 57, 97, 98, 99, 100, 101, 102]⟩, .int .u8 (c.toNat : Int)] w fun e w' => e = .returned (.int .i64 v) ∧ w' = w :=
  (Tryd.strings_IndexByte _ _ w).mono fun _ _ hp => ⟨by rw [hp.1, hex_index, h], hp.2⟩
theorem or16 (a b : Nat) (ha : a < 16) (hb : b < 16) : bits BinOp.or IntKind.i64 ((a : Int) * 16) (b : Int) = ((a * 16 + b : Nat) : Int) := by
  have : ∀ i : Fin 16, ∀ j : Fin 16, bits BinOp.or IntKind.i64 ((i.val : Int) * 16) (j.val : Int) = ((i.val * 16 + j.val : Nat) : Int) := by decide +kernel
  exact this ⟨a, ha⟩ ⟨b, hb⟩

/-- The escape at the head of a list. -/
def escAt : List UInt8 → Option UInt8
  | h1 :: h2 :: _ => esc2 h1 h2
  | _ => none
def EscPost (l : List UInt8) (e : Ending) : Prop := (∀ x, escAt l = some x → e = .returned (.tuple #[.int .u8 (x.toNat : Int), .bool true])) ∧ (escAt l = none → ∃ y : Int, e = .returned (.tuple #[.int .u8 y, .bool false]))
theorem escPost_none {l : List UInt8} {e : Ending} (h : escAt l = none) (y : Int) (he : e = .returned (.tuple #[.int .u8 y, .bool false])) : EscPost l e := ⟨fun x hx => by rw [h] at hx; simp at hx, fun _ => ⟨y, he⟩⟩
theorem escPost_some {l : List UInt8} {e : Ending} {x : UInt8} (h : escAt l = some x) (he : e = .returned (.tuple #[.int .u8 (x.toNat : Int), .bool true])) : EscPost l e := ⟨fun y hy => by rw [h] at hy; cases hy; exact he, fun h' => by rw [h] at h'; simp at h'⟩
theorem two_at {s : ByteArray} (h : 2 ≤ s.size) : ∃ r, s.data.toList = s[0] :: s[1] :: r := by
  have h2 : 2 ≤ s.data.toList.length := by simpa using h
  refine ⟨s.data.toList.drop 2, ?_⟩
  have e : s.data.toList.drop 0 = s.data.toList := rfl
  rw [← e, List.drop_eq_getElem_cons (by omega), List.drop_eq_getElem_cons (i := 1) (by omega)]
  rfl
theorem escAt_two {s : ByteArray} (h : 2 ≤ s.size) : escAt s.data.toList = esc2 s[0] s[1] := by
  obtain ⟨r, hr⟩ := two_at h
  rw [hr]; rfl
theorem escAt_short {s : ByteArray} (h : s.size < 2) : escAt s.data.toList = none := by
  have h2 : s.data.toList.length < 2 := by simpa using h
  match hl : s.data.toList with
  | [] => rfl
  | [_] => rfl
  | _ :: _ :: _ => rw [hl] at h2; simp at h2; omega

theorem escapedByte_any (s : ByteArray) (w : World) (hs : s.size ≤ 1000000) :
    Calls Tryd.prog 84 #[.string s] w fun e w' => EscPost s.data.toList e ∧ w' = w := by
  by_cases h2 : s.size < 2
  · have hn := Lib.hid (escAt_short h2)
    go_enter Tryd.func84, Tryd.ntmps84
    go_wp2
    go_ret2
    exact ⟨escPost_none hn.out 0 rfl, rfl⟩
  · have hn := Lib.hid (escAt_two (s := s) (by omega))
    have hi0 : 0 < s.size := by omega
    have hi1 : 1 < s.size := by omega
    have hq : escAt s.data.toList = esc2 s[0] s[1] := hn.out
    clear hn
    obtain ⟨a, ha⟩ : ∃ a, a = s[0] := ⟨_, rfl⟩
    obtain ⟨b, hb⟩ : ∃ b, b = s[1] := ⟨_, rfl⟩
    rw [← ha, ← hb] at hq
    have Hq := Lib.hid hq
    have ha' := ha.symm
    have hb' := hb.symm
    clear hq ha hb
    cases hva : hexV a with
    | none =>
      have hr : escAt s.data.toList = none := by rw [Hq.out]; unfold esc2; rw [hva]
      have Hr := Lib.hid hr
      have hI := idx_any a w (-1) (by rw [hva])
      clear hr hva Hq
      cases hvb : hexV b with
      | none =>
        have hJ := idx_any b w (-1) (by rw [hvb])
        clear hvb
        go_enter Tryd.func84, Tryd.ntmps84
        go_wp2_with fail
        refine hI.mono ?_
        rintro e w' ⟨rfl, rfl⟩
        go_wp2_with fail
        refine hJ.mono ?_
        rintro e w' ⟨rfl, rfl⟩
        go_wp2_with fail
        go_ret2
        exact ⟨escPost_none Hr.out 0 rfl, rfl⟩
      | some y =>
        have hJ := idx_any b w y (by rw [hvb])
        have hy := hexV_lt hvb
        clear hvb
        go_enter Tryd.func84, Tryd.ntmps84
        go_wp2_with fail
        refine hI.mono ?_
        rintro e w' ⟨rfl, rfl⟩
        go_wp2_with fail
        refine hJ.mono ?_
        rintro e w' ⟨rfl, rfl⟩
        go_wp2_with fail
        go_ret2
        exact ⟨escPost_none Hr.out 0 rfl, rfl⟩
    | some x =>
      have hI := idx_any a w x (by rw [hva])
      have hx := hexV_lt hva
      cases hvb : hexV b with
      | none =>
        have hr : escAt s.data.toList = none := by rw [Hq.out]; unfold esc2; rw [hva, hvb]
        have Hr := Lib.hid hr
        have hJ := idx_any b w (-1) (by rw [hvb])
        clear hvb hva hr Hq
        go_enter Tryd.func84, Tryd.ntmps84
        go_wp2_with fail
        refine hI.mono ?_
        rintro e w' ⟨rfl, rfl⟩
        go_wp2_with fail
        refine hJ.mono ?_
        rintro e w' ⟨rfl, rfl⟩
        go_wp2_with fail
        go_ret2
        exact ⟨escPost_none Hr.out 0 rfl, rfl⟩
      | some y =>
        have hJ := idx_any b w y (by rw [hvb])
        have hy := hexV_lt hvb
        have hr : escAt s.data.toList = if needN (x * 16 + y) = true then some (UInt8.ofNat (x * 16 + y)) else none := by rw [Hq.out]; unfold esc2; rw [hva, hvb]
        have Hr := Lib.hid hr
        have ho := or16 x y hx hy
        have hz : x * 16 + y < 256 := by omega
        have hzi : ((x * 16 + y : Nat) : Int) < 256 := by omega
        have hz0 : (0 : Int) ≤ ((x * 16 + y : Nat) : Int) := by omega
        clear hvb hva hr Hq
        have hN := needsEscape_any ((x * 16 + y : Nat) : Int) w (by omega) (by omega)
        rw [needN_I] at hN
        generalize x * 16 + y = z at *
        have HO := Lib.hid ho
        have HN := Lib.hid hN
        have Hz := Lib.hid hz
        clear ho hN hz hzi hz0
        go_enter Tryd.func84, Tryd.ntmps84
        go_wp2_with fail
        refine hI.mono ?_
        rintro e w' ⟨rfl, rfl⟩
        go_wp2_with fail
        refine hJ.mono ?_
        rintro e w' ⟨rfl, rfl⟩
        go_wp2_with fail
        have e1 : bits BinOp.or IntKind.i64 ((x : Int) * 16) (y : Int) % 256 = (z : Int) := by rw [HO.out]; have := Hz.out; omega
        rw [e1]
        clear e1
        refine HN.out.mono ?_
        rintro e w' ⟨rfl, rfl⟩
        go_wp2_with fail
        go_ret2
        refine ⟨?_, rfl⟩
        have hzb : ((UInt8.ofNat z).toNat : Int) = (z : Int) := by have := Hz.out; simp; omega
        cases hn : needN z
        · exact escPost_none (by rw [Hr.out, hn]; rfl) z (by rfl)
        · exact escPost_some (x := UInt8.ofNat z) (by rw [Hr.out, hn]; rfl) (by rw [hzb]; rfl)

/-- What unescape has read so far and what it will give. -/
def UnescPost (o : Option (List UInt8)) (w : World) (e : Ending) (w' : World) : Prop :=
  Below w.heap.size w w' ∧ match o with
  | some t => e = .returned (.tuple #[.string ⟨t.toArray⟩, .bool true])
  | none => e = .returned (.tuple #[.string ⟨#[]⟩, .bool false])
theorem drop_cons {s : ByteArray} {k : Nat} (h : k < s.size) : s.data.toList.drop k = s[k] :: s.data.toList.drop (k + 1) := by
  rw [List.drop_eq_getElem_cons (by simpa using h)]
  rfl
theorem drop_all {s : ByteArray} {k : Nat} (h : s.size ≤ k) : s.data.toList.drop k = [] := List.drop_eq_nil_of_le (by simpa using h)
theorem unescPost_eq {o o' : Option (List UInt8)} {w w' : World} {e : Ending} (h : o = o') (hp : UnescPost o' w e w') : UnescPost o w e w' := h ▸ hp
/-- One step of unescape, at an escape. -/
theorem unesc_at_esc {s : ByteArray} {k : Nat} {t : List UInt8} (h : k < s.size) (hb : s[k].toNat = 92) : unesc t (s.data.toList.drop k) = match escAt (s.data.toList.drop (k + 1)) with | some x => unesc (t ++ [x]) (s.data.toList.drop (k + 3)) | none => none := by
  rw [drop_cons h, u92 hb]
  rcases hl : s.data.toList.drop (k + 1) with _ | ⟨h1, _ | ⟨h2, r⟩⟩
  · rw [unesc_esc0]; rfl
  · rw [unesc_esc1]; rfl
  · rw [unesc_esc]
    have e3 : s.data.toList.drop (k + 3) = r := by
      rw [show k + 3 = (k + 1) + 2 by omega, ← List.drop_drop, hl]; rfl
    rw [e3]; rfl
theorem escAt_len {l : List UInt8} {x : UInt8} (h : escAt l = some x) : 2 ≤ l.length := by
  rcases l with _ | ⟨h1, _ | ⟨h2, r⟩⟩ <;> simp [escAt] at h ⊢
theorem unesc_at_bad {s : ByteArray} {k : Nat} {t : List UInt8} (h : k < s.size) (hb : s[k].toNat ≠ 92) (hn : needN s[k].toNat = true) : unesc t (s.data.toList.drop k) = none := by
  rw [drop_cons h, unesc_plain _ _ _ hb, if_pos hn]
theorem unesc_at_ok {s : ByteArray} {k : Nat} {t : List UInt8} (h : k < s.size) (hb : s[k].toNat ≠ 92) (hn : needN s[k].toNat = false) : unesc t (s.data.toList.drop k) = unesc (t ++ [s[k]]) (s.data.toList.drop (k + 1)) := by
  rw [drop_cons h, unesc_plain _ _ _ hb, if_neg (by rw [hn]; decide)]
theorem extract_sub (s : ByteArray) (a b : Nat) : (s.extract a b).data.toList = (s.data.toList.drop a).take (b - a) := by
  simp only [ByteArray.data_extract, Array.toList_extract, List.extract_eq_take_drop]
theorem extract_toList (s : ByteArray) (k : Nat) (_ : k ≤ s.size) : (s.extract k s.size).data.toList = s.data.toList.drop k := by
  rw [extract_sub]
  exact List.take_of_length_le (by rw [List.length_drop]; exact Nat.le_refl _)
theorem esc_call (s : ByteArray) (k : Nat) (w : World) (hs : s.size ≤ 1000000) (h : k < s.size) : Calls Tryd.prog 84 #[.string (s.extract (k + 1) s.size)] w fun e w' => EscPost (s.data.toList.drop (k + 1)) e ∧ w' = w := by
  rw [← extract_toList s (k + 1) (by omega)]
  exact escapedByte_any _ w (by simp; omega)
theorem unescape_any (s : ByteArray) (w : World) (hs : s.size ≤ 1000000) :
    Calls Tryd.prog 63 #[.string s] w (UnescPost (unesc [] s.data.toList) w) := by
  obtain ⟨R, hR⟩ : ∃ R, R = unesc [] s.data.toList := ⟨_, rfl⟩
  rw [← hR]
  have hR' : R = unesc [] (s.data.toList.drop 0) := hR
  have HR := Lib.hid hR'
  clear hR hR'
  go_enter Tryd.func63, Tryd.ntmps63
  go_wp2_with fail
  go_loopw [4, 5] (fun v i wr => ∃ (k : Nat) (l : List UInt8) (vr : Value), k ≤ s.size ∧ i = .int .i64 k ∧ vr = v ∧ Hid (R = unesc l (s.data.toList.drop k)) ∧ l.length ≤ k ∧ OwnsB wr w.heap.size 5 vr l ∧ Below w.heap.size w wr) (fun _ i _ => s.size - (intOf i).toNat)
  case atStart => exact ⟨0, [], _, Nat.zero_le _, rfl, rfl, HR.out, by simp, OwnsB.nil _ _, Below.refl _ _⟩
  case round =>
    obtain ⟨k, l, vr, hk, rfl, rfl, hU, hlk, hown, hb⟩ := hrel
    clear HR
    have hsz := hb.size
    by_cases hlt : k < s.size
    · by_cases h92 : s[k].toNat = 92
      · have hst := Lib.hid (unesc_at_esc (t := l) hlt h92)
        have z1 : ((s[k].toNat : Int) == 92) = true := by simp [h92]
        clear h92
        have hE := esc_call s k wr hs hlt
        have Hk3 := Lib.hid (fun x (h : escAt (s.data.toList.drop (k + 1)) = some x) => by have := escAt_len h; simp at this; exact (show k + 3 ≤ s.size by omega))
        cases he : escAt (s.data.toList.drop (k + 1)) with
        | none =>
          have hfin : Hid (R = none) := by unfold Hid; rw [hU.out, hst.out, he]
          have hE2 := hE.mono fun e w' h => And.intro (h.1.2 he) h.2
          clear hE he hst Hk3
          go_wp2_with fail
          refine hE2.mono ?_
          rintro e w' ⟨⟨y, rfl⟩, rfl⟩
          go_wp2_with fail
          go_ret2
          exact unescPost_eq (o' := none) hfin.out ⟨hb, rfl⟩
        | some x =>
          have hfin : Hid (R = unesc (l ++ [x]) (s.data.toList.drop (k + 3))) := by unfold Hid; rw [hU.out, hst.out, he]
          have hk3 := Hk3.out x he
          have hE2 := hE.mono fun e w' h => And.intro (h.1.1 x he) h.2
          clear hE he hst Hk3
          go_wp2_with fail
          refine hE2.mono ?_
          rintro e w' ⟨rfl, rfl⟩
          go_wp2_with (at_builtin; refine wpList_app Tryd.underlying42 infoU8 _ w' rfl (.tmp 35) (.tmp 37) rfl w.heap.size vr l rfl hown [x] 1 1 _ rfl rfl rfl rfl rfl rfl rfl (by decide) (by omega) hsz ?_; intro l2 g1 cap1 w2 hl2 hown2 haw2 hb2 hat2 hlt2)
          refine ⟨⟨k + 3, l2, _, by omega, by go_num, rfl, ?_, ?_, hown2, hb.trans hb2⟩, by simp [intOf]; omega⟩
          · unfold Hid; rw [hfin.out, hl2.out]
          · rw [hl2.out]; simp; omega
      · have z1 : ((s[k].toNat : Int) == 92) = false := by simp; omega
        have hnI := needN_I s[k].toNat
        have hb255 : s[k].toNat < 256 := s[k].toNat_lt
        cases hn : needN s[k].toNat
        · have hst := Lib.hid (unesc_at_ok (t := l) hlt h92 hn)
          have hN := needsEscape_any (s[k].toNat : Int) wr (by omega) (by omega)
          rw [hnI, hn] at hN
          clear h92 hn hnI
          go_wp2_with fail
          refine hN.mono ?_
          rintro e w' ⟨rfl, rfl⟩
          go_wp2_with (at_builtin; refine wpList_app Tryd.underlying42 infoU8 _ w' rfl (.tmp 35) (.tmp 37) rfl w.heap.size vr l rfl hown [s[k]] 1 1 _ rfl rfl rfl rfl rfl rfl rfl (by decide) (by omega) hsz ?_; intro l2 g1 cap1 w2 hl2 hown2 haw2 hb2 hat2 hlt2)
          refine ⟨⟨k + 1, l2, _, by omega, by go_num, rfl, ?_, ?_, hown2, hb.trans hb2⟩, by simp [intOf]; omega⟩
          · unfold Hid; rw [hU.out, hst.out, hl2.out]
          · rw [hl2.out]; simp; omega
        · have hst := Lib.hid (unesc_at_bad (t := l) hlt h92 hn)
          have hN := needsEscape_any (s[k].toNat : Int) wr (by omega) (by omega)
          rw [hnI, hn] at hN
          clear h92 hn hnI
          go_wp2_with fail
          refine hN.mono ?_
          rintro e w' ⟨rfl, rfl⟩
          go_wp2_with fail
          go_ret2
          exact unescPost_eq (o' := none) (by rw [hU.out, hst.out]) ⟨hb, rfl⟩
    · have hfin : Hid (R = some l) := by unfold Hid; rw [hU.out, drop_all (by omega)]; rfl
      go_wp2_with (refine wpList_b2s Tryd.underlying9 Tryd.underlying42 Tryd.underlying5 _ rfl (.tmp 39) rfl _ _ l rfl hown ?_)
      go_ret2
      exact unescPost_eq hfin.out ⟨hb, rfl⟩
/-- The limits of a value. -/
theorem inLimits_any (k n : Int) (s : ByteArray) (w : World) (hs : s.size ≤ maxLen) :
    Calls Tryd.prog 64 #[.agg #[.int .i64 k, .int .i64 n, .string s]] w fun e w' => Below w.heap.size w w' ∧ e = if validB k n s = true then .returned (.tuple #[.agg #[.int .i64 k, .int .i64 n, .string s], .int .i64 0]) else .returned (.tuple #[.agg #[.int .i64 0, .int .i64 0, .string ⟨#[]⟩], .int .i64 1]) := by
  cases hv : validB k n s
  · simp only [Bool.false_eq_true, if_false]
    go_enter Tryd.func64, Tryd.ntmps64
    go_wp2_with fail
    refine (valid_any _ _ _ _ hs).mono ?_
    rw [hv]
    rintro e w' ⟨rfl, rfl⟩
    go_wp2_with fail
    refine bodyPost_ret (v := .tuple #[.agg #[.int .i64 0, .int .i64 0, .string ⟨#[]⟩], .int .i64 1]) (by simp [results, Tryd.results64, go_sem]) rfl ⟨?_, rfl⟩
    exact (((Below.refl _ _).alloc (by simp) _).alloc (by simp) _).alloc (by simp; omega) _
  · simp only [if_true]
    go_enter Tryd.func64, Tryd.ntmps64
    go_wp2_with fail
    refine (valid_any _ _ _ _ hs).mono ?_
    rw [hv]
    rintro e w' ⟨rfl, rfl⟩
    go_wp2_with fail
    refine bodyPost_ret (v := .tuple #[.agg #[.int .i64 k, .int .i64 n, .string s], .int .i64 0]) (by simp [results, Tryd.results64, go_sem]) rfl ⟨?_, rfl⟩
    exact (((Below.refl _ _).alloc (by simp) _).alloc (by simp) _).alloc (by simp; omega) _

/-- A value and an error. -/
def VE (w : World) (v : V) (n : Int) (e : Ending) (w' : World) : Prop := Below w.heap.size w w' ∧ e = .returned (.tuple #[.agg #[.int .i64 v.k, .int .i64 v.n, .string v.s], .int .i64 n])
theorem VE.start {w w1 w' : World} {v : V} {n : Int} {e : Ending} (h : VE w1 v n e w') (hb : Below w.heap.size w w1) : VE w v n e w' := ⟨hb.trans (h.1.mono hb.size), h.2⟩
/-- What a text gives. -/
def textR (o : Option (List UInt8)) : V × Int := match o with
  | none => (V.zero, 2)
  | some t => if t.length ≤ 32 then (⟨2, 0, ⟨t.toArray⟩⟩, 0) else (V.zero, 1)
theorem textR_ok {t : List UInt8} (h : t.length ≤ 32) : textR (some t) = (⟨2, 0, ⟨t.toArray⟩⟩, 0) := if_pos h
theorem textR_long {t : List UInt8} (h : ¬ t.length ≤ 32) : textR (some t) = (V.zero, 1) := if_neg h
theorem quote_toList : (⟨#[34]⟩ : ByteArray).data.toList = [34] := rfl

theorem unesc_len : ∀ (n : Nat) (l acc t : List UInt8), l.length ≤ n → unesc acc l = some t → t.length ≤ acc.length + l.length := by
  intro n
  induction n with
  | zero => intro l acc t h hu; have : l = [] := List.eq_nil_of_length_eq_zero (by omega); subst this; simp [unesc] at hu; subst hu; simp
  | succ n ih =>
    intro l acc t h hu
    rcases l with _ | ⟨b, l⟩
    · simp [unesc] at hu; subst hu; simp
    · by_cases h9 : b.toNat = 92
      · obtain rfl := u92 h9
        rcases l with _ | ⟨h1, _ | ⟨h2, r⟩⟩
        · rw [unesc_esc0] at hu; simp at hu
        · rw [unesc_esc1] at hu; simp at hu
        · rw [unesc_esc] at hu
          cases he : esc2 h1 h2 with
          | none => rw [he] at hu; simp at hu
          | some x =>
            rw [he] at hu
            have := ih r _ t (by simp at h; omega) hu
            simp at this ⊢; omega
      · rw [unesc_plain _ _ _ h9] at hu
        split at hu
        · simp at hu
        · have := ih l _ t (by simp at h; omega) hu
          simp at this ⊢; omega
theorem parseText_any (s : ByteArray) (w : World) (hs : s.size ≤ 1000000) (h1 : 1 ≤ s.size) (R : V × Int)
    (hR : R = textR (if Lib.hasSuffix (s.data.toList.drop 1) [34] = true then unesc [] ((s.data.toList.drop 1).take ((s.data.toList.drop 1).length - 1)) else none)) :
    Calls Tryd.prog 36 #[.string s] w (VE w R.1 R.2) := by
  have hx := extract_toList s 1 h1
  obtain ⟨u, hu⟩ : ∃ u : ByteArray, u = s.extract 1 s.size := ⟨_, rfl⟩
  rw [← hu] at hx
  have hul : u.size ≤ 1000000 := by rw [hu]; simp; omega
  have hcut := Tryd.strings_CutSuffix u ⟨#[34]⟩
  rw [quote_toList, hx] at hcut
  obtain ⟨R1, R2⟩ := R
  simp only
  cases hsuf : Lib.hasSuffix (s.data.toList.drop 1) [34]
  · rw [hsuf] at hR hcut
    simp only [Bool.false_eq_true, if_false, textR, Prod.mk.injEq] at hR
    obtain ⟨rfl, rfl⟩ := hR
    have Hcut := Lib.hid hcut
    have Hu := Lib.hid hu.symm
    have hb0 : Below w.heap.size w (w.alloc (.cells #[.int .i64 0, .int .i64 0, .string ⟨#[]⟩] 24)) := (Below.refl _ _).alloc (Nat.le_refl _) _
    clear hcut hu hx hsuf
    go_enter Tryd.func36, Tryd.ntmps36
    go_wp2_with fail
    rw [Hu.out]
    refine (Hcut.out _ (by omega)).mono ?_
    rintro e w' ⟨rfl, rfl⟩
    go_wp2_with fail
    refine bodyPost_ret (v := .tuple #[.agg #[.int .i64 0, .int .i64 0, .string ⟨#[]⟩], .int .i64 2]) (by simp [results, Tryd.results36, go_sem]) rfl ⟨?_, rfl⟩
    exact hb0
  · rw [hsuf] at hR hcut
    simp only [if_true] at hR
    have htr : Lib.trimSuffix (s.data.toList.drop 1) [34] = (s.data.toList.drop 1).take ((s.data.toList.drop 1).length - 1) := by unfold Lib.trimSuffix; rw [if_pos hsuf]; rfl
    rw [htr] at hcut
    generalize hbody : (s.data.toList.drop 1).take ((s.data.toList.drop 1).length - 1) = body at *
    have hbl : body.length ≤ 1000000 := by
      rw [← hbody]
      have : s.data.toList.length = s.size := by simp
      simp only [List.length_take, List.length_drop, this]
      omega
    have hun := unescape_any ⟨body.toArray⟩
    simp only at hun
    have Hcut := Lib.hid hcut
    have Hu := Lib.hid hu.symm
    have Hun := Lib.hid hun
    have hul2 : (⟨body.toArray⟩ : ByteArray).size ≤ 1000000 := by simpa [ByteArray.size] using hbl
    have hb0 : Below w.heap.size w (w.alloc (.cells #[.int .i64 0, .int .i64 0, .string ⟨#[]⟩] 24)) := (Below.refl _ _).alloc (Nat.le_refl _) _
    have Hb0 := Lib.hid hb0
    have hn0 : (w.alloc (.cells #[.int .i64 0, .int .i64 0, .string ⟨#[]⟩] 24)).heap[w.heap.size]? = some (.cells #[.int .i64 0, .int .i64 0, .string ⟨#[]⟩] 24) := heap_alloc_new _ _
    have Hn0 := Lib.hid hn0
    clear hcut hu hx hsuf hun htr hbody hb0 hn0
    cases hU : unesc [] body with
    | none =>
      rw [hU] at hR
      simp only [textR, Prod.mk.injEq] at hR
      obtain ⟨rfl, rfl⟩ := hR
      have HU := Lib.hid hU
      clear hU
      go_enter Tryd.func36, Tryd.ntmps36
      go_wp2_with fail
      rw [Hu.out]
      refine (Hcut.out _ (by omega)).mono ?_
      rintro e w' ⟨rfl, rfl⟩
      go_wp2_with fail
      refine (Hun.out _ hul2).mono ?_
      rw [HU.out]
      rintro e w2 ⟨hb2, rfl⟩
      obtain ⟨c0, c1, c2, f0, f1, f2⟩ := box3 ((hb2.block _ (by simp)).trans Hn0.out)
      go_wp2_with fail
      refine bodyPost_ret (v := .tuple #[.agg #[.int .i64 0, .int .i64 0, .string ⟨#[]⟩], .int .i64 2]) (by simp [results, Tryd.results36, go_sem, c0, c1, c2]) rfl ⟨?_, rfl⟩
      exact (((Hb0.out.trans (hb2.mono (by simp))).setCell (by simp) _).setCell (by simp) _).setCell (by simp) _
    | some t =>
      rw [hU] at hR
      have HU := Lib.hid hU
      have htl : t.length ≤ 1000000 := by have := unesc_len body.length body [] t (Nat.le_refl _) hU; simp at this; omega
      have hvb : validB 2 0 ⟨t.toArray⟩ = decide (t.length ≤ 32) := by simp [validB, ByteArray.size]
      have hin := inLimits_any 2 0 ⟨t.toArray⟩
      rw [hvb] at hin
      have hRR : R1 = (if t.length ≤ 32 then ⟨2, 0, ⟨t.toArray⟩⟩ else V.zero) ∧ R2 = if t.length ≤ 32 then 0 else 1 := by
        by_cases h32 : t.length ≤ 32
        · rw [textR_ok h32] at hR; simp only [h32, if_true]; simpa using hR
        · rw [textR_long h32] at hR; simp only [h32, if_false]; simpa using hR
      have HRR := Lib.hid hRR
      have Hin := Lib.hid hin
      clear hU hR hin hRR hvb
      go_enter Tryd.func36, Tryd.ntmps36
      go_wp2_with fail
      rw [Hu.out]
      refine (Hcut.out _ (by omega)).mono ?_
      rintro e w' ⟨rfl, rfl⟩
      go_wp2_with fail
      refine (Hun.out _ hul2).mono ?_
      rw [HU.out]
      rintro e w2 ⟨hb2, rfl⟩
      have hb02 := Hb0.out.trans (hb2.mono (by simp))
      have Hn2 := Lib.hid ((hb2.block _ (by simp)).trans Hn0.out)
      have hs2 := hb2.size
      clear hb2
      go_wp2_with fail
      refine (Hin.out w2 (by simp [maxLen, ByteArray.size]; omega)).mono ?_
      rintro e w3 ⟨hb3, he⟩
      obtain ⟨c0, c1, c2, f0, f1, f2⟩ := box3 ((hb3.block _ (by simp at hs2; omega)).trans Hn2.out)
      have hb03 := hb02.trans (hb3.mono hb02.size)
      clear hb3 hs2
      by_cases h32 : t.length ≤ 32
      · have hrr := HRR.out
        simp only [h32, if_true] at hrr
        obtain ⟨rfl, rfl⟩ := hrr
        simp only [h32, decide_true, if_true] at he
        subst he
        go_wp2_with fail
        refine bodyPost_ret (v := .tuple #[.agg #[.int .i64 2, .int .i64 0, .string ⟨t.toArray⟩], .int .i64 0]) (by simp [results, Tryd.results36, go_sem, c0, c1, c2]) rfl ⟨?_, rfl⟩
        exact ((hb03.setCell (by simp) _).setCell (by simp) _).setCell (by simp) _
      · have hrr := HRR.out
        simp only [h32, if_false] at hrr
        obtain ⟨rfl, rfl⟩ := hrr
        simp only [h32, decide_false, Bool.false_eq_true, if_false] at he
        subst he
        go_wp2_with fail
        refine bodyPost_ret (v := .tuple #[.agg #[.int .i64 0, .int .i64 0, .string ⟨#[]⟩], .int .i64 1]) (by simp [results, Tryd.results36, go_sem, c0, c1, c2]) rfl ⟨?_, rfl⟩
        exact ((hb03.setCell (by simp) _).setCell (by simp) _).setCell (by simp) _
end Go.Proofs.YtninmolgkkhikaaDoor
