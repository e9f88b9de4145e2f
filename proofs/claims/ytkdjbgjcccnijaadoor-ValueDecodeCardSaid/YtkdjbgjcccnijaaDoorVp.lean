/- What is decoded is what was encoded; CleanRow. -/
import Derived.Test.YtkdjbgjcccnijaaDoorVo
import Derived.Test.YtkdjbgjcccnijaaDoorMb
namespace Go.Proofs.YtkdjbgjcccnijaaDoor
open Go.RowKit Go.Proofs.EB
open Go.Lib (byteCells)
set_option maxHeartbeats 1000000
attribute [local go_sem] World.cell?_alloc_some

theorem decT_esc (t r : List UInt8) : decT (escL t ++ ([0, 0] ++ r)) = some (t, r) := by
  induction t with
  | nil => simp [escL, decT]
  | cons b t ih =>
    have e1 : escL (b :: t) = esc1 b ++ escL t := by simp [escL]
    rw [e1, List.append_assoc]
    unfold esc1
    by_cases hb : b.toNat = 0
    · rw [if_pos hb]
      have hb0 : b = 0 := UInt8.toNat_inj.1 (by simpa using hb)
      have h255 : (255 : UInt8).toNat = 255 := rfl
      have h0 : (0 : UInt8).toNat = 0 := rfl
      simp only [List.cons_append, List.nil_append, decT, h0, h255, if_true]
      rw [if_neg (by decide)]
      simp only [List.cons_append, List.nil_append] at ih
      rw [ih, hb0]
      rfl
    · rw [if_neg hb]
      cases hx : escL t ++ ([0, 0] ++ r) with
      | nil => simp at hx
      | cons c m =>
        rw [hx] at ih
        simp only [List.cons_append, List.nil_append, decT]
        rw [if_neg hb, ih]
        rfl
theorem byteAt_nat (m : Int) (i : Nat) (h : 0 ≤ m) : ((byteAt m i).toNat : Int) = m / 256 ^ i % 256 := by
  have h1 : 0 ≤ m / 256 ^ i := Int.ediv_nonneg h (by exact Int.pow_nonneg (by decide))
  have h2 : (byteAt m i).toNat = (m / 256 ^ i).toNat % 256 := by
    unfold byteAt
    rw [UInt8.toNat_ofNat']
    omega
  rw [h2]
  omega
theorem be5_int5 (m : Int) (h : 0 ≤ m) (h2 : m < 1099511627776) : be5 (int5 m) = m := by
  have h4 := byteAt_nat m 4 h
  have h3 := byteAt_nat m 3 h
  have h2' := byteAt_nat m 2 h
  have h1 := byteAt_nat m 1 h
  have h0 := byteAt_nat m 0 h
  simp only [be5, int5, List.foldl_cons, List.foldl_nil]
  rw [h4, h3, h2', h1, h0]
  omega
theorem decV_encV (x : V) (r : List UInt8) : decV (encV (cleanV x) ++ r) = some (cleanV x, r) := by
  have hv := cleanV_valid x
  rcases clean_shape x with h | ⟨n, h⟩ | ⟨s, h⟩
  · rw [h]; simp [encV, decV]
  · rw [h] at hv ⊢
    have hr : -4294967296 ≤ n ∧ n ≤ 4294967296 := by simp [vB, validB] at hv; omega
    have e1 : encV ⟨1, n, ⟨#[]⟩⟩ = 2 :: int5 (n + 4294967296) := by simp [encV]
    have e2 := be5_int5 (n + 4294967296) (by omega) (by omega)
    have e3 : (int5 (n + 4294967296)).length = 5 := rfl
    rw [e1, List.cons_append]
    have h1 : ¬ (2 : UInt8).toNat = 1 := by decide
    have h2 : (2 : UInt8).toNat = 2 := rfl
    simp only [decV, h2, if_true]
    rw [if_neg (by simp)]
    have e4 : (int5 (n + 4294967296) ++ r).take 5 = int5 (n + 4294967296) := List.take_left' e3
    have e5 : (int5 (n + 4294967296) ++ r).drop 5 = r := List.drop_left' e3
    rw [e4, e5, e2]
    simp
    omega
  · rw [h]
    have e1 : encV ⟨2, 0, s⟩ = 3 :: (escL s.data.toList ++ [0, 0]) := by simp [encV]
    rw [e1, List.cons_append, List.append_assoc]
    have h1 : ¬ (3 : UInt8).toNat = 1 := by decide
    have h2 : ¬ (3 : UInt8).toNat = 2 := by decide
    have h3 : (3 : UInt8).toNat = 3 := rfl
    simp only [decV, h3, if_true]
    rw [decT_esc]
    rfl
theorem decR_encRow : ∀ (l : List V) (n : Nat) (acc : List V), l.length ≤ n → acc.length ≤ 16 →
    decR n (encRow l) acc = if acc.length + l.length ≤ 16 then some (acc ++ l.map cleanV) else none := by
  intro l
  induction l with
  | nil => intro n acc _ h; rw [if_pos (by simpa using h)]; cases n <;> simp [encRow, decR]
  | cons x l ih =>
    intro n acc hn ha
    obtain ⟨m, rfl⟩ : ∃ m, n = m + 1 := ⟨n - 1, by simp at hn; omega⟩
    have e1 : encRow (x :: l) = encV (cleanV x) ++ encRow l := by simp [encRow]
    obtain ⟨b, t, hb⟩ := encV_ne x
    have hd := decV_encV x (encRow l)
    rw [e1]
    rw [hb] at hd ⊢
    rw [List.cons_append] at hd ⊢
    rw [decR, hd]
    simp only [cleanV_valid, true_and]
    by_cases h16 : acc.length = 16
    · rw [if_neg (by simpa using h16), if_neg (by simp; omega)]
    · rw [if_pos h16, ih m _ (by simpa using hn) (by simp; omega)]
      simp only [List.length_append, List.length_cons, List.length_nil, List.map_cons, List.append_assoc, List.cons_append, List.nil_append]
      have e2 : (acc.length + (0 + 1) + l.length ≤ 16) = (acc.length + (l.length + 1) ≤ 16) := by apply propext; omega
      simp only [e2]
theorem encRow_big (l : List V) : l.length ≤ (encRow l).length := by
  induction l with
  | nil => simp
  | cons x l ih =>
    have e1 : encRow (x :: l) = encV (cleanV x) ++ encRow l := by simp [encRow]
    obtain ⟨b, t, hb⟩ := encV_ne x
    rw [e1, hb]
    simp; omega

/-- A call that gives a new row. -/
def GivesRow (w : World) (l : List V) (e : Ending) (w' : World) : Prop := ∃ ao cap n, n = l.length ∧ e = .returned (.slice ao n cap) ∧ RowAt w' w'.heap.size ao l ∧ Below w.heap.size w w'
theorem cleanRow_any (ao : Option Addr) (cap : Nat) (l : List V) (w : World) (hl : l.length ≤ 1000000) (hr : RowAt w w.heap.size ao l) :
    Calls Tryd.prog 38 #[.slice ao l.length cap] w (GivesRow w (l.map cleanV)) := by
  have hall : ∀ x ∈ l.map cleanV, vB x = true := by intro x hx; simp only [List.mem_map] at hx; obtain ⟨y, _, rfl⟩ := hx; exact cleanV_valid y
  have Hall := Lib.hid hall
  clear hall
  go_enter Tryd.func38, Tryd.ntmps38
  go_wp2_with fail
  go_loopw [3, 4] (fun v i wr => ∃ (k : Nat) (l' : List V) (vr : Value), k ≤ l.length ∧ i = .int .i64 k ∧ vr = v ∧ l'.length = k ∧ Hid (l' = (l.take k).map cleanV) ∧ OwnsV wr w.heap.size vr l' ∧ Hid (Below w.heap.size w wr)) (fun _ i _ => l.length - (intOf i).toNat)
  case atStart => exact ⟨0, [], _, Nat.zero_le _, rfl, rfl, rfl, by simp [Hid], OwnsV.nil _ _, Below.refl _ _⟩
  case round =>
    obtain ⟨k, l', vr, hk, rfl, rfl, hlk, hl', hown, hb⟩ := hrel
    have hsz := hb.out.size
    by_cases hlt : k < l.length
    · obtain ⟨b, off, kk, n, s, rfl, hbB, hv, hok, c1, c2, c3⟩ := (hr.below hb.out).at hlt
      have hq : (l.take (k + 1)).map cleanV = (l.take k).map cleanV ++ [cleanV ⟨kk, n, s⟩] := by rw [← hv, take_snocV l k hlt, List.map_append]; rfl
      have Hok := Lib.hid hok
      obtain ⟨⟨kc, nc, sc⟩, hcl⟩ : ∃ x, cleanV ⟨kk, n, s⟩ = x := ⟨_, rfl⟩
      rw [hcl] at hq
      have Hq := Lib.hid hq
      have Hcl := Lib.hid hcl
      clear hv hok hq hcl
      go_wp2_with fail
      refine (rclean_is _ Hok.out.2.2 Hcl.out).mono ?_
      rintro e w1 ⟨rfl, hb1⟩
      have haw : Away none wr w1 := away_of_below hb1
      have hown1 := haw.owns hown (by cases vr.ownBlock <;> simp)
      have hb1' := hb.out.trans (hb1.mono hsz)
      have hs1 := hb1'.size
      clear c1 c2 c3
      go_wp2_with (at_builtin; refine wpList_appV _ w1 rfl (.tmp 11) (.tmp 17) rfl w.heap.size vr l' rfl hown1 ⟨kc, nc, sc⟩ 1 rfl rfl rfl rfl rfl (by omega) (by omega) ?_; intro l3 g3 cap3 w3 hl3 hown3 haw3 hb3 hat3 hlt3)
      refine ⟨⟨k + 1, l3, _, by omega, by go_num, rfl, by rw [hl3.out]; simp; omega, ?_, hown3, hb1'.trans hb3⟩, by simp [intOf]; omega⟩
      unfold Hid
      rw [Hq.out, hl3.out, hl'.out]
    · have hke : k = l.length := by omega
      subst hke
      have e1 : l' = l.map cleanV := by rw [hl'.out, List.take_length]
      obtain ⟨ao', cap', hsl, hrow, hlo, hnil⟩ := hown.rowAt (by rw [e1]; exact fun x hx => vB_ok (Hall.out x hx))
      subst hsl
      have E1 := Lib.hid e1
      clear e1
      go_wp2_with fail
      go_ret
      exact ⟨ao', cap', l'.length, by rw [E1.out], rfl, by rw [← E1.out]; exact hrow, hb.out⟩
end Go.Proofs.YtkdjbgjcccnijaaDoor
