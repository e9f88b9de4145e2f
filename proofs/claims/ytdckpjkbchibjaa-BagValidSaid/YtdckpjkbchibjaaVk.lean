/- Contracts of decodeInt, decodeText, decodeValue of package value: what they read, as plain functions of the bytes. -/
import Derived.Test.YtdckpjkbchibjaaVj
namespace Go.Proofs.Ytdckpjkbchibjaa
open Go.RowKit Go.Proofs.EB
open Go.Lib (byteCells)
set_option maxHeartbeats 1000000
attribute [local go_sem] World.cell?_alloc_some

/-- The bytes of a text up to its end: the text, and what follows its end; none where there is no end. -/
def decT : List UInt8 → Option (List UInt8 × List UInt8)
  | [] => none
  | [_] => none
  | a :: b :: r => if a.toNat = 0 then (if b.toNat = 0 then some ([], r) else if b.toNat = 255 then (decT r).map (fun x => (0 :: x.1, x.2)) else none) else (decT (b :: r)).map (fun x => (a :: x.1, x.2))
/-- The number of five bytes. -/
def be5 (l : List UInt8) : Int := l.foldl (fun n b => n * 256 + b.toNat) 0
/-- A value at the beginning of the bytes, valid or not, and what follows it. -/
def decV : List UInt8 → Option (V × List UInt8)
  | [] => none
  | m :: r => if m.toNat = 1 then some (⟨0, 0, ⟨#[]⟩⟩, r)
    else if m.toNat = 2 then (if r.length < 5 then none else some (⟨1, be5 (r.take 5) - 4294967296, ⟨#[]⟩⟩, r.drop 5))
    else if m.toNat = 3 then (decT r).map (fun x => (⟨2, 0, ⟨x.1.toArray⟩⟩, x.2))
    else none
/-- What a function that decodes returns: a value and a size. -/
def Pair (w : World) (v : V) (n : Nat) (e : Ending) (w' : World) : Prop := e = .returned (.tuple #[.agg #[.int .i64 v.k, .int .i64 v.n, .string v.s], .int .i64 n]) ∧ Below w.heap.size w w'

theorem be5_snoc (l : List UInt8) (b : UInt8) : be5 (l ++ [b]) = be5 l * 256 + b.toNat := by simp [be5]
theorem be5_bound (l : List UInt8) : 0 ≤ be5 l ∧ be5 l < 256 ^ l.length := by
  suffices h : ∀ n : Nat, ∀ l : List UInt8, l.length = n → 0 ≤ be5 l ∧ be5 l < 256 ^ n from h _ l rfl
  intro n
  induction n with
  | zero => intro l hl; rw [List.eq_nil_of_length_eq_zero hl]; simp [be5]
  | succ n ih =>
    intro l hl
    obtain ⟨m, b, rfl⟩ : ∃ m b, l = m ++ [b] := ⟨l.dropLast, l.getLast (by intro h; simp [h] at hl), (List.dropLast_concat_getLast _).symm⟩
    have h1 := ih m (by simpa using hl)
    have hb : b.toNat < 256 := b.toNat_lt
    rw [be5_snoc, Int.pow_succ]
    omega
theorem ofInt_i64 (a : Nat) (h : a < 18446744073709551616) : (BitVec.ofInt 64 (a : Int)).toNat = a := by
  rw [BitVec.toNat_ofInt]; omega
theorem or_low (N B : Nat) (hN : N < 1099511627776) (hB : B < 256) : bits BinOp.or IntKind.i64 ((N : Int) * 256) (B : Int) = (N : Int) * 256 + B := by
  have e : ((N : Int) * 256) = ((N * 256 : Nat) : Int) := by omega
  rw [e]
  show IntKind.i64.wrap ((BitVec.ofInt 64 ((N * 256 : Nat) : Int) ||| BitVec.ofInt 64 (B : Int)).toNat : Int) = _
  rw [BitVec.toNat_or, ofInt_i64 _ (by omega), ofInt_i64 _ (by omega)]
  have h1 : N * 256 ||| B = N * 256 + B := by
    have := Nat.shiftLeft_add_eq_or_of_lt (show B < 2 ^ 8 by omega) N
    rw [Nat.shiftLeft_eq] at this
    exact this.symm
  rw [h1]
  rw [IntWalk.i64_in _ (by omega)]
  omega

theorem decodeInt_any (s : ByteArray) (w : World) (hs : s.size ≤ 1000000) (hs1 : 1 ≤ s.size) :
    Calls Try.prog 86 #[.string s] w (if s.size < 6 then Pair w V.zero 0 else if validB 1 (be5 ((s.data.toList.drop 1).take 5) - 4294967296) ⟨#[]⟩ = true then Pair w ⟨1, be5 ((s.data.toList.drop 1).take 5) - 4294967296, ⟨#[]⟩⟩ 6 else Pair w V.zero 0) := by
  by_cases h6 : s.size < 6
  · rw [if_pos h6]
    go_enter Try.func86, Try.ntmps86
    go_wp2_with fail
    exact bodyPost_ret (v := .tuple #[.agg #[.int .i64 0, .int .i64 0, .string ⟨#[]⟩], .int .i64 0]) (by simp [results, Try.results86, go_sem]) rfl ⟨rfl, (Below.refl _ _).alloc (Nat.le_refl _) _⟩
  · rw [if_neg h6]
    have h6' : 6 ≤ s.size := by omega
    have ht5 : (s.extract 1 6).size = 5 := by simp; omega
    have htl : (s.extract 1 6).data.toList = (s.data.toList.drop 1).take 5 := by simp
    rw [← htl]
    generalize hm : be5 (s.extract 1 6).data.toList = m
    cases hok : validB 1 (m - 4294967296) ⟨#[]⟩
    · rw [if_neg (by simp)]
      go_enter Try.func86, Try.ntmps86
      go_wp2_with (refine wpList_s2b Try.underlying9 Try.underlying86 Try.underlying5 _ rfl (.tmp 16) rfl (s.extract 1 6) rfl ?_; intro cap w1 hb1 hlt1 hc1)
      generalize s.extract 1 6 = t at *
      have Hm := Lib.hid hm
      have Ht5 := Lib.hid ht5
      have ht5' : t.size ≤ 5 := by omega
      have ht5'' : 5 ≤ t.size := by omega
      have hb1' := below_old2 hb1
      have hn1 := below_new (by simpa using hb1)
      have hlt1' : w.heap.size + 1 < w1.heap.size := by simpa using hlt1
      have hc1' : ∀ j (hj : j < t.size), w1.cell? ⟨w.heap.size + 1, j, none⟩ = some (.int .u8 ((t[j]).toNat : Int)) := by simpa using hc1
      have Hc := Lib.hid hc1'
      have Hn1 := Lib.hid hn1
      clear hc1 hc1' hn1 hlt1 hb1 ht5 htl hm
      go_loop [5, 19] (fun n i => ∃ k : Nat, k ≤ t.size ∧ i = .int .i64 k ∧ n = .int .i64 (be5 (t.data.toList.take k))) (fun _ i => t.size - (intOf i).toNat)
      case atStart => exact ⟨0, Nat.zero_le _, rfl, rfl⟩
      case round =>
        obtain ⟨k, hk, rfl, rfl⟩ := hrel
        have hbd := be5_bound (t.data.toList.take k)
        by_cases hlt : k < t.size
        · have hcell := Hc.out k hlt
          have hsn := be5_snoc (t.data.toList.take k) t[k]
          rw [← take_snoc t k hlt] at hsn
          have Hsn := Lib.hid hsn
          have hlen : (t.data.toList.take k).length ≤ 4 := by simp; omega
          have hbd2 : be5 (t.data.toList.take k) < 4294967296 := by
            have h1 : (256 : Int) ^ (t.data.toList.take k).length ≤ 4294967296 := by
              generalize (t.data.toList.take k).length = L at hlen
              rcases (show L = 0 ∨ L = 1 ∨ L = 2 ∨ L = 3 ∨ L = 4 by omega) with rfl | rfl | rfl | rfl | rfl <;> decide
            omega
          have hb256 : (t[k]).toNat < 256 := (t[k]).toNat_lt
          obtain ⟨N, hN⟩ := Int.eq_ofNat_of_zero_le hbd.1
          have hor := or_low N (t[k]).toNat (by omega) hb256
          rw [← hN] at hor
          have h00 := hbd.1
          clear hbd hsn hlen
          have HN := Lib.hid hN
          clear hN
          go_wp2_with fail
          go_round
          case rel => exact ⟨k + 1, by omega, by go_num, by rw [Hsn.out] <;> rfl⟩
          case measure => simp [intOf]; omega
        · have hk5 : k = t.size := by omega
          subst hk5
          have htk : t.data.toList.take t.size = t.data.toList := List.take_of_length_le (by simp)
          rw [htk, Hm.out] at hbd
          have hlen : t.data.toList.length = 5 := by have := Ht5.out; simpa using this
          rw [hlen] at hbd
          have hb0 := hbd.1
          have hb9 : m < 1099511627776 := by have := hbd.2; omega
          have htk2 : be5 (t.data.toList.take t.size) = m := by rw [htk]; exact Hm.out
          clear hbd hlt hlen htk hk
          obtain ⟨c0, c1, c2, f0, f1, f2⟩ := box3 Hn1.out
          go_wp2_with fail
          refine (valid_b _ _ _ _ (by simp [maxLen, ByteArray.size])).mono ?_
          simp only [hok]
          rintro e w2 ⟨rfl, hb2⟩
          have hl2 := (Array.getElem?_eq_some_iff.1 Hn1.out).1
          have hnn : (w1.alloc (.cells #[.int .i64 1, .int .i64 (m - 4294967296), .string ⟨#[]⟩] 42)).heap[w.heap.size]? = some (.cells #[.int .i64 0, .int .i64 0, .string ⟨#[]⟩] 42 (0, 0)) := (Below.heap_alloc _ _ _ hl2).trans Hn1.out
          obtain ⟨d0, d1, d2, g0, g1, g2⟩ := box3 ((hb2.block w.heap.size (by simp; omega)).trans hnn)
          have hnb : (w1.alloc (.cells #[.int .i64 1, .int .i64 (m - 4294967296), .string ⟨#[]⟩] 42)).heap[w1.heap.size]? = some (.cells #[.int .i64 1, .int .i64 (m - 4294967296), .string ⟨#[]⟩] 42 (0, 0)) := heap_alloc_new _ _
          obtain ⟨e0, e1, e2, _, _, _⟩ := box3 ((hb2.block w1.heap.size (by simp)).trans hnb)
          have hfin : Below w.heap.size w w2 := (hb1'.alloc (by omega) _).trans (hb2.mono (by simp; omega))
          clear c0 c1 c2 f0 f1 f2 hnn hnb hb2 hok
          go_wp2_with fail
          exact bodyPost_ret (v := .tuple #[.agg #[.int .i64 0, .int .i64 0, .string ⟨#[]⟩], .int .i64 0]) (by simp [results, Try.results86, go_sem, d0, d1, d2]) rfl ⟨rfl, ((hfin.setCell (p := ⟨w.heap.size, 0, none⟩) (Nat.le_refl _) _).setCell (p := ⟨w.heap.size, 1, none⟩) (Nat.le_refl _) _).setCell (p := ⟨w.heap.size, 2, none⟩) (Nat.le_refl _) _⟩
    · rw [if_pos rfl]
      go_enter Try.func86, Try.ntmps86
      go_wp2_with (refine wpList_s2b Try.underlying9 Try.underlying86 Try.underlying5 _ rfl (.tmp 16) rfl (s.extract 1 6) rfl ?_; intro cap w1 hb1 hlt1 hc1)
      generalize s.extract 1 6 = t at *
      have Hm := Lib.hid hm
      have Ht5 := Lib.hid ht5
      have ht5' : t.size ≤ 5 := by omega
      have ht5'' : 5 ≤ t.size := by omega
      have hb1' := below_old2 hb1
      have hn1 := below_new (by simpa using hb1)
      have hlt1' : w.heap.size + 1 < w1.heap.size := by simpa using hlt1
      have hc1' : ∀ j (hj : j < t.size), w1.cell? ⟨w.heap.size + 1, j, none⟩ = some (.int .u8 ((t[j]).toNat : Int)) := by simpa using hc1
      have Hc := Lib.hid hc1'
      have Hn1 := Lib.hid hn1
      clear hc1 hc1' hn1 hlt1 hb1 ht5 htl hm
      go_loop [5, 19] (fun n i => ∃ k : Nat, k ≤ t.size ∧ i = .int .i64 k ∧ n = .int .i64 (be5 (t.data.toList.take k))) (fun _ i => t.size - (intOf i).toNat)
      case atStart => exact ⟨0, Nat.zero_le _, rfl, rfl⟩
      case round =>
        obtain ⟨k, hk, rfl, rfl⟩ := hrel
        have hbd := be5_bound (t.data.toList.take k)
        by_cases hlt : k < t.size
        · have hcell := Hc.out k hlt
          have hsn := be5_snoc (t.data.toList.take k) t[k]
          rw [← take_snoc t k hlt] at hsn
          have Hsn := Lib.hid hsn
          have hlen : (t.data.toList.take k).length ≤ 4 := by simp; omega
          have hbd2 : be5 (t.data.toList.take k) < 4294967296 := by
            have h1 : (256 : Int) ^ (t.data.toList.take k).length ≤ 4294967296 := by
              generalize (t.data.toList.take k).length = L at hlen
              rcases (show L = 0 ∨ L = 1 ∨ L = 2 ∨ L = 3 ∨ L = 4 by omega) with rfl | rfl | rfl | rfl | rfl <;> decide
            omega
          have hb256 : (t[k]).toNat < 256 := (t[k]).toNat_lt
          obtain ⟨N, hN⟩ := Int.eq_ofNat_of_zero_le hbd.1
          have hor := or_low N (t[k]).toNat (by omega) hb256
          rw [← hN] at hor
          have h00 := hbd.1
          clear hbd hsn hlen
          have HN := Lib.hid hN
          clear hN
          go_wp2_with fail
          go_round
          case rel => exact ⟨k + 1, by omega, by go_num, by rw [Hsn.out] <;> rfl⟩
          case measure => simp [intOf]; omega
        · have hk5 : k = t.size := by omega
          subst hk5
          have htk : t.data.toList.take t.size = t.data.toList := List.take_of_length_le (by simp)
          rw [htk, Hm.out] at hbd
          have hlen : t.data.toList.length = 5 := by have := Ht5.out; simpa using this
          rw [hlen] at hbd
          have hb0 := hbd.1
          have hb9 : m < 1099511627776 := by have := hbd.2; omega
          have htk2 : be5 (t.data.toList.take t.size) = m := by rw [htk]; exact Hm.out
          clear hbd hlt hlen htk hk
          obtain ⟨c0, c1, c2, f0, f1, f2⟩ := box3 Hn1.out
          go_wp2_with fail
          refine (valid_b _ _ _ _ (by simp [maxLen, ByteArray.size])).mono ?_
          simp only [hok]
          rintro e w2 ⟨rfl, hb2⟩
          have hl2 := (Array.getElem?_eq_some_iff.1 Hn1.out).1
          have hnn : (w1.alloc (.cells #[.int .i64 1, .int .i64 (m - 4294967296), .string ⟨#[]⟩] 42)).heap[w.heap.size]? = some (.cells #[.int .i64 0, .int .i64 0, .string ⟨#[]⟩] 42 (0, 0)) := (Below.heap_alloc _ _ _ hl2).trans Hn1.out
          obtain ⟨d0, d1, d2, g0, g1, g2⟩ := box3 ((hb2.block w.heap.size (by simp; omega)).trans hnn)
          have hnb : (w1.alloc (.cells #[.int .i64 1, .int .i64 (m - 4294967296), .string ⟨#[]⟩] 42)).heap[w1.heap.size]? = some (.cells #[.int .i64 1, .int .i64 (m - 4294967296), .string ⟨#[]⟩] 42 (0, 0)) := heap_alloc_new _ _
          obtain ⟨e0, e1, e2, _, _, _⟩ := box3 ((hb2.block w1.heap.size (by simp)).trans hnb)
          have hfin : Below w.heap.size w w2 := (hb1'.alloc (by omega) _).trans (hb2.mono (by simp; omega))
          clear c0 c1 c2 f0 f1 f2 hnn hnb hb2 hok
          go_wp2_with fail
          exact bodyPost_ret (v := .tuple #[.agg #[.int .i64 1, .int .i64 (m - 4294967296), .string ⟨#[]⟩], .int .i64 6]) (by simp [results, Try.results86, go_sem, d0, d1, d2]) rfl ⟨rfl, ((hfin.setCell (p := ⟨w.heap.size, 0, none⟩) (Nat.le_refl _) _).setCell (p := ⟨w.heap.size, 1, none⟩) (Nat.le_refl _) _).setCell (p := ⟨w.heap.size, 2, none⟩) (Nat.le_refl _) _⟩

/-- What decodeText returns for the bytes s (which begin with its mark): the text, if it has an end and at most 32 bytes. -/
def decTB (s : ByteArray) (w : World) : Ending → World → Prop :=
  match decT (s.data.toList.drop 1) with
  | some (t, r) => if t.length ≤ 32 then Pair w ⟨2, 0, ⟨t.toArray⟩⟩ (s.size - r.length) else Pair w V.zero 0
  | none => Pair w V.zero 0
theorem decT_app : ∀ (n : Nat) (l : List UInt8), l.length ≤ n → ∀ t r, decT l = some (t, r) → r.length + t.length + 2 ≤ l.length := by
  intro n
  induction n with
  | zero =>
    intro l hl t r h
    have e : l = [] := List.eq_nil_of_length_eq_zero (by omega)
    subst e
    simp [decT] at h
  | succ n ih =>
    intro l hl t r h
    match l, hl, h with
    | [], _, h => simp [decT] at h
    | [_], _, h => simp [decT] at h
    | a :: b :: m, hl, h =>
      simp only [decT] at h
      split at h
      · split at h
        · simp at h; obtain ⟨rfl, rfl⟩ := h; simp
        · split at h
          · simp only [Option.map_eq_some_iff, Prod.mk.injEq] at h
            obtain ⟨⟨t', r'⟩, h1, rfl, rfl⟩ := h
            have := ih m (by simp at hl; omega) t' r' h1
            simp; omega
          · simp at h
      · simp only [Option.map_eq_some_iff, Prod.mk.injEq] at h
        obtain ⟨⟨t', r'⟩, h1, rfl, rfl⟩ := h
        have := ih (b :: m) (by simp at hl ⊢; omega) t' r' h1
        simp at this ⊢; omega

theorem decT_step {s : ByteArray} {i : Nat} (h : i + 1 < s.size) : s.data.toList.drop i = s[i] :: s[i + 1] :: s.data.toList.drop (i + 2) := by
  have h1 : i < s.data.toList.length := by simpa using (show i < s.size by omega)
  have h2 : i + 1 < s.data.toList.length := by simpa using h
  rw [List.drop_eq_getElem_cons h1, List.drop_eq_getElem_cons h2]
  rfl
theorem decTB_none {s : ByteArray} {w : World} {e : Ending} {w' : World} {l : List UInt8} {i : Nat} (hd : decT (s.data.toList.drop 1) = (decT (s.data.toList.drop i)).map fun x => (l ++ x.1, x.2)) (hn : decT (s.data.toList.drop i) = none ∨ 32 < l.length) (h : Pair w V.zero 0 e w') : decTB s w e w' := by
  unfold decTB
  rw [hd]
  rcases hn with hn | hn
  · rw [hn]; exact h
  · cases hx : decT (s.data.toList.drop i) with
    | none => exact h
    | some x =>
      obtain ⟨t, r⟩ := x
      simp only [Option.map_some]
      rw [if_neg (by simp; omega)]
      exact h
theorem decTB_some {s : ByteArray} {w : World} {e : Ending} {w' : World} {l : List UInt8} {i : Nat} (hd : decT (s.data.toList.drop 1) = (decT (s.data.toList.drop i)).map fun x => (l ++ x.1, x.2)) (h2 : i + 1 < s.size) (hn : decT (s.data.toList.drop i) = some ([], s.data.toList.drop (i + 2))) (hl : l.length ≤ 32) (h : Pair w ⟨2, 0, ⟨l.toArray⟩⟩ (i + 2) e w') : decTB s w e w' := by
  unfold decTB
  rw [hd, hn]
  simp only [Option.map_some, List.append_nil]
  rw [if_pos hl]
  have e1 : s.size - (s.data.toList.drop (i + 2)).length = i + 2 := by simp; omega
  rw [e1]
  exact h
theorem decodeText_any (s : ByteArray) (w : World) (hs : s.size ≤ 1000000) :
    Calls Try.prog 87 #[.string s] w (decTB s w) := by
  have hz0 : Below (w.heap.size + 1) (w.alloc (.cells #[.int .i64 0, .int .i64 0, .string ⟨#[]⟩] 42)) (w.alloc (.cells #[.int .i64 0, .int .i64 0, .string ⟨#[]⟩] 42)) := Below.refl _ _
  go_enter Try.func87, Try.ntmps87
  go_wp2_with fail
  go_loopw [4, 5] (fun v i wr => ∃ (k : Nat) (l : List UInt8) (vr : Value), 1 ≤ k ∧ k ≤ s.size + 1 ∧ i = .int .i64 k ∧ vr = v ∧ l.length + 1 ≤ k ∧ Hid (decT (s.data.toList.drop 1) = (decT (s.data.toList.drop k)).map fun x => (l ++ x.1, x.2)) ∧ OwnsB wr (w.heap.size + 1) 5 vr l ∧ Hid (Below (w.heap.size + 1) (w.alloc (.cells #[.int .i64 0, .int .i64 0, .string ⟨#[]⟩] 42)) wr) ∧ w.heap.size + 1 ≤ wr.heap.size ∧ (∃ c a, vr = .slice a l.length c)) (fun _ i _ => s.size + 1 - (intOf i).toNat)
  case atStart => exact ⟨1, [], _, by omega, by omega, rfl, rfl, by simp, by simp [Hid], OwnsB.nil _ _, hz0, by simp, ⟨0, none, rfl⟩⟩
  case round =>
    obtain ⟨k, l, vr, hk1, hk2, rfl, rfl, hkl, hd, hown, hb, hsz, cp, ad, rfl⟩ := hrel
    clear hz0
    obtain ⟨d0, d1, d2, f0, f1, f2⟩ := box3 (below_new hb.out)
    have hbw := below_old hb.out
    by_cases hlt : k + 1 < s.size
    · by_cases hl32 : l.length ≤ 32
      · by_cases hz : s[k].toNat = 0
        · by_cases hz2 : s[k + 1].toNat = 0
          · have hn : decT (s.data.toList.drop k) = some ([], s.data.toList.drop (k + 2)) := by rw [decT_step hlt]; simp [decT, hz, hz2]
            have Hn := Lib.hid hn
            clear hn
            go_wp2_with (refine wpList_b2s Try.underlying9 Try.underlying86 Try.underlying5 _ rfl (.tmp 31) rfl _ (.slice ad l.length cp) l rfl hown ?_)
            refine bodyPost_ret (v := .tuple #[.agg #[.int .i64 2, .int .i64 0, .string ⟨l.toArray⟩], .int .i64 ((k : Int) + 2)]) (by simp [results, Try.results87, go_sem, d0, d1, d2]) rfl (decTB_some hd.out hlt Hn.out hl32 ⟨rfl, ((hbw.setCell (p := ⟨w.heap.size, 0, none⟩) (Nat.le_refl _) _).setCell (p := ⟨w.heap.size, 1, none⟩) (Nat.le_refl _) _).setCell (p := ⟨w.heap.size, 2, none⟩) (Nat.le_refl _) _⟩)
          · by_cases hz3 : s[k + 1].toNat = 255
            · have hn : decT (s.data.toList.drop k) = (decT (s.data.toList.drop (k + 2))).map fun x => (0 :: x.1, x.2) := by rw [decT_step hlt]; simp [decT, hz, hz3]
              have Hn := Lib.hid hn
              have hs0 : s[k] = 0 := UInt8.toNat_inj.1 (by simpa using hz)
              clear hn hz2 hs0
              go_wp2_with (at_builtin; refine wpList_app Try.underlying86 infoU8 _ wr rfl (.tmp 40) (.tmp 42) rfl (w.heap.size + 1) (.slice ad l.length cp) l rfl hown [0] 1 1 _ rfl rfl rfl rfl rfl rfl rfl (by decide) (by omega) hsz ?_; intro l2 g2 cap2 w2 hl2 hown2 haw2 hb2 hat2 hlt2)
              refine ⟨⟨k + 2, l2, _, by omega, by omega, by go_num, rfl, by rw [hl2.out]; simp; omega, ?_, hown2, hb.out.trans hb2, by have := hb2.size; omega, ⟨cap2, _, rfl⟩⟩, by simp [intOf]; omega⟩
              unfold Hid
              rw [hd.out, Hn.out, hl2.out]
              simp [Function.comp_def]
            · have hn : decT (s.data.toList.drop k) = none := by rw [decT_step hlt]; simp [decT, hz, hz2, hz3]
              have Hn := Lib.hid hn
              have z2 : (((s[k + 1]).toNat : Int) == 0) = false := by simpa using hz2
              have z3 : (((s[k + 1]).toNat : Int) == 255) = false := by simp; omega
              clear hn hz2 hz3
              go_wp2_with fail
              refine bodyPost_ret (v := .tuple #[.agg #[.int .i64 0, .int .i64 0, .string ⟨#[]⟩], .int .i64 0]) (by simp [results, Try.results87, go_sem, d0, d1, d2]) rfl (decTB_none hd.out (.inl Hn.out) ⟨rfl, ((hbw.setCell (p := ⟨w.heap.size, 0, none⟩) (Nat.le_refl _) _).setCell (p := ⟨w.heap.size, 1, none⟩) (Nat.le_refl _) _).setCell (p := ⟨w.heap.size, 2, none⟩) (Nat.le_refl _) _⟩)
        · have hn : decT (s.data.toList.drop k) = (decT (s.data.toList.drop (k + 1))).map fun x => (s[k] :: x.1, x.2) := by
            have e1 : s.data.toList.drop (k + 1) = s[k + 1] :: s.data.toList.drop (k + 2) := by
              rw [List.drop_eq_getElem_cons (show k + 1 < s.data.toList.length by simpa using hlt)]
              rfl
            rw [decT_step hlt, e1]; simp [decT, hz]
          have Hn := Lib.hid hn
          have z1 : (((s[k]).toNat : Int) == 0) = false := by simpa using hz
          clear hn hz
          go_wp2_with (at_builtin; refine wpList_app Try.underlying86 infoU8 _ wr rfl (.tmp 40) (.tmp 42) rfl (w.heap.size + 1) (.slice ad l.length cp) l rfl hown [s[k]] 1 1 _ rfl rfl rfl rfl rfl rfl rfl (by decide) (by omega) hsz ?_; intro l2 g2 cap2 w2 hl2 hown2 haw2 hb2 hat2 hlt2)
          refine ⟨⟨k + 1, l2, _, by omega, by omega, by go_num, rfl, by rw [hl2.out]; simp; omega, ?_, hown2, hb.out.trans hb2, by have := hb2.size; omega, ⟨cap2, _, rfl⟩⟩, by simp [intOf]; omega⟩
          unfold Hid
          rw [hd.out, Hn.out, hl2.out]
          simp [Function.comp_def]
      · go_wp2_with fail
        refine bodyPost_ret (v := .tuple #[.agg #[.int .i64 0, .int .i64 0, .string ⟨#[]⟩], .int .i64 0]) (by simp [results, Try.results87, go_sem, d0, d1, d2]) rfl (decTB_none hd.out (.inr (by omega)) ⟨rfl, ((hbw.setCell (p := ⟨w.heap.size, 0, none⟩) (Nat.le_refl _) _).setCell (p := ⟨w.heap.size, 1, none⟩) (Nat.le_refl _) _).setCell (p := ⟨w.heap.size, 2, none⟩) (Nat.le_refl _) _⟩)
    · have hn : decT (s.data.toList.drop k) = none := by
        have hln : (s.data.toList.drop k).length ≤ 1 := by simp; omega
        match hx : s.data.toList.drop k, hln with
        | [], _ => rfl
        | [_], _ => rfl
        | _ :: _ :: _, h => simp at h
      have Hn := Lib.hid hn
      clear hn
      go_wp2_with fail
      refine bodyPost_ret (v := .tuple #[.agg #[.int .i64 0, .int .i64 0, .string ⟨#[]⟩], .int .i64 0]) (by simp [results, Try.results87, go_sem, d0, d1, d2]) rfl (decTB_none hd.out (.inl Hn.out) ⟨rfl, ((hbw.setCell (p := ⟨w.heap.size, 0, none⟩) (Nat.le_refl _) _).setCell (p := ⟨w.heap.size, 1, none⟩) (Nat.le_refl _) _).setCell (p := ⟨w.heap.size, 2, none⟩) (Nat.le_refl _) _⟩)
end Go.Proofs.Ytdckpjkbchibjaa
