/- Same of the reference, scans and awake of the laws. -/
import Derived.Test.YtninmolgkkhikaaDoorLh
namespace Go.Proofs.YtninmolgkkhikaaDoor
open Go.RowKit Go.Proofs.EB Go.Proofs.TX
set_option maxHeartbeats 2000000
attribute [local go_sem] World.cell?_alloc_some

/-- Two tokens, equal but for their positions. -/
def eqT (a b : Tok) : Prop := a.k = b.k ∧ a.s = b.s ∧ a.n = b.n
theorem tsame_any (ao bo : Option Addr) (ca cb : Nat) (a b : List Tok) (pos : Bool) (w : World) (ha : a.length ≤ maxLen) (hl : a.length = b.length) (heq : ∀ i (h1 : i < a.length) (h2 : i < b.length), eqT a[i] b[i] ∧ (pos = true → a[i].p = b[i].p)) (hra : ToksAt w w.heap.size ao a) (hrb : ToksAt w w.heap.size bo b) :
    Calls Tryd.prog 30 #[.slice ao a.length ca, .slice bo b.length cb, .bool pos] w fun e w' => e = .returned (.bool true) ∧ Below w.heap.size w w' := by
  unfold maxLen at ha
  have h2 : ((a.length : Int) != (b.length : Int)) = false := by simp [hl]
  have Hl := Lib.hid hl
  have Heq := Lib.hid heq
  clear hl heq
  go_enter Tryd.func30, Tryd.ntmps30
  go_wp2_with fail
  go_loopw [7] (fun i wr => ∃ k : Nat, k ≤ a.length ∧ i = .int .i64 k ∧ Below w.heap.size w wr) (fun i _ => a.length - (intOf i).toNat)
  case atStart => exact ⟨0, Nat.zero_le _, rfl, Below.refl _ _⟩
  case round =>
    obtain ⟨i, hi, rfl, hbl⟩ := hrel
    by_cases hlt : i < a.length
    · have hlt2 : i < b.length := by have := Hl.out; omega
      have he := Heq.out i hlt hlt2
      obtain ⟨b1, o1, k1, s1, n1, p1, rfl, hB1, hv1, c1, c2, c3, c4⟩ := (hra.below hbl).at hlt
      obtain ⟨b2, o2, k2, s2, n2, p2, rfl, hB2, hv2, d1, d2, d3, d4⟩ := (hrb.below hbl).at hlt2
      rw [hv1, hv2] at he
      obtain ⟨⟨e1, e2, e3⟩, hp⟩ := he
      simp only at e1 e2 e3 hp
      subst e1 e2 e3
      have q1 : (i : Int) < (a.length : Int) := by omega
      have q2 : (i : Int) < (b.length : Int) := by omega
      have q3 : (0 : Int) ≤ (i : Int) := by omega
      clear hv1 hv2
      cases pos
      · clear hp
        go_wp2_with fail
        go_quiet (fail)
        go_wp2_with fail
        go_roundw
        case rel => exact ⟨i + 1, by omega, by go_num, hbl.trans ⟨rfl, rfl, rfl, Nat.le_refl _, fun _ _ => rfl⟩⟩
        case measure => simp [intOf]; omega
      · obtain rfl := hp rfl
        clear hp
        go_wp2_with fail
        go_quiet (fail)
        go_wp2_with fail
        go_roundw
        case rel => exact ⟨i + 1, by omega, by go_num, hbl.trans ⟨rfl, rfl, rfl, Nat.le_refl _, fun _ _ => rfl⟩⟩
        case measure => simp [intOf]; omega
    · go_wp2_with fail
      go_ret
      exact ⟨rfl, hbl⟩
theorem tsame_self (ao bo : Option Addr) (ca cb : Nat) (a : List Tok) (w : World) (ha : a.length ≤ maxLen) (hra : ToksAt w w.heap.size ao a) (hrb : ToksAt w w.heap.size bo a) :
    Calls Tryd.prog 30 #[.slice ao a.length ca, .slice bo a.length cb, .bool true] w fun e w' => e = .returned (.bool true) ∧ Below w.heap.size w w' :=
  tsame_any ao bo ca cb a a true w ha rfl (fun _ _ _ => ⟨⟨rfl, rfl, rfl⟩, fun _ => rfl⟩) hra hrb
theorem scanF_len : ∀ (f : Nat) (l : List UInt8) (a : Nat) (acc : List Tok), acc.length ≤ 4096 → (scanF f l a acc).1.length ≤ 4096 := by
  intro f
  induction f with
  | zero => intro l a acc h; exact h
  | succ f ih =>
    intro l a acc h
    rcases l with _ | ⟨b, r⟩
    · exact h
    · rw [scanF]
      split
      · exact ih _ _ _ h
      · split
        · exact ih _ _ _ h
        · split
          · simp
          · split
            · simp
            · rename_i h1
              exact ih _ _ _ (by simp; omega)
theorem scanL_len (l : List UInt8) : (scanL l).1.length ≤ 4096 := by
  unfold scanL
  split
  · simp
  · exact scanF_len _ _ _ _ (by simp)
theorem scans_any (s : ByteArray) (w : World) (hs : s.size ≤ 1000000) (hE : ErrV w) :
    Calls Tryd.prog 26 #[.string s] w fun e w' => e = .returned (.bool true) ∧ Below w.heap.size w w' := by
  have hP := fun w hE => scan_any s w hs hE
  have hQ := fun w => rscan_any s w hs
  have hlen := scanL_len s.data.toList
  rcases hR : scanL s.data.toList with ⟨l, n, c⟩
  rw [hR] at hP hQ hlen
  have HP := Lib.hid hP
  have HQ := Lib.hid hQ
  have HE := Lib.hid hE
  simp only at hlen
  clear hP hQ hR hE
  go_enter Tryd.func26, Tryd.ntmps26
  go_wp2_with fail
  refine (HP.out _ HE.out).mono ?_
  rintro e w1 ⟨hb1, ao, ca, l1, n1, c1, hr1, rfl, hra, _, _⟩
  simp only [Prod.mk.injEq] at hr1
  obtain ⟨rfl, rfl, rfl⟩ := hr1
  go_wp2_with fail
  refine (HQ.out _).mono ?_
  rintro e w2 ⟨hb2, bo, cb, l2, n2, c2, hr2, rfl, hrb, _, _⟩
  simp only [Prod.mk.injEq] at hr2
  obtain ⟨rfl, rfl, rfl⟩ := hr2
  have hra2 := (hra.below hb2).mono hb2.size
  have hb12 := hb1.trans (hb2.mono hb1.size)
  clear hra hb1 hb2
  go_wp2_with fail
  refine (tsame_self ao bo ca cb l w2 (by unfold maxLen; omega) hra2 hrb).mono ?_
  rintro e w3 ⟨rfl, hb3⟩
  go_wp2_with fail
  go_ret
  exact ⟨rfl, hb12.trans (hb3.mono hb12.size)⟩
def awakeToks : List Tok := [⟨1, ⟨#[97]⟩, 0, 0⟩, ⟨4, ⟨#[60, 61]⟩, 0, 1⟩, ⟨2, ⟨#[]⟩, 1, 3⟩]
theorem scan_awake : scanL (⟨#[97, 60, 61, 49]⟩ : ByteArray).data.toList = (awakeToks, 0, 0) := by rfl
theorem toks_of_block {w : World} {g : Nat} {C : Array Value} {l : List Tok} (h : w.heap[g]? = some (.cells C 50 (0, 0))) (hC : C.toList = tokCells l) : ToksAt w w.heap.size (some ⟨g, 0, none⟩) l := by
  refine .inr ⟨g, 0, rfl, (Array.getElem?_eq_some_iff.1 h).1, fun i hi => ?_⟩
  obtain ⟨e0, e1, e2, e3⟩ := tokCells_at l i hi
  rw [← hC] at e0 e1 e2 e3
  have key : ∀ j (v : Value), C.toList[j]? = some v → w.cell? ⟨g, j, none⟩ = some v := fun j v hj => (cell_of_row w g j _ _ _ h).trans (by simpa using hj)
  rw [Nat.zero_add]
  exact ⟨key _ _ e0, key _ _ e1, key _ _ e2, key _ _ e3⟩
theorem lawake_any (w : World) (hE : ErrV w) : Calls Tryd.prog 25 #[] w fun e w' => e = .returned (.bool true) ∧ Below w.heap.size w w' := by
  have hP := fun w hE => scan_any ⟨#[97, 60, 61, 49]⟩ w (by decide) hE
  rw [scan_awake] at hP
  have HP := Lib.hid hP
  have HE := Lib.hid hE
  clear hP hE
  go_enter Tryd.func25, Tryd.ntmps25
  go_wp2_with fail
  refine (HP.out _ HE.out).mono ?_
  rintro e w1 ⟨hb1, ao, ca, l1, n1, c1, hr1, rfl, hra, _, _⟩
  simp only [Prod.mk.injEq] at hr1
  obtain ⟨rfl, rfl, rfl⟩ := hr1
  have hs1 := hb1.size
  have hn2 : (w1.alloc (.cells #[.int .i64 1, .string ⟨#[97]⟩, .int .i64 0, .int .i64 0, .int .i64 4, .string ⟨#[60, 61]⟩, .int .i64 0, .int .i64 1, .int .i64 2, .string ⟨#[]⟩, .int .i64 1, .int .i64 3] 50)).heap[w1.heap.size]? = some (.cells #[.int .i64 1, .string ⟨#[97]⟩, .int .i64 0, .int .i64 0, .int .i64 4, .string ⟨#[60, 61]⟩, .int .i64 0, .int .i64 1, .int .i64 2, .string ⟨#[]⟩, .int .i64 1, .int .i64 3] 50 (0, 0)) := heap_alloc_new _ _
  have hrb := toks_of_block (l := awakeToks) hn2 rfl
  have hra2 : ToksAt (w1.alloc (.cells #[.int .i64 1, .string ⟨#[97]⟩, .int .i64 0, .int .i64 0, .int .i64 4, .string ⟨#[60, 61]⟩, .int .i64 0, .int .i64 1, .int .i64 2, .string ⟨#[]⟩, .int .i64 1, .int .i64 3] 50)) (w1.alloc (.cells #[.int .i64 1, .string ⟨#[97]⟩, .int .i64 0, .int .i64 0, .int .i64 4, .string ⟨#[60, 61]⟩, .int .i64 0, .int .i64 1, .int .i64 2, .string ⟨#[]⟩, .int .i64 1, .int .i64 3] 50)).heap.size ao awakeToks := (hra.below ((Below.refl _ _).alloc (Nat.le_refl _) _)).mono (by simp)
  have hb2 : Below w.heap.size w (w1.alloc (.cells #[.int .i64 1, .string ⟨#[97]⟩, .int .i64 0, .int .i64 0, .int .i64 4, .string ⟨#[60, 61]⟩, .int .i64 0, .int .i64 1, .int .i64 2, .string ⟨#[]⟩, .int .i64 1, .int .i64 3] 50)) := hb1.alloc hs1 _
  clear hn2 hra
  go_wp2_with fail
  refine (tsame_self ao (some ⟨w1.heap.size, 0, none⟩) ca 3 awakeToks _ (by decide) hra2 hrb).mono ?_
  rintro e w3 ⟨rfl, hb3⟩
  go_wp2_with fail
  go_ret
  exact ⟨rfl, hb2.trans (hb3.mono hb2.size)⟩
end Go.Proofs.YtninmolgkkhikaaDoor
