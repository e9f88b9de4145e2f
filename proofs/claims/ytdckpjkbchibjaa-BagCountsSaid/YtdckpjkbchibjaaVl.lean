/- Contract of decodeValue of package value. -/
import Derived.Test.YtdckpjkbchibjaaVk
namespace Go.Proofs.Ytdckpjkbchibjaa
open Go.RowKit Go.Proofs.EB
open Go.Lib (byteCells)
set_option maxHeartbeats 1000000
attribute [local go_sem] World.cell?_alloc_some

/-- What decodeValue returns for the bytes s. -/
def decVB (s : ByteArray) (w : World) (e : Ending) (w' : World) : Prop :=
  match decV s.data.toList with
  | some (v, r) => if vB v = true then Pair w v (s.size - r.length) e w' else Pair w V.zero 0 e w'
  | none => Pair w V.zero 0 e w'
theorem Pair.start {w w1 w' : World} {v : V} {n : Nat} {e : Ending} (h : Pair w1 v n e w') (hb : Below w.heap.size w w1) : Pair w v n e w' := ⟨h.1, hb.trans (h.2.mono hb.size)⟩
theorem head_eq {s : ByteArray} (h : 0 < s.size) : s.data.toList = s[0] :: s.data.toList.drop 1 := by
  have h0 : 0 < s.data.toList.length := by simpa using h
  have := List.drop_eq_getElem_cons h0
  rw [List.drop_zero] at this
  rw [this]
  rfl
theorem decVB_1 {s : ByteArray} {w w' : World} {e : Ending} (h : 0 < s.size) (h1 : s[0].toNat = 1) (hp : Pair w V.zero 1 e w') : decVB s w e w' := by
  unfold decVB
  rw [head_eq h]
  simp only [decV, h1, if_true]
  rw [if_pos (by simp [vB, validB])]
  have e1 : s.size - (s.data.toList.drop 1).length = 1 := by simp; omega
  rw [e1]
  exact hp
theorem decVB_2 {s : ByteArray} {w w' : World} {e : Ending} (h : 0 < s.size) (h1 : s[0].toNat = 2) (hp : (if s.size < 6 then Pair w V.zero 0 else if validB 1 (be5 ((s.data.toList.drop 1).take 5) - 4294967296) ⟨#[]⟩ = true then Pair w ⟨1, be5 ((s.data.toList.drop 1).take 5) - 4294967296, ⟨#[]⟩⟩ 6 else Pair w V.zero 0) e w') : decVB s w e w' := by
  unfold decVB
  rw [head_eq h]
  have n1 : ¬ (2 : Nat) = 1 := by decide
  simp only [decV, h1, n1, if_true, if_false]
  have e0 : (s.data.toList.drop 1).length = s.size - 1 := by simp
  rw [e0]
  by_cases h6 : s.size < 6
  · rw [if_pos h6] at hp
    rw [if_pos (by omega)]
    exact hp
  · rw [if_neg h6] at hp
    rw [if_neg (by omega)]
    simp only
    have e1 : s.size - ((s.data.toList.drop 1).drop 5).length = 6 := by simp; omega
    rw [e1]
    by_cases hv : validB 1 (be5 ((s.data.toList.drop 1).take 5) - 4294967296) ⟨#[]⟩ = true
    · rw [if_pos hv] at hp
      rw [if_pos (show vB ⟨1, be5 ((s.data.toList.drop 1).take 5) - 4294967296, ⟨#[]⟩⟩ = true from hv)]
      exact hp
    · rw [if_neg hv] at hp
      rw [if_neg (show ¬ vB ⟨1, be5 ((s.data.toList.drop 1).take 5) - 4294967296, ⟨#[]⟩⟩ = true from hv)]
      exact hp
theorem decVB_3 {s : ByteArray} {w w' : World} {e : Ending} (h : 0 < s.size) (h1 : s[0].toNat = 3) (hp : decTB s w e w') : decVB s w e w' := by
  unfold decVB
  rw [head_eq h]
  have n1 : ¬ (3 : Nat) = 1 := by decide
  have n2 : ¬ (3 : Nat) = 2 := by decide
  simp only [decV, h1, n1, n2, if_true, if_false]
  unfold decTB at hp
  cases hx : decT (s.data.toList.drop 1) with
  | none => rw [hx] at hp; exact hp
  | some x =>
    obtain ⟨t, r⟩ := x
    rw [hx] at hp
    simp only [Option.map_some] at hp ⊢
    have hv : vB ⟨2, 0, ⟨t.toArray⟩⟩ = decide (t.length ≤ 32) := by simp [vB, validB, ByteArray.size]
    by_cases hl : t.length ≤ 32
    · rw [if_pos hl] at hp
      rw [if_pos (by rw [hv]; simpa using hl)]
      exact hp
    · rw [if_neg hl] at hp
      rw [if_neg (by rw [hv]; simpa using hl)]
      exact hp
theorem decVB_x {s : ByteArray} {w w' : World} {e : Ending} (h : 0 < s.size) (h1 : s[0].toNat ≠ 1) (h2 : s[0].toNat ≠ 2) (h3 : s[0].toNat ≠ 3) (hp : Pair w V.zero 0 e w') : decVB s w e w' := by
  unfold decVB
  rw [head_eq h]
  simp only [decV, h1, h2, h3, if_false]
  exact hp

theorem pair_if {c1 c2 : Prop} [Decidable c1] [Decidable c2] {w1 w' : World} {a b : V} {n m : Nat} {e : Ending} (h : (if c1 then Pair w1 a n else if c2 then Pair w1 b m else Pair w1 a n) e w') : ∃ v k, Pair w1 v k e w' ∧ Hid (∀ (w0 : World) (e' : Ending) (w'' : World), Pair w0 v k e' w'' → (if c1 then Pair w0 a n else if c2 then Pair w0 b m else Pair w0 a n) e' w'') := by
  by_cases h1 : c1
  · rw [if_pos h1] at h; exact ⟨a, n, h, fun w0 e' w'' hp => by rw [if_pos h1]; exact hp⟩
  · by_cases h2 : c2
    · rw [if_neg h1, if_pos h2] at h; exact ⟨b, m, h, fun w0 e' w'' hp => by rw [if_neg h1, if_pos h2]; exact hp⟩
    · rw [if_neg h1, if_neg h2] at h; exact ⟨a, n, h, fun w0 e' w'' hp => by rw [if_neg h1, if_neg h2]; exact hp⟩
theorem pair_decT {s : ByteArray} {w1 w' : World} {e : Ending} (h : decTB s w1 e w') : ∃ v k, Pair w1 v k e w' ∧ Hid (∀ (w0 : World) (e' : Ending) (w'' : World), Pair w0 v k e' w'' → decTB s w0 e' w'') := by
  unfold decTB at h ⊢
  cases hx : decT (s.data.toList.drop 1) with
  | none => rw [hx] at h; exact ⟨_, _, h, fun w0 e' w'' hp => hp⟩
  | some x =>
    obtain ⟨t, r⟩ := x
    rw [hx] at h
    simp only at h ⊢
    by_cases hl : t.length ≤ 32
    · rw [if_pos hl] at h; exact ⟨_, _, h, fun w0 e' w'' hp => by rw [if_pos hl]; exact hp⟩
    · rw [if_neg hl] at h; exact ⟨_, _, h, fun w0 e' w'' hp => by rw [if_neg hl]; exact hp⟩

theorem decodeValue_any (s : ByteArray) (w : World) (hs : s.size ≤ 1000000) (hs0 : 0 < s.size) :
    Calls Try.prog 78 #[.string s] w (decVB s w) := by
  have hz0 : Below w.heap.size w (w.alloc (.cells #[.int .i64 0, .int .i64 0, .string ⟨#[]⟩] 42)) := (Below.refl _ _).alloc (Nat.le_refl _) _
  have hn0 : (w.alloc (.cells #[.int .i64 0, .int .i64 0, .string ⟨#[]⟩] 42)).heap[w.heap.size]? = some (.cells #[.int .i64 0, .int .i64 0, .string ⟨#[]⟩] 42) := heap_alloc_new _ _
  have Hz := Lib.hid hz0
  have Hn := Lib.hid hn0
  obtain ⟨d0, d1, d2, f0, f1, f2⟩ := box3 hn0
  have hin : (0 : Int) < (s.size : Int) := by omega
  clear hz0 hn0
  have hs0' : 1 ≤ s.size := hs0
  by_cases h1 : s[0].toNat = 1
  · have z1 : (((s[0]).toNat : Int) == 1) = true := by simp [h1]
    have h1' := Lib.hid h1
    clear h1
    go_enter Try.func78, Try.ntmps78
    go_wp2_with fail
    exact bodyPost_ret (v := .tuple #[.agg #[.int .i64 0, .int .i64 0, .string ⟨#[]⟩], .int .i64 1]) (by simp [results, Try.results78, go_sem, d0, d1, d2]) rfl (decVB_1 hs0 h1'.out ⟨rfl, Hz.out⟩)
  · have z1 : (((s[0]).toNat : Int) == 1) = false := by simp; omega
    by_cases h2 : s[0].toNat = 2
    · have z2 : (((s[0]).toNat : Int) == 2) = true := by simp [h2]
      have h2' := Lib.hid h2
      clear h1 h2
      go_enter Try.func78, Try.ntmps78
      go_wp2_with fail
      refine (decodeInt_any s _ hs hs0').mono ?_
      intro e w2 hp
      obtain ⟨v, k, ⟨rfl, hb2⟩, hk⟩ := pair_if hp
      clear hp
      have hfin := Hz.out.trans (hb2.mono (by simp))
      obtain ⟨c0, c1, c2, g0, g1, g2⟩ := box3 ((hb2.block w.heap.size (by simp)).trans Hn.out)
      clear d0 d1 d2 f0 f1 f2
      go_wp2_with fail
      exact bodyPost_ret (v := .tuple #[.agg #[.int .i64 v.k, .int .i64 v.n, .string v.s], .int .i64 k]) (by simp [results, Try.results78, go_sem, c0, c1, c2]) rfl (decVB_2 hs0 h2'.out (hk.out _ _ _ ⟨rfl, ((hfin.setCell (p := ⟨w.heap.size, 0, none⟩) (Nat.le_refl _) _).setCell (p := ⟨w.heap.size, 1, none⟩) (Nat.le_refl _) _).setCell (p := ⟨w.heap.size, 2, none⟩) (Nat.le_refl _) _⟩))
    · have z2 : (((s[0]).toNat : Int) == 2) = false := by simp; omega
      by_cases h3 : s[0].toNat = 3
      · have z3 : (((s[0]).toNat : Int) == 3) = true := by simp [h3]
        have h3' := Lib.hid h3
        clear h1 h2 h3
        go_enter Try.func78, Try.ntmps78
        go_wp2_with fail
        refine (decodeText_any s _ hs).mono ?_
        intro e w2 hp
        obtain ⟨v, k, ⟨rfl, hb2⟩, hk⟩ := pair_decT hp
        clear hp
        have hfin := Hz.out.trans (hb2.mono (by simp))
        obtain ⟨c0, c1, c2, g0, g1, g2⟩ := box3 ((hb2.block w.heap.size (by simp)).trans Hn.out)
        clear d0 d1 d2 f0 f1 f2
        go_wp2_with fail
        exact bodyPost_ret (v := .tuple #[.agg #[.int .i64 v.k, .int .i64 v.n, .string v.s], .int .i64 k]) (by simp [results, Try.results78, go_sem, c0, c1, c2]) rfl (decVB_3 hs0 h3'.out (hk.out _ _ _ ⟨rfl, ((hfin.setCell (p := ⟨w.heap.size, 0, none⟩) (Nat.le_refl _) _).setCell (p := ⟨w.heap.size, 1, none⟩) (Nat.le_refl _) _).setCell (p := ⟨w.heap.size, 2, none⟩) (Nat.le_refl _) _⟩))
      · have z3 : (((s[0]).toNat : Int) == 3) = false := by simp; omega
        have h1' := Lib.hid h1
        have h2' := Lib.hid h2
        have h3' := Lib.hid h3
        clear h1 h2 h3
        go_enter Try.func78, Try.ntmps78
        go_wp2_with fail
        exact bodyPost_ret (v := .tuple #[.agg #[.int .i64 0, .int .i64 0, .string ⟨#[]⟩], .int .i64 0]) (by simp [results, Try.results78, go_sem, d0, d1, d2]) rfl (decVB_x hs0 h1'.out h2'.out h3'.out ⟨rfl, Hz.out⟩)
end Go.Proofs.Ytdckpjkbchibjaa
