/- Contract of the reference's decode. -/
import Derived.Test.YtkdjbgjcccnijaaDoorVl
namespace Go.Proofs.YtkdjbgjcccnijaaDoor
open Go.RowKit Go.Proofs.EB
open Go.Lib (byteCells)
set_option maxHeartbeats 1000000
attribute [local go_sem] World.cell?_alloc_some

/-- What the reference's decode returns for the bytes s: a value, valid or not. -/
def decVC (s : ByteArray) (w : World) (e : Ending) (w' : World) : Prop :=
  match decV s.data.toList with
  | some (v, r) => Pair w v (s.size - r.length) e w'
  | none => Pair w V.zero 0 e w'
theorem decVC_1 {s : ByteArray} {w w' : World} {e : Ending} (h : 0 < s.size) (h1 : s[0].toNat = 1) (hp : Pair w V.zero 1 e w') : decVC s w e w' := by
  unfold decVC
  rw [head_eq h]
  simp only [decV, h1, if_true]
  have e1 : s.size - (s.data.toList.drop 1).length = 1 := by simp; omega
  rw [e1]
  exact hp
theorem decVC_2a {s : ByteArray} {w w' : World} {e : Ending} (h : 0 < s.size) (h1 : s[0].toNat = 2) (h6 : s.size < 6) (hp : Pair w V.zero 0 e w') : decVC s w e w' := by
  unfold decVC
  rw [head_eq h]
  have n1 : ¬ (2 : Nat) = 1 := by decide
  simp only [decV, h1, n1, if_true, if_false]
  rw [if_pos (by simp; omega)]
  exact hp
theorem decVC_2b {s : ByteArray} {w w' : World} {e : Ending} (h : 0 < s.size) (h1 : s[0].toNat = 2) (h6 : 6 ≤ s.size) (hp : Pair w ⟨1, be5 ((s.data.toList.drop 1).take 5) - 4294967296, ⟨#[]⟩⟩ 6 e w') : decVC s w e w' := by
  unfold decVC
  rw [head_eq h]
  have n1 : ¬ (2 : Nat) = 1 := by decide
  simp only [decV, h1, n1, if_true, if_false]
  rw [if_neg (by simp; omega)]
  simp only
  have e1 : s.size - ((s.data.toList.drop 1).drop 5).length = 6 := by simp; omega
  rw [e1]
  exact hp
theorem decVC_3n {s : ByteArray} {w w' : World} {e : Ending} (h : 0 < s.size) (h1 : s[0].toNat = 3) (hd : decT (s.data.toList.drop 1) = none) (hp : Pair w V.zero 0 e w') : decVC s w e w' := by
  unfold decVC
  rw [head_eq h]
  have n1 : ¬ (3 : Nat) = 1 := by decide
  have n2 : ¬ (3 : Nat) = 2 := by decide
  simp only [decV, h1, n1, n2, if_true, if_false, hd]
  exact hp
theorem decVC_3s {s : ByteArray} {w w' : World} {e : Ending} {t r : List UInt8} (h : 0 < s.size) (h1 : s[0].toNat = 3) (hd : decT (s.data.toList.drop 1) = some (t, r)) (hp : Pair w ⟨2, 0, ⟨t.toArray⟩⟩ (s.size - r.length) e w') : decVC s w e w' := by
  unfold decVC
  rw [head_eq h]
  have n1 : ¬ (3 : Nat) = 1 := by decide
  have n2 : ¬ (3 : Nat) = 2 := by decide
  simp only [decV, h1, n1, n2, if_true, if_false, hd]
  exact hp
theorem decVC_x {s : ByteArray} {w w' : World} {e : Ending} (h : 0 < s.size) (h1 : s[0].toNat ≠ 1) (h2 : s[0].toNat ≠ 2) (h3 : s[0].toNat ≠ 3) (hp : Pair w V.zero 0 e w') : decVC s w e w' := by
  unfold decVC
  rw [head_eq h]
  simp only [decV, h1, h2, h3, if_false]
  exact hp
theorem decT_char {s : ByteArray} {k : Nat} (h : k < s.size) (hz : s[k].toNat ≠ 0) : decT (s.data.toList.drop k) = (decT (s.data.toList.drop (k + 1))).map fun x => (s[k] :: x.1, x.2) := by
  have h0 : k < s.data.toList.length := by simpa using h
  by_cases h2 : k + 1 < s.size
  · have e1 : s.data.toList.drop (k + 1) = s[k + 1] :: s.data.toList.drop (k + 2) := by
      rw [List.drop_eq_getElem_cons (show k + 1 < s.data.toList.length by simpa using h2)]
      rfl
    rw [decT_step h2, e1]; simp [decT, hz]
  · have e1 : s.data.toList.drop (k + 1) = [] := List.drop_eq_nil_of_le (by simp; omega)
    rw [List.drop_eq_getElem_cons h0, e1]
    rfl
theorem decT_end {s : ByteArray} {k : Nat} (h : s.size ≤ k + 1) : decT (s.data.toList.drop k) = none := by
  have hln : (s.data.toList.drop k).length ≤ 1 := by simp; omega
  match hx : s.data.toList.drop k, hln with
  | [], _ => rfl
  | [_], _ => rfl
  | _ :: _ :: _, h => simp at h
theorem decT_map_none {s : ByteArray} {k : Nat} {l : List UInt8} (hd : decT (s.data.toList.drop 1) = (decT (s.data.toList.drop k)).map fun x => (l ++ x.1, x.2)) (h : decT (s.data.toList.drop k) = none) : decT (s.data.toList.drop 1) = none := by rw [hd, h]; rfl
theorem decT_map_some {s : ByteArray} {k : Nat} {l : List UInt8} (hd : decT (s.data.toList.drop 1) = (decT (s.data.toList.drop k)).map fun x => (l ++ x.1, x.2)) (h : decT (s.data.toList.drop k) = some ([], s.data.toList.drop (k + 2))) : decT (s.data.toList.drop 1) = some (l, s.data.toList.drop (k + 2)) := by rw [hd, h]; simp

theorem decode_any (s : ByteArray) (w : World) (hs : s.size ≤ 1000000) (hs0 : 0 < s.size) :
    Calls Tryd.prog 60 #[.string s] w (decVC s w) := by
  have hz0 : Below w.heap.size w (w.alloc (.cells #[.int .i64 0, .int .i64 0, .string ⟨#[]⟩] 27)) := (Below.refl _ _).alloc (Nat.le_refl _) _
  have hn0 : (w.alloc (.cells #[.int .i64 0, .int .i64 0, .string ⟨#[]⟩] 27)).heap[w.heap.size]? = some (.cells #[.int .i64 0, .int .i64 0, .string ⟨#[]⟩] 27) := heap_alloc_new _ _
  have Hz := Lib.hid hz0
  have Hn := Lib.hid hn0
  obtain ⟨d0, d1, d2, f0, f1, f2⟩ := box3 hn0
  have hin : (0 : Int) < (s.size : Int) := by omega
  clear hz0 hn0
  by_cases h1 : s[0].toNat = 1
  · have z1 : (((s[0]).toNat : Int) == 1) = true := by simp [h1]
    have h1' := Lib.hid h1
    clear h1
    go_enter Tryd.func60, Tryd.ntmps60
    go_wp2_with fail
    exact bodyPost_ret (v := .tuple #[.agg #[.int .i64 0, .int .i64 0, .string ⟨#[]⟩], .int .i64 1]) (by simp [results, Tryd.results60, go_sem, d0, d1, d2]) rfl (decVC_1 hs0 h1'.out ⟨rfl, Hz.out⟩)
  · have z1 : (((s[0]).toNat : Int) == 1) = false := by simp; omega
    by_cases h2 : s[0].toNat = 2
    · have z2 : (((s[0]).toNat : Int) == 2) = true := by simp [h2]
      have h2' := Lib.hid h2
      by_cases h6 : s.size < 6
      · have z6 : decide ((6 : Int) ≤ (s.size : Int)) = false := by simp; omega
        have z3 : (((s[0]).toNat : Int) == 3) = false := by simp; omega
        have h6' := Lib.hid h6
        clear h1 h2 h6
        go_enter Tryd.func60, Tryd.ntmps60
        go_wp2_with fail
        exact bodyPost_ret (v := .tuple #[.agg #[.int .i64 0, .int .i64 0, .string ⟨#[]⟩], .int .i64 0]) (by simp [results, Tryd.results60, go_sem, d0, d1, d2]) rfl (decVC_2a hs0 h2'.out h6'.out ⟨rfl, Hz.out⟩)
      · have z6 : decide ((6 : Int) ≤ (s.size : Int)) = true := by simp; omega
        have hsz6 : 6 ≤ s.size := by omega
        obtain ⟨t, ht⟩ : ∃ t, t = s.data.toList.drop 1 := ⟨_, rfl⟩
        have hstep : ∀ k (h : k + 1 < s.size), be5 (t.take (k + 1)) = be5 (t.take k) * 256 + s[k + 1].toNat := by
          intro k h
          have hk : k < t.length := by rw [ht]; simp; omega
          have e1 : t[k] = s[k + 1] := by
            subst ht
            rw [List.getElem_drop]
            simp [Nat.add_comm]
            rfl
          rw [List.take_succ_eq_append_getElem hk, be5_snoc, e1]
        have htl : ∀ k, k ≤ 5 → (t.take k).length = k := by intro k hk; rw [ht]; simp; omega
        have Hstep := Lib.hid hstep
        have Htl := Lib.hid htl
        have Ht := Lib.hid ht
        clear h1 h2 h6 hstep htl ht
        go_enter Tryd.func60, Tryd.ntmps60
        go_wp2_with fail
        go_loop [4, 5] (fun n i => ∃ k : Nat, k ≤ 5 ∧ i = .int .i64 (k + 1 : Nat) ∧ n = .int .i64 (be5 (t.take k))) (fun _ i => 6 - (intOf i).toNat)
        case atStart => exact ⟨0, by omega, rfl, rfl⟩
        case round =>
          obtain ⟨k, hk, rfl, rfl⟩ := hrel
          have hbd := be5_bound (t.take k)
          rw [Htl.out k hk] at hbd
          by_cases hlt : k < 5
          · have hk1 : k + 1 < s.size := by omega
            have hbd2 : be5 (t.take k) < 4294967296 := by
              have h1 : (256 : Int) ^ k ≤ 4294967296 := by
                rcases (show k = 0 ∨ k = 1 ∨ k = 2 ∨ k = 3 ∨ k = 4 by omega) with rfl | rfl | rfl | rfl | rfl <;> decide
              omega
            have h00 := hbd.1
            have hb256 : (s[k + 1]).toNat < 256 := (s[k + 1]).toNat_lt
            have hst := Lib.hid (Hstep.out k hk1)
            clear hbd
            go_wp2_with fail
            refine ⟨⟨k + 1, by omega, by go_num, ?_⟩, by simp [intOf]; omega⟩
            rw [hst.out]
          · have hk5 : k = 5 := by omega
            subst hk5
            have h00 := hbd.1
            have hbd2 : be5 (t.take 5) < 1099511627776 := by have := hbd.2; omega
            obtain ⟨m, hm⟩ : ∃ m, m = be5 (t.take 5) := ⟨_, rfl⟩
            rw [← hm] at h00 hbd2 ⊢
            have Hm := Lib.hid hm
            clear hbd hm
            go_wp2_with fail
            exact bodyPost_ret (v := .tuple #[.agg #[.int .i64 1, .int .i64 (m - 4294967296), .string ⟨#[]⟩], .int .i64 6]) (by simp [results, Tryd.results60, go_sem]) rfl (decVC_2b hs0 h2'.out hsz6 ⟨by rw [← Ht.out, ← Hm.out] <;> rfl, (Below.refl _ _).alloc (Nat.le_refl _) _⟩)
    · have z2 : (((s[0]).toNat : Int) == 2) = false := by simp; omega
      by_cases h3 : s[0].toNat = 3
      · have z3 : (((s[0]).toNat : Int) == 3) = true := by simp [h3]
        have h3' := Lib.hid h3
        clear h1 h2 h3
        go_enter Tryd.func60, Tryd.ntmps60
        go_wp2_with fail
        go_loopw [6, 7] (fun v i wr => ∃ (k : Nat) (l : List UInt8) (vr : Value), 1 ≤ k ∧ k ≤ s.size ∧ i = .int .i64 k ∧ vr = v ∧ l.length + 1 ≤ k ∧ Hid (decT (s.data.toList.drop 1) = (decT (s.data.toList.drop k)).map fun x => (l ++ x.1, x.2)) ∧ OwnsB wr (w.heap.size + 1) 5 vr l ∧ Hid (Below (w.heap.size + 1) (w.alloc (.cells #[.int .i64 0, .int .i64 0, .string ⟨#[]⟩] 27)) wr) ∧ w.heap.size + 1 ≤ wr.heap.size ∧ (∃ c a, vr = .slice a l.length c)) (fun _ i _ => s.size - (intOf i).toNat)
        case atStart => exact ⟨1, [], _, by omega, by omega, rfl, rfl, by simp, by simp [Hid], OwnsB.nil _ _, Below.refl _ _, by simp, ⟨0, none, rfl⟩⟩
        case round =>
          obtain ⟨k, l, vr, hk1, hk2, rfl, rfl, hkl, hd, hown, hb, hsz, cp, ad, rfl⟩ := hrel
          clear d0 d1 d2 f0 f1 f2
          obtain ⟨d0, d1, d2, f0, f1, f2⟩ := box3 (below_new hb.out)
          have hbw := below_old hb.out
          by_cases hlt : k < s.size
          · by_cases hz : s[k].toNat = 0
            · by_cases hk1 : k + 1 < s.size
              · by_cases hz2 : s[k + 1].toNat = 0
                · have hn : decT (s.data.toList.drop k) = some ([], s.data.toList.drop (k + 2)) := by rw [decT_step hk1]; simp [decT, hz, hz2]
                  have Hn2 := Lib.hid (decT_map_some hd.out hn)
                  have hln : Hid (s.size - (s.data.toList.drop (k + 2)).length = k + 2) := by unfold Hid; simp; omega
                  clear hn
                  go_wp2_with (refine wpList_b2s Tryd.underlying9 Tryd.underlying68 Tryd.underlying5 _ rfl (.tmp 81) rfl _ (.slice ad l.length cp) l rfl hown ?_)
                  exact bodyPost_ret (v := .tuple #[.agg #[.int .i64 2, .int .i64 0, .string ⟨l.toArray⟩], .int .i64 ((k : Int) + 2)]) (by simp [results, Tryd.results60, go_sem, d0, d1, d2]) rfl (decVC_3s hs0 h3'.out Hn2.out ⟨by rw [hln.out] <;> rfl, ((hbw.setCell (p := ⟨w.heap.size, 0, none⟩) (Nat.le_refl _) _).setCell (p := ⟨w.heap.size, 1, none⟩) (Nat.le_refl _) _).setCell (p := ⟨w.heap.size, 2, none⟩) (Nat.le_refl _) _⟩)
                · by_cases hz3 : s[k + 1].toNat = 255
                  · have hn : decT (s.data.toList.drop k) = (decT (s.data.toList.drop (k + 2))).map fun x => (0 :: x.1, x.2) := by rw [decT_step hk1]; simp [decT, hz, hz3]
                    have Hn2 := Lib.hid hn
                    clear hn hz2
                    go_wp2_with (at_builtin; refine wpList_app Tryd.underlying68 infoU8 _ wr rfl (.tmp 86) (.tmp 87) rfl (w.heap.size + 1) (.slice ad l.length cp) l rfl hown [0] 1 1 _ rfl rfl rfl rfl rfl rfl rfl (by decide) (by omega) hsz ?_; intro l2 g2 cap2 w2 hl2 hown2 haw2 hb2 hat2 hlt2)
                    refine ⟨⟨k + 2, l2, _, by omega, by omega, by go_num, rfl, by rw [hl2.out]; simp; omega, ?_, hown2, hb.out.trans hb2, by have := hb2.size; omega, ⟨cap2, _, rfl⟩⟩, by simp [intOf]; omega⟩
                    unfold Hid
                    rw [hd.out, Hn2.out, hl2.out]
                    simp [Function.comp_def]
                  · have hn : decT (s.data.toList.drop k) = none := by rw [decT_step hk1]; simp [decT, hz, hz2, hz3]
                    have Hn2 := Lib.hid (decT_map_none hd.out hn)
                    have z2 : (((s[k + 1]).toNat : Int) != 0) = true := by simpa using hz2
                    have z3 : (((s[k + 1]).toNat : Int) != 255) = true := by simp; omega
                    have z20 : (((s[k + 1]).toNat : Int) == 0) = false := by simpa using hz2
                    have z1 : (((s[k]).toNat : Int) != 0) = false := by simpa using hz
                    clear hn hz2 hz3 hz
                    go_wp2_with fail
                    exact bodyPost_ret (v := .tuple #[.agg #[.int .i64 0, .int .i64 0, .string ⟨#[]⟩], .int .i64 0]) (by simp [results, Tryd.results60, go_sem, d0, d1, d2]) rfl (decVC_3n hs0 h3'.out Hn2.out ⟨rfl, ((hbw.setCell (p := ⟨w.heap.size, 0, none⟩) (Nat.le_refl _) _).setCell (p := ⟨w.heap.size, 1, none⟩) (Nat.le_refl _) _).setCell (p := ⟨w.heap.size, 2, none⟩) (Nat.le_refl _) _⟩)
              · have Hn2 := Lib.hid (decT_map_none hd.out (decT_end (s := s) (k := k) (by omega)))
                go_wp2_with fail
                exact bodyPost_ret (v := .tuple #[.agg #[.int .i64 0, .int .i64 0, .string ⟨#[]⟩], .int .i64 0]) (by simp [results, Tryd.results60, go_sem, d0, d1, d2]) rfl (decVC_3n hs0 h3'.out Hn2.out ⟨rfl, ((hbw.setCell (p := ⟨w.heap.size, 0, none⟩) (Nat.le_refl _) _).setCell (p := ⟨w.heap.size, 1, none⟩) (Nat.le_refl _) _).setCell (p := ⟨w.heap.size, 2, none⟩) (Nat.le_refl _) _⟩)
            · have Hn2 := Lib.hid (decT_char hlt hz)
              have z1 : (((s[k]).toNat : Int) == 0) = false := by simpa using hz
              clear hz
              go_wp2_with (at_builtin; refine wpList_app Tryd.underlying68 infoU8 _ wr rfl (.tmp 50) (.tmp 54) rfl (w.heap.size + 1) (.slice ad l.length cp) l rfl hown [s[k]] 1 1 _ rfl rfl rfl rfl rfl rfl rfl (by decide) (by omega) hsz ?_; intro l2 g2 cap2 w2 hl2 hown2 haw2 hb2 hat2 hlt2)
              refine ⟨⟨k + 1, l2, _, by omega, by omega, by go_num, rfl, by rw [hl2.out]; simp; omega, ?_, hown2, hb.out.trans hb2, by have := hb2.size; omega, ⟨cap2, _, rfl⟩⟩, by simp [intOf]; omega⟩
              unfold Hid
              rw [hd.out, Hn2.out, hl2.out]
              simp [Function.comp_def]
          · have hn := decT_map_none hd.out (decT_end (s := s) (k := k) (by omega))
            have Hnn := Lib.hid hn
            clear hn
            go_wp2_with fail
            exact bodyPost_ret (v := .tuple #[.agg #[.int .i64 0, .int .i64 0, .string ⟨#[]⟩], .int .i64 0]) (by simp [results, Tryd.results60, go_sem, d0, d1, d2]) rfl (decVC_3n hs0 h3'.out Hnn.out ⟨rfl, ((hbw.setCell (p := ⟨w.heap.size, 0, none⟩) (Nat.le_refl _) _).setCell (p := ⟨w.heap.size, 1, none⟩) (Nat.le_refl _) _).setCell (p := ⟨w.heap.size, 2, none⟩) (Nat.le_refl _) _⟩)
      · have z3 : (((s[0]).toNat : Int) == 3) = false := by simp; omega
        have h1' := Lib.hid h1
        have h2' := Lib.hid h2
        have h3' := Lib.hid h3
        clear h1 h2 h3
        go_enter Tryd.func60, Tryd.ntmps60
        go_wp2_with fail
        exact bodyPost_ret (v := .tuple #[.agg #[.int .i64 0, .int .i64 0, .string ⟨#[]⟩], .int .i64 0]) (by simp [results, Tryd.results60, go_sem, d0, d1, d2]) rfl (decVC_x hs0 h1'.out h2'.out h3'.out ⟨rfl, Hz.out⟩)
end Go.Proofs.YtkdjbgjcccnijaaDoor
