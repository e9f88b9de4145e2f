/- The reference's DecodeRow. -/
import Derived.Test.YtkdjbgjcccnijaaDoorVm
import Derived.Test.YtkdjbgjcccnijaaDoorVn
namespace Go.Proofs.YtkdjbgjcccnijaaDoor
open Go.RowKit Go.Proofs.EB
open Go.Lib (byteCells)
set_option maxHeartbeats 1000000
attribute [local go_sem] World.cell?_alloc_some

theorem decV_size {l : List UInt8} {v : V} {r : List UInt8} (h : decV l = some (v, r)) : v.s.size ≤ l.length := by
  match l, h with
  | [], h => simp [decV] at h
  | m :: l, h =>
    simp only [decV] at h
    split at h
    · simp at h; obtain ⟨rfl, rfl⟩ := h; simp [ByteArray.size]
    · split at h
      · split at h
        · simp at h
        · simp at h; obtain ⟨rfl, rfl⟩ := h; simp [ByteArray.size]
      · split at h
        · simp only [Option.map_eq_some_iff, Prod.mk.injEq] at h
          obtain ⟨⟨t', r'⟩, h1, rfl, rfl⟩ := h
          have := decT_app _ l (Nat.le_refl _) t' r' h1
          simp [ByteArray.size]; omega
        · simp at h
theorem decVC_cases {u : ByteArray} {w w' : World} {e : Ending} (h : decVC u w e w') : Below w.heap.size w w' ∧
    ((∃ v : V, e = .returned (.tuple #[.agg #[.int .i64 v.k, .int .i64 v.n, .string v.s], .int .i64 0]) ∧ Hid (∀ n acc, 0 < u.size → decR (n + 1) u.data.toList acc = none)) ∨
     (∃ (v : V) (k : Nat), e = .returned (.tuple #[.agg #[.int .i64 v.k, .int .i64 v.n, .string v.s], .int .i64 (k : Nat)]) ∧ 0 < k ∧ k ≤ u.size ∧ v.s.size ≤ u.size ∧ Hid (∀ n acc, 0 < u.size → decR (n + 1) u.data.toList acc = if vB v = true ∧ acc.length ≠ 16 then decR n (u.data.toList.drop k) (acc ++ [v]) else none))) := by
  unfold decVC at h
  have hd : ∀ n acc, 0 < u.size → decR (n + 1) u.data.toList acc = match decV u.data.toList with
      | some (v, r) => if vB v = true ∧ acc.length ≠ 16 then decR n r (acc ++ [v]) else none
      | none => none := by
    intro n acc hu
    rw [head_eq hu, decR]
    cases decV (u[0] :: u.data.toList.drop 1) <;> rfl
  cases hx : decV u.data.toList with
  | none =>
    rw [hx] at h
    refine ⟨h.2, .inl ⟨V.zero, h.1, fun n acc hu => ?_⟩⟩
    rw [hd n acc hu]
    first | rfl | (rw [hx])
  | some x =>
    obtain ⟨v, r⟩ := x
    rw [hx] at h
    simp only at h
    obtain ⟨k, hk0, hk, rfl⟩ := decV_suffix hx
    have hlen : u.data.toList.length = u.size := by simp
    have e1 : u.size - (u.data.toList.drop k).length = k := by rw [List.length_drop]; omega
    rw [e1] at h
    refine ⟨h.2, .inr ⟨v, k, h.1, hk0, by omega, ?_, fun n acc hu => ?_⟩⟩
    · have := decV_size hx; omega
    · rw [hd n acc hu, hx]
theorem refDecodeRow_any (s : ByteArray) (w : World) (hs : s.size ≤ 1000000) :
    Calls Tryd.prog 39 #[.string s] w (RowRes w (decR s.size s.data.toList [])) := by
  go_enter Tryd.func39, Tryd.ntmps39
  go_wp2_with fail
  go_loopw [4, 5] (fun v i wr => ∃ (n : Nat) (l : List V) (vr : Value) (k : Nat), i = .int .i64 k ∧ k ≤ s.size ∧ s.size - k ≤ n ∧ vr = v ∧ l.length ≤ 16 ∧ Hid (decR s.size s.data.toList [] = decR n (s.data.toList.drop k) l) ∧ Hid (∀ x ∈ l, vB x = true) ∧ OwnsV wr w.heap.size vr l ∧ Hid (Below w.heap.size w wr) ∧ (∃ c a, vr = .slice a l.length c)) (fun _ i _ => s.size - (intOf i).toNat)
  case atStart => exact ⟨s.size, [], _, 0, rfl, by omega, by omega, rfl, by simp, rfl, fun x hx => by simp at hx, OwnsV.nil _ _, Below.refl _ _, ⟨0, none, rfl⟩⟩
  case round =>
    obtain ⟨n, l, vr, k0, rfl, hk0, hun, rfl, hl16, hd, hall, hown, hb, cp, ad, rfl⟩ := hrel
    by_cases hu : k0 < s.size
    · obtain ⟨m, rfl⟩ : ∃ m, n = m + 1 := ⟨n - 1, by omega⟩
      have hu0 : 0 < (s.extract k0 s.size).size := by simp; omega
      have hum : (s.extract k0 s.size).size ≤ 1000000 := by simp; omega
      have hud : (s.extract k0 s.size).data.toList = s.data.toList.drop k0 := by
        simp only [ByteArray.data_extract, Array.toList_extract, List.extract_eq_take_drop]
        exact List.take_of_length_le (by simp)
      have husz : (s.extract k0 s.size).size = s.size - k0 := by simp
      go_wp2_with fail
      generalize s.extract k0 s.size = u at *
      refine (decode_any u _ hum hu0).mono ?_
      intro e w2 hp
      obtain ⟨hb2, hcase⟩ := decVC_cases hp
      clear hp
      have hs2 := hb2.size
      rcases hcase with ⟨v, rfl, hn⟩ | ⟨v, k, rfl, hk0', hku, hvs, hn⟩
      · have hfin := (hb.out.trans (hb2.mono hb.out.size)).alloc (by have := hb.out.size; omega) (.cells #[.int .i64 v.k, .int .i64 v.n, .string v.s] 27)
        go_wp2_with fail
        refine bodyPost_ret (v := .tuple #[.slice none 0 0, .int .i64 1]) (by simp [results, Tryd.results39, go_sem]) rfl ⟨hfin, ?_⟩
        rw [hd.out, ← hud, hn.out m l hu0]
      · have zk : (((k : Nat) : Int) == 0) = false := by simp; omega
        have hsm : v.s.size ≤ maxLen := by unfold maxLen; omega
        have Hud := Lib.hid hud
        have Husz := Lib.hid husz
        clear hud husz
        have hfin := (hb.out.trans (hb2.mono hb.out.size)).alloc (by have := hb.out.size; omega) (.cells #[.int .i64 v.k, .int .i64 v.n, .string v.s] 27)
        have haw : Away none wr (w2.alloc (.cells #[.int .i64 v.k, .int .i64 v.n, .string v.s] 27)) := away_of_below (hb2.alloc hs2 _)
        have hown2 := haw.owns hown (by cases (Value.slice ad l.length cp).ownBlock <;> simp)
        have hnb : (w2.alloc (.cells #[.int .i64 v.k, .int .i64 v.n, .string v.s] 27)).heap[w2.heap.size]? = some (.cells #[.int .i64 v.k, .int .i64 v.n, .string v.s] 27 (0, 0)) := heap_alloc_new _ _
        go_wp2_with fail
        refine (rvalid_b _ _ _ _ hsm).mono ?_
        rintro e w3 ⟨rfl, hb3⟩
        have hs3 := hb3.size
        have hs3' : w2.heap.size + 1 ≤ w3.heap.size := by simpa using hs3
        have hfin3 := hfin.trans (hb3.mono hfin.size)
        obtain ⟨c0, c1, c2, g0, g1, g2⟩ := box3 ((hb3.block w2.heap.size (by simp)).trans hnb)
        have haw3 : Away none (w2.alloc (.cells #[.int .i64 v.k, .int .i64 v.n, .string v.s] 27)) w3 := away_of_below hb3
        have hown3 := haw3.owns hown2 (by cases (Value.slice ad l.length cp).ownBlock <;> simp)
        clear hnb
        have hvv : validB v.k v.n v.s = vB v := rfl
        rw [hvv]
        cases hv : vB v
        · have Hv := Lib.hid hv
          clear hv hvv
          go_wp2_with fail
          refine bodyPost_ret (v := .tuple #[.slice none 0 0, .int .i64 1]) (by simp [results, Tryd.results39, go_sem]) rfl ⟨hfin3, ?_⟩
          rw [hd.out, ← Hud.out, hn.out m l hu0, Hv.out]
          simp
        · have Hv := Lib.hid hv
          clear hv hvv
          by_cases h16 : l.length = 16
          · have z16 : ((l.length : Int) == 16) = true := by simp; omega
            have H16 := Lib.hid h16
            clear h16
            go_wp2_with fail
            refine bodyPost_ret (v := .tuple #[.slice none 0 0, .int .i64 1]) (by simp [results, Tryd.results39, go_sem]) rfl ⟨hfin3, ?_⟩
            rw [hd.out, ← Hud.out, hn.out m l hu0, H16.out]
            simp
          · have z16 : ((l.length : Int) == 16) = false := by simp; omega
            have H16 := Lib.hid h16
            clear h16
            go_wp2_with (at_builtin; refine wpList_appV _ w3 rfl (.tmp 31) (.tmp 33) rfl w.heap.size (.slice ad l.length cp) l rfl hown3 v 1 (by simp [go_sem]) rfl rfl rfl rfl (by omega) (by have := hfin3.size; omega) ?_; intro l3 g3 cap3 w4 hl3 hown4 haw4 hb4 hat4 hlt4)
            have h4 : Below w.heap.size w w4 := hfin3.trans hb4
            refine ⟨⟨m, l3, _, k0 + k, by go_num, ?_, ?_, rfl, ?_, ?_, ?_, hown4, h4, ⟨cap3, _, rfl⟩⟩, ?_⟩
            · have := Husz.out; omega
            · have := Husz.out; omega
            · rw [hl3.out]; simp; have := H16.out; omega
            · unfold Hid; rw [hd.out, ← Hud.out, hn.out m l hu0, hl3.out, if_pos ⟨Hv.out, H16.out⟩, Hud.out, List.drop_drop]
            · intro x hx
              rw [hl3.out] at hx
              simp only [List.mem_append, List.mem_singleton] at hx
              rcases hx with hx | rfl
              · exact hall.out x hx
              · exact Hv.out
            · simp [intOf]; have := Husz.out; omega
    · have hk : k0 = s.size := by omega
      have hlast : s.data.toList.drop k0 = [] := List.drop_eq_nil_of_le (by simp; omega)
      have Hl := Lib.hid hlast
      have Hk := Lib.hid hk
      clear hlast hk
      obtain ⟨ao, cap, hsl, hrow, hlo, hnil⟩ := hown.rowAt fun x hx => vB_ok (hall.out x hx)
      obtain ⟨rfl, _, rfl⟩ : ad = ao ∧ True ∧ cp = cap := by simpa using hsl
      go_wp2_with fail
      refine bodyPost_ret (v := .tuple #[.slice ad l.length cp, .int .i64 0]) (by simp [results, Tryd.results39, go_sem]) rfl ⟨hb.out, ?_⟩
      rw [hd.out, Hl.out]
      have e0 : decR n [] l = some l := by cases n <;> rfl
      rw [e0]
      exact ⟨ad, cp, rfl, hl16, hall.out, hrow, hlo, hnil⟩
end Go.Proofs.YtkdjbgjcccnijaaDoor
