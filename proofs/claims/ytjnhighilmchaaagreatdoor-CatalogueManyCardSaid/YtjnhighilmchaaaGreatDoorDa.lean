/- The names of all declarations in the reference of layer 4. -/
import Derived.Test.YtjnhighilmchaaaGreatDoorMH
namespace Go.Proofs.YtjnhighilmchaaaGreatDoor
open Go.RowKit Go.Proofs.EB Go.Proofs.TX
set_option maxHeartbeats 4000000
set_option maxRecDepth 100000
attribute [local go_sem] World.cell?_alloc_some

/-- A list that a call has made. -/
def MadeP {α : Type} (enc : α → List Value) (m : Nat) (l : List α) (w : World) (e : Ending) (w' : World) : Prop := ∃ ao cap, e = .returned (.slice ao l.length cap) ∧ RAt enc m w' w'.heap.size ao l ∧ (ao = none → cap = 0) ∧ l.length ≤ cap ∧ cap ≤ maxLen ∧ Below w.heap.size w w' ∧ (∀ b o, ao = some ⟨b, o, none⟩ → w.heap.size ≤ b)
/-- The names so far. -/
def NmP (W1 : World) (B : Nat) (v : Value) (done : List ByteArray) (wr : World) : Prop := OwnsR encStr' 1 wr B 9 v done ∧ Below B W1 wr
theorem NmP.made {w W1 wr : World} {B : Nat} {v : Value} {l : List ByteArray} (h : NmP W1 B v l wr) (hb : Below w.heap.size w W1) (hB : w.heap.size ≤ B) : MadeP encStr' 1 l w (.returned v) wr := by
  obtain ⟨ao, cap, rfl, hr, hlo, hz, h1, h2⟩ := OwnsR.rAt encStr'_len h.1
  exact ⟨ao, cap, rfl, hr, hz, h1, h2, hb.trans (h.2.mono hB), fun b o e => Nat.le_trans hB (hlo b o e).1⟩
theorem take_app {α β : Type} (f : α → β) {l : List α} {k : Nat} (h : k < l.length) : (l.take (k + 1)).map f = (l.take k).map f ++ [f l[k]] := by
  rw [List.take_add_one, List.getElem?_eq_getElem h]; simp only [Option.toList_some, List.map_append, List.map_cons, List.map_nil]
theorem rnames_any (c : Cat) (hs : c.Sml) (w : World) (hcat : CatAt w w.heap.size c) : Calls Tryz.prog 58 #[c.val] w (MadeP encStr' 1 c.names w) := by
  have hb1 := al1 w (.cells #[.slice c.ts.ao c.ts.l.length c.ts.cap, .slice c.vs.ao c.vs.l.length c.vs.cap, .slice c.xs.ao c.xs.l.length c.xs.cap, .slice c.ks.ao c.ks.l.length c.ks.cap, .slice c.hs.ao c.hs.l.length c.hs.cap, .slice c.rs.ao c.rs.l.length c.rs.cap, .slice c.ms.ao c.ms.l.length c.ms.cap, .slice c.bs.ao c.bs.l.length c.bs.cap] 31)
  have hs1 := alloc_size w (.cells #[.slice c.ts.ao c.ts.l.length c.ts.cap, .slice c.vs.ao c.vs.l.length c.vs.cap, .slice c.xs.ao c.xs.l.length c.xs.cap, .slice c.ks.ao c.ks.l.length c.ks.cap, .slice c.hs.ao c.hs.l.length c.hs.cap, .slice c.rs.ao c.rs.l.length c.rs.cap, .slice c.ms.ao c.ms.l.length c.ms.cap, .slice c.bs.ao c.bs.l.length c.bs.cap] 31)
  have hbx := alloc_new w (.cells #[.slice c.ts.ao c.ts.l.length c.ts.cap, .slice c.vs.ao c.vs.l.length c.vs.cap, .slice c.xs.ao c.xs.l.length c.xs.cap, .slice c.ks.ao c.ks.l.length c.ks.cap, .slice c.hs.ao c.hs.l.length c.hs.cap, .slice c.rs.ao c.rs.l.length c.rs.cap, .slice c.ms.ao c.ms.l.length c.ms.cap, .slice c.bs.ao c.bs.l.length c.bs.cap] 31)
  have Hd := Lib.hid (fun (w' : World) (hb : Below (w.heap.size + 1) (w.alloc (.cells #[.slice c.ts.ao c.ts.l.length c.ts.cap, .slice c.vs.ao c.vs.l.length c.vs.cap, .slice c.xs.ao c.xs.l.length c.xs.cap, .slice c.ks.ao c.ks.l.length c.ks.cap, .slice c.hs.ao c.hs.l.length c.hs.cap, .slice c.rs.ao c.rs.l.length c.rs.cap, .slice c.ms.ao c.ms.l.length c.ms.cap, .slice c.bs.ao c.bs.l.length c.bs.cap] 31)) w') => boxC (c := c) ((hb.block _ (Nat.lt_succ_self _)).trans hbx))
  have Hcat := Lib.hid (hcat.below hb1 (Nat.le_succ _))
  have Hb1 := Lib.hid hb1
  have Hs1 := Lib.hid hs1
  have Hnm : Hid (c.names = c.ts.l.map (·.name) ++ c.vs.l.map (·.name) ++ c.xs.l.map (·.name) ++ c.ks.l.map (·.name) ++ c.hs.l.map (·.name) ++ c.rs.l.map (·.name) ++ c.ms.l.map (·.name) ++ c.bs.l.map (·.name)) := rfl
  have Hlts := Lib.hid hs.ts
  have Hlvs := Lib.hid hs.vs
  have Hlxs := Lib.hid hs.xs
  have Hlks := Lib.hid hs.ks
  have Hlhs := Lib.hid hs.hs
  have Hlrs := Lib.hid hs.rs
  have Hlms := Lib.hid hs.ms
  have Hlbs := Lib.hid hs.bs
  have Hst : Hid (NmP (w.alloc (.cells #[.slice c.ts.ao c.ts.l.length c.ts.cap, .slice c.vs.ao c.vs.l.length c.vs.cap, .slice c.xs.ao c.xs.l.length c.xs.cap, .slice c.ks.ao c.ks.l.length c.ks.cap, .slice c.hs.ao c.hs.l.length c.hs.cap, .slice c.rs.ao c.rs.l.length c.rs.cap, .slice c.ms.ao c.ms.l.length c.ms.cap, .slice c.bs.ao c.bs.l.length c.bs.cap] 31)) (w.heap.size + 1) (.slice none 0 0) [] (w.alloc (.cells #[.slice c.ts.ao c.ts.l.length c.ts.cap, .slice c.vs.ao c.vs.l.length c.vs.cap, .slice c.xs.ao c.xs.l.length c.xs.cap, .slice c.ks.ao c.ks.l.length c.ks.cap, .slice c.hs.ao c.hs.l.length c.hs.cap, .slice c.rs.ao c.rs.l.length c.rs.cap, .slice c.ms.ao c.ms.l.length c.ms.cap, .slice c.bs.ao c.bs.l.length c.bs.cap] 31))) := ⟨.nil, Below.refl _ _⟩
  clear hb1 hs1 hbx hs hcat
  unfold Cat.val at *
  go_enter Tryz.func58, Tryz.ntmps58
  go_wp2_with fail
  go_loopw [3, 4] (fun s i wr => ∃ (k : Nat) (dn : List ByteArray), k ≤ c.ts.l.length ∧ i = .int .i64 k ∧ Hid (dn = (c.ts.l.take k).map (·.name)) ∧ dn.length ≤ 0 + k ∧ Hid (NmP (w.alloc (.cells #[.slice c.ts.ao c.ts.l.length c.ts.cap, .slice c.vs.ao c.vs.l.length c.vs.cap, .slice c.xs.ao c.xs.l.length c.xs.cap, .slice c.ks.ao c.ks.l.length c.ks.cap, .slice c.hs.ao c.hs.l.length c.hs.cap, .slice c.rs.ao c.rs.l.length c.rs.cap, .slice c.ms.ao c.ms.l.length c.ms.cap, .slice c.bs.ao c.bs.l.length c.bs.cap] 31)) (w.heap.size + 1) s dn wr)) (fun _ i _ => c.ts.l.length - (intOf i).toNat)
  case atStart => exact ⟨0, ([] : List ByteArray), Nat.zero_le _, rfl, rfl, Nat.zero_le _, Hst⟩
  case round =>
    obtain ⟨k0, d0, hk, rfl, Hdn, hdn, HN⟩ := hrel
    obtain ⟨q1, q2, q3, q4, q5, q6, q7, q8⟩ := Hd.out wr HN.out.2
    have hl := Hlts.out
    by_cases hlt : k0 < c.ts.l.length
    · have hrow := Hcat.out.ts.row.below HN.out.2
      obtain ⟨bb, off, hao, _⟩ := hrow.form (by omega)
      rw [hao] at hrow q1
      have c0 := RAt.cell hrow hlt (j := 0) rfl
      simp only [Nat.add_zero] at c0
      have hnn : Hid ((c.ts.l.take (k0 + 1)).map (·.name) = d0 ++ [c.ts.l[k0].name]) := by
        rw [Hdn.out]; unfold Hid; rw [take_app (fun x => x.name) hlt]
      have hown := HN.out.1
      have hlow := Lib.hid HN.out.2
      have hB : w.heap.size + 1 ≤ wr.heap.size := by have h1 := hlow.out.size; rw [Hs1.out] at h1; exact h1
      generalize c.ts.l[k0].name = x at *
      have hkl : (k0 : Int) < (c.ts.l.length : Int) := by omega
      clear hrow hao
      go_wp2_with (at_builtin; refine wpList_appR (enc := encStr') (m := 1) Tryz.underlying55 infoS' rfl (by decide) encStr'_len encStr'_one _ wr rfl (.tmp 19) (.tmp 26) rfl (w.heap.size + 1) _ d0 rfl hown [x] 1 1 #[.string x] rfl rfl rfl rfl rfl rfl rfl (by decide) (by omega) (by unfold maxLen; omega) hB ?_; intro l3 g3 cap3 w3 hl3 hown3 haw3 hb3 hat3 hlt3)
      exact ⟨⟨k0 + 1, l3, by omega, by go_num, hl3.out.trans hnn.out.symm, by rw [hl3.out, List.length_append, List.length_singleton]; omega, hown3, hlow.out.trans hb3⟩, by simp [intOf]; omega⟩
    · obtain rfl : k0 = c.ts.l.length := by omega
      have hkl : c.ts.l.take c.ts.l.length = c.ts.l := List.take_length
      have hdn0 : d0.length ≤ 100 + 0 := by omega
      generalize wr = wr0 at *
      clear q1 q2 q3 q4 q5 q6 q7 q8 hk
      obtain ⟨q1, q2, q3, q4, q5, q6, q7, q8⟩ := Hd.out wr0 HN.out.2
      go_wp2_with fail
      go_loopw [3, 5] (fun s i wr => ∃ (k : Nat) (dn : List ByteArray), k ≤ c.vs.l.length ∧ i = .int .i64 k ∧ Hid (dn = c.ts.l.map (·.name) ++ (c.vs.l.take k).map (·.name)) ∧ dn.length ≤ 100 + k ∧ Hid (NmP (w.alloc (.cells #[.slice c.ts.ao c.ts.l.length c.ts.cap, .slice c.vs.ao c.vs.l.length c.vs.cap, .slice c.xs.ao c.xs.l.length c.xs.cap, .slice c.ks.ao c.ks.l.length c.ks.cap, .slice c.hs.ao c.hs.l.length c.hs.cap, .slice c.rs.ao c.rs.l.length c.rs.cap, .slice c.ms.ao c.ms.l.length c.ms.cap, .slice c.bs.ao c.bs.l.length c.bs.cap] 31)) (w.heap.size + 1) s dn wr)) (fun _ i _ => c.vs.l.length - (intOf i).toNat)
      case atStart => exact ⟨0, d0, Nat.zero_le _, rfl, (by have := Hdn.out; simpa [Hid, hkl] using this), hdn0, HN⟩
      case round =>
        obtain ⟨k1, d1, hk, rfl, Hdn, hdn, HN⟩ := hrel
        obtain ⟨q1, q2, q3, q4, q5, q6, q7, q8⟩ := Hd.out wr HN.out.2
        have hl := Hlvs.out
        by_cases hlt : k1 < c.vs.l.length
        · have hrow := Hcat.out.vs.row.below HN.out.2
          obtain ⟨bb, off, hao, _⟩ := hrow.form (by omega)
          rw [hao] at hrow q2
          have c0 := RAt.cell hrow hlt (j := 0) rfl
          simp only [Nat.add_zero] at c0
          have hnn : Hid (c.ts.l.map (·.name) ++ (c.vs.l.take (k1 + 1)).map (·.name) = d1 ++ [c.vs.l[k1].name]) := by
            rw [Hdn.out]; unfold Hid; rw [take_app (fun x => x.name) hlt]; simp only [List.append_assoc]
          have hown := HN.out.1
          have hlow := Lib.hid HN.out.2
          have hB : w.heap.size + 1 ≤ wr.heap.size := by have h1 := hlow.out.size; rw [Hs1.out] at h1; exact h1
          generalize c.vs.l[k1].name = x at *
          have hkl : (k1 : Int) < (c.vs.l.length : Int) := by omega
          clear hrow hao
          go_wp2_with (at_builtin; refine wpList_appR (enc := encStr') (m := 1) Tryz.underlying55 infoS' rfl (by decide) encStr'_len encStr'_one _ wr rfl (.tmp 35) (.tmp 42) rfl (w.heap.size + 1) _ d1 rfl hown [x] 1 1 #[.string x] rfl rfl rfl rfl rfl rfl rfl (by decide) (by omega) (by unfold maxLen; omega) hB ?_; intro l3 g3 cap3 w3 hl3 hown3 haw3 hb3 hat3 hlt3)
          exact ⟨⟨k1 + 1, l3, by omega, by go_num, hl3.out.trans hnn.out.symm, by rw [hl3.out, List.length_append, List.length_singleton]; omega, hown3, hlow.out.trans hb3⟩, by simp [intOf]; omega⟩
        · obtain rfl : k1 = c.vs.l.length := by omega
          have hkl : c.vs.l.take c.vs.l.length = c.vs.l := List.take_length
          have hdn0 : d1.length ≤ 200 + 0 := by omega
          generalize wr = wr1 at *
          clear q1 q2 q3 q4 q5 q6 q7 q8 hk
          obtain ⟨q1, q2, q3, q4, q5, q6, q7, q8⟩ := Hd.out wr1 HN.out.2
          go_wp2_with fail
          go_loopw [3, 6] (fun s i wr => ∃ (k : Nat) (dn : List ByteArray), k ≤ c.xs.l.length ∧ i = .int .i64 k ∧ Hid (dn = c.ts.l.map (·.name) ++ c.vs.l.map (·.name) ++ (c.xs.l.take k).map (·.name)) ∧ dn.length ≤ 200 + k ∧ Hid (NmP (w.alloc (.cells #[.slice c.ts.ao c.ts.l.length c.ts.cap, .slice c.vs.ao c.vs.l.length c.vs.cap, .slice c.xs.ao c.xs.l.length c.xs.cap, .slice c.ks.ao c.ks.l.length c.ks.cap, .slice c.hs.ao c.hs.l.length c.hs.cap, .slice c.rs.ao c.rs.l.length c.rs.cap, .slice c.ms.ao c.ms.l.length c.ms.cap, .slice c.bs.ao c.bs.l.length c.bs.cap] 31)) (w.heap.size + 1) s dn wr)) (fun _ i _ => c.xs.l.length - (intOf i).toNat)
          case atStart => exact ⟨0, d1, Nat.zero_le _, rfl, (by have := Hdn.out; simpa [Hid, hkl] using this), hdn0, HN⟩
          case round =>
            obtain ⟨k2, d2, hk, rfl, Hdn, hdn, HN⟩ := hrel
            obtain ⟨q1, q2, q3, q4, q5, q6, q7, q8⟩ := Hd.out wr HN.out.2
            have hl := Hlxs.out
            by_cases hlt : k2 < c.xs.l.length
            · have hrow := Hcat.out.xs.row.below HN.out.2
              obtain ⟨bb, off, hao, _⟩ := hrow.form (by omega)
              rw [hao] at hrow q3
              have c0 := RAt.cell hrow hlt (j := 0) rfl
              simp only [Nat.add_zero] at c0
              have hnn : Hid (c.ts.l.map (·.name) ++ c.vs.l.map (·.name) ++ (c.xs.l.take (k2 + 1)).map (·.name) = d2 ++ [c.xs.l[k2].name]) := by
                rw [Hdn.out]; unfold Hid; rw [take_app (fun x => x.name) hlt]; simp only [List.append_assoc]
              have hown := HN.out.1
              have hlow := Lib.hid HN.out.2
              have hB : w.heap.size + 1 ≤ wr.heap.size := by have h1 := hlow.out.size; rw [Hs1.out] at h1; exact h1
              generalize c.xs.l[k2].name = x at *
              have hkl : (k2 : Int) < (c.xs.l.length : Int) := by omega
              clear hrow hao
              go_wp2_with (at_builtin; refine wpList_appR (enc := encStr') (m := 1) Tryz.underlying55 infoS' rfl (by decide) encStr'_len encStr'_one _ wr rfl (.tmp 51) (.tmp 58) rfl (w.heap.size + 1) _ d2 rfl hown [x] 1 1 #[.string x] rfl rfl rfl rfl rfl rfl rfl (by decide) (by omega) (by unfold maxLen; omega) hB ?_; intro l3 g3 cap3 w3 hl3 hown3 haw3 hb3 hat3 hlt3)
              exact ⟨⟨k2 + 1, l3, by omega, by go_num, hl3.out.trans hnn.out.symm, by rw [hl3.out, List.length_append, List.length_singleton]; omega, hown3, hlow.out.trans hb3⟩, by simp [intOf]; omega⟩
            · obtain rfl : k2 = c.xs.l.length := by omega
              have hkl : c.xs.l.take c.xs.l.length = c.xs.l := List.take_length
              have hdn0 : d2.length ≤ 300 + 0 := by omega
              generalize wr = wr2 at *
              clear q1 q2 q3 q4 q5 q6 q7 q8 hk
              obtain ⟨q1, q2, q3, q4, q5, q6, q7, q8⟩ := Hd.out wr2 HN.out.2
              go_wp2_with fail
              go_loopw [3, 7] (fun s i wr => ∃ (k : Nat) (dn : List ByteArray), k ≤ c.ks.l.length ∧ i = .int .i64 k ∧ Hid (dn = c.ts.l.map (·.name) ++ c.vs.l.map (·.name) ++ c.xs.l.map (·.name) ++ (c.ks.l.take k).map (·.name)) ∧ dn.length ≤ 300 + k ∧ Hid (NmP (w.alloc (.cells #[.slice c.ts.ao c.ts.l.length c.ts.cap, .slice c.vs.ao c.vs.l.length c.vs.cap, .slice c.xs.ao c.xs.l.length c.xs.cap, .slice c.ks.ao c.ks.l.length c.ks.cap, .slice c.hs.ao c.hs.l.length c.hs.cap, .slice c.rs.ao c.rs.l.length c.rs.cap, .slice c.ms.ao c.ms.l.length c.ms.cap, .slice c.bs.ao c.bs.l.length c.bs.cap] 31)) (w.heap.size + 1) s dn wr)) (fun _ i _ => c.ks.l.length - (intOf i).toNat)
              case atStart => exact ⟨0, d2, Nat.zero_le _, rfl, (by have := Hdn.out; simpa [Hid, hkl] using this), hdn0, HN⟩
              case round =>
                obtain ⟨k3, d3, hk, rfl, Hdn, hdn, HN⟩ := hrel
                obtain ⟨q1, q2, q3, q4, q5, q6, q7, q8⟩ := Hd.out wr HN.out.2
                have hl := Hlks.out
                by_cases hlt : k3 < c.ks.l.length
                · have hrow := Hcat.out.ks.row.below HN.out.2
                  obtain ⟨bb, off, hao, _⟩ := hrow.form (by omega)
                  rw [hao] at hrow q4
                  have c0 := RAt.cell hrow hlt (j := 0) rfl
                  simp only [Nat.add_zero] at c0
                  have hnn : Hid (c.ts.l.map (·.name) ++ c.vs.l.map (·.name) ++ c.xs.l.map (·.name) ++ (c.ks.l.take (k3 + 1)).map (·.name) = d3 ++ [c.ks.l[k3].name]) := by
                    rw [Hdn.out]; unfold Hid; rw [take_app (fun x => x.name) hlt]; simp only [List.append_assoc]
                  have hown := HN.out.1
                  have hlow := Lib.hid HN.out.2
                  have hB : w.heap.size + 1 ≤ wr.heap.size := by have h1 := hlow.out.size; rw [Hs1.out] at h1; exact h1
                  generalize c.ks.l[k3].name = x at *
                  have hkl : (k3 : Int) < (c.ks.l.length : Int) := by omega
                  clear hrow hao
                  go_wp2_with (at_builtin; refine wpList_appR (enc := encStr') (m := 1) Tryz.underlying55 infoS' rfl (by decide) encStr'_len encStr'_one _ wr rfl (.tmp 67) (.tmp 74) rfl (w.heap.size + 1) _ d3 rfl hown [x] 1 1 #[.string x] rfl rfl rfl rfl rfl rfl rfl (by decide) (by omega) (by unfold maxLen; omega) hB ?_; intro l3 g3 cap3 w3 hl3 hown3 haw3 hb3 hat3 hlt3)
                  exact ⟨⟨k3 + 1, l3, by omega, by go_num, hl3.out.trans hnn.out.symm, by rw [hl3.out, List.length_append, List.length_singleton]; omega, hown3, hlow.out.trans hb3⟩, by simp [intOf]; omega⟩
                · obtain rfl : k3 = c.ks.l.length := by omega
                  have hkl : c.ks.l.take c.ks.l.length = c.ks.l := List.take_length
                  have hdn0 : d3.length ≤ 400 + 0 := by omega
                  generalize wr = wr3 at *
                  clear q1 q2 q3 q4 q5 q6 q7 q8 hk
                  obtain ⟨q1, q2, q3, q4, q5, q6, q7, q8⟩ := Hd.out wr3 HN.out.2
                  go_wp2_with fail
                  go_loopw [3, 8] (fun s i wr => ∃ (k : Nat) (dn : List ByteArray), k ≤ c.hs.l.length ∧ i = .int .i64 k ∧ Hid (dn = c.ts.l.map (·.name) ++ c.vs.l.map (·.name) ++ c.xs.l.map (·.name) ++ c.ks.l.map (·.name) ++ (c.hs.l.take k).map (·.name)) ∧ dn.length ≤ 400 + k ∧ Hid (NmP (w.alloc (.cells #[.slice c.ts.ao c.ts.l.length c.ts.cap, .slice c.vs.ao c.vs.l.length c.vs.cap, .slice c.xs.ao c.xs.l.length c.xs.cap, .slice c.ks.ao c.ks.l.length c.ks.cap, .slice c.hs.ao c.hs.l.length c.hs.cap, .slice c.rs.ao c.rs.l.length c.rs.cap, .slice c.ms.ao c.ms.l.length c.ms.cap, .slice c.bs.ao c.bs.l.length c.bs.cap] 31)) (w.heap.size + 1) s dn wr)) (fun _ i _ => c.hs.l.length - (intOf i).toNat)
                  case atStart => exact ⟨0, d3, Nat.zero_le _, rfl, (by have := Hdn.out; simpa [Hid, hkl] using this), hdn0, HN⟩
                  case round =>
                    obtain ⟨k4, d4, hk, rfl, Hdn, hdn, HN⟩ := hrel
                    obtain ⟨q1, q2, q3, q4, q5, q6, q7, q8⟩ := Hd.out wr HN.out.2
                    have hl := Hlhs.out
                    by_cases hlt : k4 < c.hs.l.length
                    · have hrow := Hcat.out.hs.row.below HN.out.2
                      obtain ⟨bb, off, hao, _⟩ := hrow.form (by omega)
                      rw [hao] at hrow q5
                      have c0 := RAt.cell hrow hlt (j := 0) rfl
                      simp only [Nat.add_zero] at c0
                      have hnn : Hid (c.ts.l.map (·.name) ++ c.vs.l.map (·.name) ++ c.xs.l.map (·.name) ++ c.ks.l.map (·.name) ++ (c.hs.l.take (k4 + 1)).map (·.name) = d4 ++ [c.hs.l[k4].name]) := by
                        rw [Hdn.out]; unfold Hid; rw [take_app (fun x => x.name) hlt]; simp only [List.append_assoc]
                      have hown := HN.out.1
                      have hlow := Lib.hid HN.out.2
                      have hB : w.heap.size + 1 ≤ wr.heap.size := by have h1 := hlow.out.size; rw [Hs1.out] at h1; exact h1
                      generalize c.hs.l[k4].name = x at *
                      have hkl : (k4 : Int) < (c.hs.l.length : Int) := by omega
                      clear hrow hao
                      go_wp2_with (at_builtin; refine wpList_appR (enc := encStr') (m := 1) Tryz.underlying55 infoS' rfl (by decide) encStr'_len encStr'_one _ wr rfl (.tmp 83) (.tmp 90) rfl (w.heap.size + 1) _ d4 rfl hown [x] 1 1 #[.string x] rfl rfl rfl rfl rfl rfl rfl (by decide) (by omega) (by unfold maxLen; omega) hB ?_; intro l3 g3 cap3 w3 hl3 hown3 haw3 hb3 hat3 hlt3)
                      exact ⟨⟨k4 + 1, l3, by omega, by go_num, hl3.out.trans hnn.out.symm, by rw [hl3.out, List.length_append, List.length_singleton]; omega, hown3, hlow.out.trans hb3⟩, by simp [intOf]; omega⟩
                    · obtain rfl : k4 = c.hs.l.length := by omega
                      have hkl : c.hs.l.take c.hs.l.length = c.hs.l := List.take_length
                      have hdn0 : d4.length ≤ 500 + 0 := by omega
                      generalize wr = wr4 at *
                      clear q1 q2 q3 q4 q5 q6 q7 q8 hk
                      obtain ⟨q1, q2, q3, q4, q5, q6, q7, q8⟩ := Hd.out wr4 HN.out.2
                      go_wp2_with fail
                      go_loopw [3, 9] (fun s i wr => ∃ (k : Nat) (dn : List ByteArray), k ≤ c.rs.l.length ∧ i = .int .i64 k ∧ Hid (dn = c.ts.l.map (·.name) ++ c.vs.l.map (·.name) ++ c.xs.l.map (·.name) ++ c.ks.l.map (·.name) ++ c.hs.l.map (·.name) ++ (c.rs.l.take k).map (·.name)) ∧ dn.length ≤ 500 + k ∧ Hid (NmP (w.alloc (.cells #[.slice c.ts.ao c.ts.l.length c.ts.cap, .slice c.vs.ao c.vs.l.length c.vs.cap, .slice c.xs.ao c.xs.l.length c.xs.cap, .slice c.ks.ao c.ks.l.length c.ks.cap, .slice c.hs.ao c.hs.l.length c.hs.cap, .slice c.rs.ao c.rs.l.length c.rs.cap, .slice c.ms.ao c.ms.l.length c.ms.cap, .slice c.bs.ao c.bs.l.length c.bs.cap] 31)) (w.heap.size + 1) s dn wr)) (fun _ i _ => c.rs.l.length - (intOf i).toNat)
                      case atStart => exact ⟨0, d4, Nat.zero_le _, rfl, (by have := Hdn.out; simpa [Hid, hkl] using this), hdn0, HN⟩
                      case round =>
                        obtain ⟨k5, d5, hk, rfl, Hdn, hdn, HN⟩ := hrel
                        obtain ⟨q1, q2, q3, q4, q5, q6, q7, q8⟩ := Hd.out wr HN.out.2
                        have hl := Hlrs.out
                        by_cases hlt : k5 < c.rs.l.length
                        · have hrow := Hcat.out.rs.row.below HN.out.2
                          obtain ⟨bb, off, hao, _⟩ := hrow.form (by omega)
                          rw [hao] at hrow q6
                          have c0 := RAt.cell hrow hlt (j := 0) rfl
                          simp only [Nat.add_zero] at c0
                          have hnn : Hid (c.ts.l.map (·.name) ++ c.vs.l.map (·.name) ++ c.xs.l.map (·.name) ++ c.ks.l.map (·.name) ++ c.hs.l.map (·.name) ++ (c.rs.l.take (k5 + 1)).map (·.name) = d5 ++ [c.rs.l[k5].name]) := by
                            rw [Hdn.out]; unfold Hid; rw [take_app (fun x => x.name) hlt]; simp only [List.append_assoc]
                          have hown := HN.out.1
                          have hlow := Lib.hid HN.out.2
                          have hB : w.heap.size + 1 ≤ wr.heap.size := by have h1 := hlow.out.size; rw [Hs1.out] at h1; exact h1
                          generalize c.rs.l[k5].name = x at *
                          have hkl : (k5 : Int) < (c.rs.l.length : Int) := by omega
                          clear hrow hao
                          go_wp2_with (at_builtin; refine wpList_appR (enc := encStr') (m := 1) Tryz.underlying55 infoS' rfl (by decide) encStr'_len encStr'_one _ wr rfl (.tmp 99) (.tmp 106) rfl (w.heap.size + 1) _ d5 rfl hown [x] 1 1 #[.string x] rfl rfl rfl rfl rfl rfl rfl (by decide) (by omega) (by unfold maxLen; omega) hB ?_; intro l3 g3 cap3 w3 hl3 hown3 haw3 hb3 hat3 hlt3)
                          exact ⟨⟨k5 + 1, l3, by omega, by go_num, hl3.out.trans hnn.out.symm, by rw [hl3.out, List.length_append, List.length_singleton]; omega, hown3, hlow.out.trans hb3⟩, by simp [intOf]; omega⟩
                        · obtain rfl : k5 = c.rs.l.length := by omega
                          have hkl : c.rs.l.take c.rs.l.length = c.rs.l := List.take_length
                          have hdn0 : d5.length ≤ 600 + 0 := by omega
                          generalize wr = wr5 at *
                          clear q1 q2 q3 q4 q5 q6 q7 q8 hk
                          obtain ⟨q1, q2, q3, q4, q5, q6, q7, q8⟩ := Hd.out wr5 HN.out.2
                          go_wp2_with fail
                          go_loopw [3, 10] (fun s i wr => ∃ (k : Nat) (dn : List ByteArray), k ≤ c.ms.l.length ∧ i = .int .i64 k ∧ Hid (dn = c.ts.l.map (·.name) ++ c.vs.l.map (·.name) ++ c.xs.l.map (·.name) ++ c.ks.l.map (·.name) ++ c.hs.l.map (·.name) ++ c.rs.l.map (·.name) ++ (c.ms.l.take k).map (·.name)) ∧ dn.length ≤ 600 + k ∧ Hid (NmP (w.alloc (.cells #[.slice c.ts.ao c.ts.l.length c.ts.cap, .slice c.vs.ao c.vs.l.length c.vs.cap, .slice c.xs.ao c.xs.l.length c.xs.cap, .slice c.ks.ao c.ks.l.length c.ks.cap, .slice c.hs.ao c.hs.l.length c.hs.cap, .slice c.rs.ao c.rs.l.length c.rs.cap, .slice c.ms.ao c.ms.l.length c.ms.cap, .slice c.bs.ao c.bs.l.length c.bs.cap] 31)) (w.heap.size + 1) s dn wr)) (fun _ i _ => c.ms.l.length - (intOf i).toNat)
                          case atStart => exact ⟨0, d5, Nat.zero_le _, rfl, (by have := Hdn.out; simpa [Hid, hkl] using this), hdn0, HN⟩
                          case round =>
                            obtain ⟨k6, d6, hk, rfl, Hdn, hdn, HN⟩ := hrel
                            obtain ⟨q1, q2, q3, q4, q5, q6, q7, q8⟩ := Hd.out wr HN.out.2
                            have hl := Hlms.out
                            by_cases hlt : k6 < c.ms.l.length
                            · have hrow := Hcat.out.ms.row.below HN.out.2
                              obtain ⟨bb, off, hao, _⟩ := hrow.form (by omega)
                              rw [hao] at hrow q7
                              have c0 := RAt.cell hrow hlt (j := 0) rfl
                              simp only [Nat.add_zero] at c0
                              have hnn : Hid (c.ts.l.map (·.name) ++ c.vs.l.map (·.name) ++ c.xs.l.map (·.name) ++ c.ks.l.map (·.name) ++ c.hs.l.map (·.name) ++ c.rs.l.map (·.name) ++ (c.ms.l.take (k6 + 1)).map (·.name) = d6 ++ [c.ms.l[k6].name]) := by
                                rw [Hdn.out]; unfold Hid; rw [take_app (fun x => x.name) hlt]; simp only [List.append_assoc]
                              have hown := HN.out.1
                              have hlow := Lib.hid HN.out.2
                              have hB : w.heap.size + 1 ≤ wr.heap.size := by have h1 := hlow.out.size; rw [Hs1.out] at h1; exact h1
                              generalize c.ms.l[k6].name = x at *
                              have hkl : (k6 : Int) < (c.ms.l.length : Int) := by omega
                              clear hrow hao
                              go_wp2_with (at_builtin; refine wpList_appR (enc := encStr') (m := 1) Tryz.underlying55 infoS' rfl (by decide) encStr'_len encStr'_one _ wr rfl (.tmp 115) (.tmp 122) rfl (w.heap.size + 1) _ d6 rfl hown [x] 1 1 #[.string x] rfl rfl rfl rfl rfl rfl rfl (by decide) (by omega) (by unfold maxLen; omega) hB ?_; intro l3 g3 cap3 w3 hl3 hown3 haw3 hb3 hat3 hlt3)
                              exact ⟨⟨k6 + 1, l3, by omega, by go_num, hl3.out.trans hnn.out.symm, by rw [hl3.out, List.length_append, List.length_singleton]; omega, hown3, hlow.out.trans hb3⟩, by simp [intOf]; omega⟩
                            · obtain rfl : k6 = c.ms.l.length := by omega
                              have hkl : c.ms.l.take c.ms.l.length = c.ms.l := List.take_length
                              have hdn0 : d6.length ≤ 700 + 0 := by omega
                              generalize wr = wr6 at *
                              clear q1 q2 q3 q4 q5 q6 q7 q8 hk
                              obtain ⟨q1, q2, q3, q4, q5, q6, q7, q8⟩ := Hd.out wr6 HN.out.2
                              go_wp2_with fail
                              go_loopw [3, 11] (fun s i wr => ∃ (k : Nat) (dn : List ByteArray), k ≤ c.bs.l.length ∧ i = .int .i64 k ∧ Hid (dn = c.ts.l.map (·.name) ++ c.vs.l.map (·.name) ++ c.xs.l.map (·.name) ++ c.ks.l.map (·.name) ++ c.hs.l.map (·.name) ++ c.rs.l.map (·.name) ++ c.ms.l.map (·.name) ++ (c.bs.l.take k).map (·.name)) ∧ dn.length ≤ 700 + k ∧ Hid (NmP (w.alloc (.cells #[.slice c.ts.ao c.ts.l.length c.ts.cap, .slice c.vs.ao c.vs.l.length c.vs.cap, .slice c.xs.ao c.xs.l.length c.xs.cap, .slice c.ks.ao c.ks.l.length c.ks.cap, .slice c.hs.ao c.hs.l.length c.hs.cap, .slice c.rs.ao c.rs.l.length c.rs.cap, .slice c.ms.ao c.ms.l.length c.ms.cap, .slice c.bs.ao c.bs.l.length c.bs.cap] 31)) (w.heap.size + 1) s dn wr)) (fun _ i _ => c.bs.l.length - (intOf i).toNat)
                              case atStart => exact ⟨0, d6, Nat.zero_le _, rfl, (by have := Hdn.out; simpa [Hid, hkl] using this), hdn0, HN⟩
                              case round =>
                                obtain ⟨k7, d7, hk, rfl, Hdn, hdn, HN⟩ := hrel
                                obtain ⟨q1, q2, q3, q4, q5, q6, q7, q8⟩ := Hd.out wr HN.out.2
                                have hl := Hlbs.out
                                by_cases hlt : k7 < c.bs.l.length
                                · have hrow := Hcat.out.bs.row.below HN.out.2
                                  obtain ⟨bb, off, hao, _⟩ := hrow.form (by omega)
                                  rw [hao] at hrow q8
                                  have c0 := RAt.cell hrow hlt (j := 0) rfl
                                  simp only [Nat.add_zero] at c0
                                  have hnn : Hid (c.ts.l.map (·.name) ++ c.vs.l.map (·.name) ++ c.xs.l.map (·.name) ++ c.ks.l.map (·.name) ++ c.hs.l.map (·.name) ++ c.rs.l.map (·.name) ++ c.ms.l.map (·.name) ++ (c.bs.l.take (k7 + 1)).map (·.name) = d7 ++ [c.bs.l[k7].name]) := by
                                    rw [Hdn.out]; unfold Hid; rw [take_app (fun x => x.name) hlt]; simp only [List.append_assoc]
                                  have hown := HN.out.1
                                  have hlow := Lib.hid HN.out.2
                                  have hB : w.heap.size + 1 ≤ wr.heap.size := by have h1 := hlow.out.size; rw [Hs1.out] at h1; exact h1
                                  generalize c.bs.l[k7].name = x at *
                                  have hkl : (k7 : Int) < (c.bs.l.length : Int) := by omega
                                  clear hrow hao
                                  go_wp2_with (at_builtin; refine wpList_appR (enc := encStr') (m := 1) Tryz.underlying55 infoS' rfl (by decide) encStr'_len encStr'_one _ wr rfl (.tmp 131) (.tmp 138) rfl (w.heap.size + 1) _ d7 rfl hown [x] 1 1 #[.string x] rfl rfl rfl rfl rfl rfl rfl (by decide) (by omega) (by unfold maxLen; omega) hB ?_; intro l3 g3 cap3 w3 hl3 hown3 haw3 hb3 hat3 hlt3)
                                  exact ⟨⟨k7 + 1, l3, by omega, by go_num, hl3.out.trans hnn.out.symm, by rw [hl3.out, List.length_append, List.length_singleton]; omega, hown3, hlow.out.trans hb3⟩, by simp [intOf]; omega⟩
                                · obtain rfl : k7 = c.bs.l.length := by omega
                                  have hdd : Hid (d7 = c.names) := by rw [Hnm.out]; have := Hdn.out; rwa [List.take_length] at this
                                  go_wp2_with fail
                                  go_ret
                                  rw [← hdd.out]
                                  exact HN.out.made Hb1.out (Nat.le_succ _)
end Go.Proofs.YtjnhighilmchaaaGreatDoor
