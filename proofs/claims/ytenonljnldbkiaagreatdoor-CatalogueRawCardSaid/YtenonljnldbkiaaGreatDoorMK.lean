/- The names of all declarations in the reference of layer 4. -/
import Derived.Test.YtenonljnldbkiaaGreatDoorMH
import Derived.BigQuiet
namespace Go.Proofs.YtenonljnldbkiaaGreatDoor
open Go.RowKit Go.Proofs.EB Go.Proofs.TX
set_option maxHeartbeats 4000000
set_option maxRecDepth 100000
attribute [local go_sem] World.cell?_alloc_some

/-- A list that a call has made. -/
def MadeP {α : Type} (enc : α → List Value) (m : Nat) (l : List α) (w : World) (e : Ending) (w' : World) : Prop := ∃ ao cap, e = .returned (.slice ao l.length cap) ∧ RAt enc m w' w'.heap.size ao l ∧ (ao = none → cap = 0) ∧ l.length ≤ cap ∧ cap ≤ maxLen ∧ Below w.heap.size w w' ∧ (∀ b o, ao = some ⟨b, o, none⟩ → w.heap.size ≤ b)
/-- The names so far. -/
def NmP (W1 : World) (B : Nat) (v : Value) (done : List ByteArray) (wr : World) : Prop := OwnsR encStr' 1 wr B 9 v done ∧ Below B W1 wr
theorem NmP.made {w W1 wr : World} {B : Nat} {v : Value} {l : List ByteArray} (h : NmP W1 B v l wr) (hb : Below w.heap.size w W1) (hB : w.heap.size ≤ B) : MadeP encStr' 1 l w (.returned v) wr := by
  obtain ⟨ao, cap, rfl, hr, hlo, hz, h1, h2⟩ := OwnsR.rAt encStr'_len h.1
  exact ⟨ao, cap, rfl, hr, hz, h1, h2, hb.trans (h.2.mono hB), fun b o e => Nat.le_trans hB (hlo b o e).1⟩
theorem take_app {α β : Type} (f : α → β) {l : List α} {k : Nat} (h : k < l.length) : (l.take (k + 1)).map f = (l.take k).map f ++ [f l[k]] := by
  rw [List.take_add_one, List.getElem?_eq_getElem h]; simp only [Option.toList_some, List.map_append, List.map_cons, List.map_nil]
theorem rnames_any (c : Cat) (hs : c.Sml) (w : World) (hcat : CatAt w w.heap.size c) : Calls Tryz.prog 57 #[c.val] w (MadeP encStr' 1 c.names w) := by
  have hb1 := al1 w (.cells #[.slice c.ts.ao c.ts.l.length c.ts.cap, .slice c.vs.ao c.vs.l.length c.vs.cap, .slice c.xs.ao c.xs.l.length c.xs.cap, .slice c.ks.ao c.ks.l.length c.ks.cap, .slice c.hs.ao c.hs.l.length c.hs.cap, .slice c.rs.ao c.rs.l.length c.rs.cap, .slice c.ms.ao c.ms.l.length c.ms.cap, .slice c.bs.ao c.bs.l.length c.bs.cap] 31)
  have hs1 := alloc_size w (.cells #[.slice c.ts.ao c.ts.l.length c.ts.cap, .slice c.vs.ao c.vs.l.length c.vs.cap, .slice c.xs.ao c.xs.l.length c.xs.cap, .slice c.ks.ao c.ks.l.length c.ks.cap, .slice c.hs.ao c.hs.l.length c.hs.cap, .slice c.rs.ao c.rs.l.length c.rs.cap, .slice c.ms.ao c.ms.l.length c.ms.cap, .slice c.bs.ao c.bs.l.length c.bs.cap] 31)
  have hbx := alloc_new w (.cells #[.slice c.ts.ao c.ts.l.length c.ts.cap, .slice c.vs.ao c.vs.l.length c.vs.cap, .slice c.xs.ao c.xs.l.length c.xs.cap, .slice c.ks.ao c.ks.l.length c.ks.cap, .slice c.hs.ao c.hs.l.length c.hs.cap, .slice c.rs.ao c.rs.l.length c.rs.cap, .slice c.ms.ao c.ms.l.length c.ms.cap, .slice c.bs.ao c.bs.l.length c.bs.cap] 31)
  have Hd := Lib.hid (fun (w' : World) (hb : Below (w.heap.size + 1) (w.alloc (.cells #[.slice c.ts.ao c.ts.l.length c.ts.cap, .slice c.vs.ao c.vs.l.length c.vs.cap, .slice c.xs.ao c.xs.l.length c.xs.cap, .slice c.ks.ao c.ks.l.length c.ks.cap, .slice c.hs.ao c.hs.l.length c.hs.cap, .slice c.rs.ao c.rs.l.length c.rs.cap, .slice c.ms.ao c.ms.l.length c.ms.cap, .slice c.bs.ao c.bs.l.length c.bs.cap] 31)) w') => boxC (c := c) ((hb.block _ (Nat.lt_succ_self _)).trans hbx))
  have Hcat := Lib.hid (hcat.below hb1 (Nat.le_succ _))
  have Hb1 := Lib.hid hb1
  have Hs1 := Lib.hid hs1
  have Hnm : Hid (c.names = c.ts.l.map (·.name) ++ c.vs.l.map (·.name) ++ c.xs.l.map (·.name) ++ c.ks.l.map (·.name) ++ c.hs.l.map (·.name) ++ c.rs.l.map (·.name) ++ c.ms.l.map (·.name) ++ c.bs.l.map (·.name)) := rfl
  have Hlts := Lib.hid hs.ts
  have Hlvs := Lib.hid hs.vs
  have Hlxs := Lib.hid hs.xs
  have Hlks := Lib.hid hs.ks
  have Hlhs := Lib.hid hs.hs
  have Hlrs := Lib.hid hs.rs
  have Hlms := Lib.hid hs.ms
  have Hlbs := Lib.hid hs.bs
  have Hst : Hid (NmP (w.alloc (.cells #[.slice c.ts.ao c.ts.l.length c.ts.cap, .slice c.vs.ao c.vs.l.length c.vs.cap, .slice c.xs.ao c.xs.l.length c.xs.cap, .slice c.ks.ao c.ks.l.length c.ks.cap, .slice c.hs.ao c.hs.l.length c.hs.cap, .slice c.rs.ao c.rs.l.length c.rs.cap, .slice c.ms.ao c.ms.l.length c.ms.cap, .slice c.bs.ao c.bs.l.length c.bs.cap] 31)) (w.heap.size + 1) (.slice none 0 0) [] (w.alloc (.cells #[.slice c.ts.ao c.ts.l.length c.ts.cap, .slice c.vs.ao c.vs.l.length c.vs.cap, .slice c.xs.ao c.xs.l.length c.xs.cap, .slice c.ks.ao c.ks.l.length c.ks.cap, .slice c.hs.ao c.hs.l.length c.hs.cap, .slice c.rs.ao c.rs.l.length c.rs.cap, .slice c.ms.ao c.ms.l.length c.ms.cap, .slice c.bs.ao c.bs.l.length c.bs.cap] 31))) := ⟨.nil, Below.refl _ _⟩
  clear hb1 hs1 hbx hs hcat
  unfold Cat.val at *
  go_enter Tryz.func57, Tryz.ntmps57
  go_wp2_with fail
  go_loopw [3, 4] (fun s i wr => ∃ (k : Nat) (dn : List ByteArray), k ≤ c.ts.l.length ∧ i = .int .i64 k ∧ Hid (dn = (c.ts.l.take k).map (·.name)) ∧ dn.length ≤ 0 + k ∧ Hid (NmP (w.alloc (.cells #[.slice c.ts.ao c.ts.l.length c.ts.cap, .slice c.vs.ao c.vs.l.length c.vs.cap, .slice c.xs.ao c.xs.l.length c.xs.cap, .slice c.ks.ao c.ks.l.length c.ks.cap, .slice c.hs.ao c.hs.l.length c.hs.cap, .slice c.rs.ao c.rs.l.length c.rs.cap, .slice c.ms.ao c.ms.l.length c.ms.cap, .slice c.bs.ao c.bs.l.length c.bs.cap] 31)) (w.heap.size + 1) s dn wr)) (fun _ i _ => c.ts.l.length - (intOf i).toNat)
  case atStart => exact ⟨0, ([] : List ByteArray), Nat.zero_le _, rfl, rfl, Nat.zero_le _, Hst⟩
  case round =>
    obtain ⟨k0, d0, hk, rfl, Hdn, hdn, HN⟩ := hrel
    obtain ⟨q1, q2, q3, q4, q5, q6, q7, q8⟩ := Hd.out wr HN.out.2
    have hl := Hlts.out
    by_cases hlt : k0 < c.ts.l.length
    · have hrow := Hcat.out.ts.row.below HN.out.2
      obtain ⟨bb, off, hao, _⟩ := hrow.form (by omega)
      rw [hao] at hrow q1
      have c0 := RAt.cell hrow hlt (j := 0) rfl
      simp only [Nat.add_zero] at c0
      have hnn : Hid ((c.ts.l.take (k0 + 1)).map (·.name) = d0 ++ [c.ts.l[k0].name]) := by
        rw [Hdn.out]; unfold Hid; rw [take_app (fun x => x.name) hlt]
      have hown := HN.out.1
      have hlow := Lib.hid HN.out.2
      have hB : w.heap.size + 1 ≤ wr.heap.size := by have h1 := hlow.out.size; rw [Hs1.out] at h1; exact h1
      generalize c.ts.l[k0].name = x at *
      have hkl : (k0 : Int) < (c.ts.l.length : Int) := by omega
      clear hrow hao
      go_wp2_with (at_builtin; refine wpList_appR (enc := encStr') (m := 1) Tryz.underlying40 infoS' rfl (by decide) encStr'_len encStr'_one _ wr rfl (.tmp 19) (.tmp 26) rfl (w.heap.size + 1) _ d0 rfl hown [x] 1 1 #[.string x] rfl rfl rfl rfl rfl rfl rfl (by decide) (by omega) (by unfold maxLen; omega) hB ?_; intro l3 g3 cap3 w3 hl3 hown3 haw3 hb3 hat3 hlt3)
      exact ⟨⟨k0 + 1, l3, by omega, by go_num, hl3.out.trans hnn.out.symm, by rw [hl3.out, List.length_append, List.length_singleton]; omega, hown3, hlow.out.trans hb3⟩, by simp [intOf]; omega⟩
    · obtain rfl : k0 = c.ts.l.length := by omega
      have hkl : c.ts.l.take c.ts.l.length = c.ts.l := List.take_length
      have hdn0 : d0.length ≤ 100 + 0 := by omega
      generalize wr = wr0 at *
      clear q1 q2 q3 q4 q5 q6 q7 q8 hk
      obtain ⟨q1, q2, q3, q4, q5, q6, q7, q8⟩ := Hd.out wr0 HN.out.2
      go_wp2_with fail
      go_loopw [3, 5] (fun s i wr => ∃ (k : Nat) (dn : List ByteArray), k ≤ c.vs.l.length ∧ i = .int .i64 k ∧ Hid (dn = c.ts.l.map (·.name) ++ (c.vs.l.take k).map (·.name)) ∧ dn.length ≤ 100 + k ∧ Hid (NmP (w.alloc (.cells #[.slice c.ts.ao c.ts.l.length c.ts.cap, .slice c.vs.ao c.vs.l.length c.vs.cap, .slice c.xs.ao c.xs.l.length c.xs.cap, .slice c.ks.ao c.ks.l.length c.ks.cap, .slice c.hs.ao c.hs.l.length c.hs.cap, .slice c.rs.ao c.rs.l.length c.rs.cap, .slice c.ms.ao c.ms.l.length c.ms.cap, .slice c.bs.ao c.bs.l.length c.bs.cap] 31)) (w.heap.size + 1) s dn wr)) (fun _ i _ => c.vs.l.length - (intOf i).toNat)
      case atStart => exact ⟨0, d0, Nat.zero_le _, rfl, (by have := Hdn.out; simpa [Hid, hkl] using this), hdn0, HN⟩
      case round =>
        obtain ⟨k1, d1, hk, rfl, Hdn, hdn, HN⟩ := hrel
        obtain ⟨q1, q2, q3, q4, q5, q6, q7, q8⟩ := Hd.out wr HN.out.2
        have hl := Hlvs.out
        by_cases hlt : k1 < c.vs.l.length
        · have hrow := Hcat.out.vs.row.below HN.out.2
          obtain ⟨bb, off, hao, _⟩ := hrow.form (by omega)
          rw [hao] at hrow q2
          have c0 := RAt.cell hrow hlt (j := 0) rfl
          simp only [Nat.add_zero] at c0
          have hnn : Hid (c.ts.l.map (·.name) ++ (c.vs.l.take (k1 + 1)).map (·.name) = d1 ++ [c.vs.l[k1].name]) := by
            rw [Hdn.out]; unfold Hid; rw [take_app (fun x => x.name) hlt]; simp only [List.append_assoc]
          have hown := HN.out.1
          have hlow := Lib.hid HN.out.2
          have hB : w.heap.size + 1 ≤ wr.heap.size := by have h1 := hlow.out.size; rw [Hs1.out] at h1; exact h1
          generalize c.vs.l[k1].name = x at *
          have hkl : (k1 : Int) < (c.vs.l.length : Int) := by omega
          clear hrow hao
          go_wp2_with (at_builtin; refine wpList_appR (enc := encStr') (m := 1) Tryz.underlying40 infoS' rfl (by decide) encStr'_len encStr'_one _ wr rfl (.tmp 35) (.tmp 42) rfl (w.heap.size + 1) _ d1 rfl hown [x] 1 1 #[.string x] rfl rfl rfl rfl rfl rfl rfl (by decide) (by omega) (by unfold maxLen; omega) hB ?_; intro l3 g3 cap3 w3 hl3 hown3 haw3 hb3 hat3 hlt3)
          exact ⟨⟨k1 + 1, l3, by omega, by go_num, hl3.out.trans hnn.out.symm, by rw [hl3.out, List.length_append, List.length_singleton]; omega, hown3, hlow.out.trans hb3⟩, by simp [intOf]; omega⟩
        · obtain rfl : k1 = c.vs.l.length := by omega
          have hkl : c.vs.l.take c.vs.l.length = c.vs.l := List.take_length
          have hdn0 : d1.length ≤ 200 + 0 := by omega
          generalize wr = wr1 at *
          clear q1 q2 q3 q4 q5 q6 q7 q8 hk
          obtain ⟨q1, q2, q3, q4, q5, q6, q7, q8⟩ := Hd.out wr1 HN.out.2
          go_wp2_with fail
          go_loopw [3, 6] (fun s i wr => ∃ (k : Nat) (dn : List ByteArray), k ≤ c.xs.l.length ∧ i = .int .i64 k ∧ Hid (dn = c.ts.l.map (·.name) ++ c.vs.l.map (·.name) ++ (c.xs.l.take k).map (·.name)) ∧ dn.length ≤ 200 + k ∧ Hid (NmP (w.alloc (.cells #[.slice c.ts.ao c.ts.l.length c.ts.cap, .slice c.vs.ao c.vs.l.length c.vs.cap, .slice c.xs.ao c.xs.l.length c.xs.cap, .slice c.ks.ao c.ks.l.length c.ks.cap, .slice c.hs.ao c.hs.l.length c.hs.cap, .slice c.rs.ao c.rs.l.length c.rs.cap, .slice c.ms.ao c.ms.l.length c.ms.cap, .slice c.bs.ao c.bs.l.length c.bs.cap] 31)) (w.heap.size + 1) s dn wr)) (fun _ i _ => c.xs.l.length - (intOf i).toNat)
          case atStart => exact ⟨0, d1, Nat.zero_le _, rfl, (by have := Hdn.out; simpa [Hid, hkl] using this), hdn0, HN⟩
          case round =>
            obtain ⟨k2, d2, hk, rfl, Hdn, hdn, HN⟩ := hrel
            obtain ⟨q1, q2, q3, q4, q5, q6, q7, q8⟩ := Hd.out wr HN.out.2
            have hl := Hlxs.out
            by_cases hlt : k2 < c.xs.l.length
            · have hrow := Hcat.out.xs.row.below HN.out.2
              obtain ⟨bb, off, hao, _⟩ := hrow.form (by omega)
              rw [hao] at hrow q3
              have c0 := RAt.cell hrow hlt (j := 0) rfl
              simp only [Nat.add_zero] at c0
              have hnn : Hid (c.ts.l.map (·.name) ++ c.vs.l.map (·.name) ++ (c.xs.l.take (k2 + 1)).map (·.name) = d2 ++ [c.xs.l[k2].name]) := by
                rw [Hdn.out]; unfold Hid; rw [take_app (fun x => x.name) hlt]; simp only [List.append_assoc]
              have hown := HN.out.1
              have hlow := Lib.hid HN.out.2
              have hB : w.heap.size + 1 ≤ wr.heap.size := by have h1 := hlow.out.size; rw [Hs1.out] at h1; exact h1
              generalize c.xs.l[k2].name = x at *
              have hkl : (k2 : Int) < (c.xs.l.length : Int) := by omega
              clear hrow hao
              go_wp2_with (at_builtin; refine wpList_appR (enc := encStr') (m := 1) Tryz.underlying40 infoS' rfl (by decide) encStr'_len encStr'_one _ wr rfl (.tmp 51) (.tmp 58) rfl (w.heap.size + 1) _ d2 rfl hown [x] 1 1 #[.string x] rfl rfl rfl rfl rfl rfl rfl (by decide) (by omega) (by unfold maxLen; omega) hB ?_; intro l3 g3 cap3 w3 hl3 hown3 haw3 hb3 hat3 hlt3)
              exact ⟨⟨k2 + 1, l3, by omega, by go_num, hl3.out.trans hnn.out.symm, by rw [hl3.out, List.length_append, List.length_singleton]; omega, hown3, hlow.out.trans hb3⟩, by simp [intOf]; omega⟩
            · obtain rfl : k2 = c.xs.l.length := by omega
              have hkl : c.xs.l.take c.xs.l.length = c.xs.l := List.take_length
              have hdn0 : d2.length ≤ 300 + 0 := by omega
              generalize wr = wr2 at *
              clear q1 q2 q3 q4 q5 q6 q7 q8 hk
              obtain ⟨q1, q2, q3, q4, q5, q6, q7, q8⟩ := Hd.out wr2 HN.out.2
              go_wp2_with fail
              go_loopw [3, 7] (fun s i wr => ∃ (k : Nat) (dn : List ByteArray), k ≤ c.ks.l.length ∧ i = .int .i64 k ∧ Hid (dn = c.ts.l.map (·.name) ++ c.vs.l.map (·.name) ++ c.xs.l.map (·.name) ++ (c.ks.l.take k).map (·.name)) ∧ dn.length ≤ 300 + k ∧ Hid (NmP (w.alloc (.cells #[.slice c.ts.ao c.ts.l.length c.ts.cap, .slice c.vs.ao c.vs.l.length c.vs.cap, .slice c.xs.ao c.xs.l.length c.xs.cap, .slice c.ks.ao c.ks.l.length c.ks.cap, .slice c.hs.ao c.hs.l.length c.hs.cap, .slice c.rs.ao c.rs.l.length c.rs.cap, .slice c.ms.ao c.ms.l.length c.ms.cap, .slice c.bs.ao c.bs.l.length c.bs.cap] 31)) (w.heap.size + 1) s dn wr)) (fun _ i _ => c.ks.l.length - (intOf i).toNat)
              case atStart => exact ⟨0, d2, Nat.zero_le _, rfl, (by have := Hdn.out; simpa [Hid, hkl] using this), hdn0, HN⟩
              case round =>
                obtain ⟨k3, d3, hk, rfl, Hdn, hdn, HN⟩ := hrel
                obtain ⟨q1, q2, q3, q4, q5, q6, q7, q8⟩ := Hd.out wr HN.out.2
                have hl := Hlks.out
                by_cases hlt : k3 < c.ks.l.length
                · have hrow := Hcat.out.ks.row.below HN.out.2
                  obtain ⟨bb, off, hao, _⟩ := hrow.form (by omega)
                  rw [hao] at hrow q4
                  have c0 := RAt.cell hrow hlt (j := 0) rfl
                  simp only [Nat.add_zero] at c0
                  have hnn : Hid (c.ts.l.map (·.name) ++ c.vs.l.map (·.name) ++ c.xs.l.map (·.name) ++ (c.ks.l.take (k3 + 1)).map (·.name) = d3 ++ [c.ks.l[k3].name]) := by
                    rw [Hdn.out]; unfold Hid; rw [take_app (fun x => x.name) hlt]; simp only [List.append_assoc]
                  have hown := HN.out.1
                  have hlow := Lib.hid HN.out.2
                  have hB : w.heap.size + 1 ≤ wr.heap.size := by have h1 := hlow.out.size; rw [Hs1.out] at h1; exact h1
                  generalize c.ks.l[k3].name = x at *
                  have hkl : (k3 : Int) < (c.ks.l.length : Int) := by omega
                  clear hrow hao
                  go_wp2_with (at_builtin; refine wpList_appR (enc := encStr') (m := 1) Tryz.underlying40 infoS' rfl (by decide) encStr'_len encStr'_one _ wr rfl (.tmp 67) (.tmp 74) rfl (w.heap.size + 1) _ d3 rfl hown [x] 1 1 #[.string x] rfl rfl rfl rfl rfl rfl rfl (by decide) (by omega) (by unfold maxLen; omega) hB ?_; intro l3 g3 cap3 w3 hl3 hown3 haw3 hb3 hat3 hlt3)
                  exact ⟨⟨k3 + 1, l3, by omega, by go_num, hl3.out.trans hnn.out.symm, by rw [hl3.out, List.length_append, List.length_singleton]; omega, hown3, hlow.out.trans hb3⟩, by simp [intOf]; omega⟩
                · obtain rfl : k3 = c.ks.l.length := by omega
                  have hkl : c.ks.l.take c.ks.l.length = c.ks.l := List.take_length
                  have hdn0 : d3.length ≤ 400 + 0 := by omega
                  generalize wr = wr3 at *
                  clear q1 q2 q3 q4 q5 q6 q7 q8 hk
                  obtain ⟨q1, q2, q3, q4, q5, q6, q7, q8⟩ := Hd.out wr3 HN.out.2
                  go_wp2_with fail
                  go_loopw [3, 8] (fun s i wr => ∃ (k : Nat) (dn : List ByteArray), k ≤ c.hs.l.length ∧ i = .int .i64 k ∧ Hid (dn = c.ts.l.map (·.name) ++ c.vs.l.map (·.name) ++ c.xs.l.map (·.name) ++ c.ks.l.map (·.name) ++ (c.hs.l.take k).map (·.name)) ∧ dn.length ≤ 400 + k ∧ Hid (NmP (w.alloc (.cells #[.slice c.ts.ao c.ts.l.length c.ts.cap, .slice c.vs.ao c.vs.l.length c.vs.cap, .slice c.xs.ao c.xs.l.length c.xs.cap, .slice c.ks.ao c.ks.l.length c.ks.cap, .slice c.hs.ao c.hs.l.length c.hs.cap, .slice c.rs.ao c.rs.l.length c.rs.cap, .slice c.ms.ao c.ms.l.length c.ms.cap, .slice c.bs.ao c.bs.l.length c.bs.cap] 31)) (w.heap.size + 1) s dn wr)) (fun _ i _ => c.hs.l.length - (intOf i).toNat)
                  case atStart => exact ⟨0, d3, Nat.zero_le _, rfl, (by have := Hdn.out; simpa [Hid, hkl] using this), hdn0, HN⟩
                  case round =>
                    obtain ⟨k4, d4, hk, rfl, Hdn, hdn, HN⟩ := hrel
                    obtain ⟨q1, q2, q3, q4, q5, q6, q7, q8⟩ := Hd.out wr HN.out.2
                    have hl := Hlhs.out
                    by_cases hlt : k4 < c.hs.l.length
                    · have hrow := Hcat.out.hs.row.below HN.out.2
                      obtain ⟨bb, off, hao, _⟩ := hrow.form (by omega)
                      rw [hao] at hrow q5
                      have c0 := RAt.cell hrow hlt (j := 0) rfl
                      simp only [Nat.add_zero] at c0
                      have hnn : Hid (c.ts.l.map (·.name) ++ c.vs.l.map (·.name) ++ c.xs.l.map (·.name) ++ c.ks.l.map (·.name) ++ (c.hs.l.take (k4 + 1)).map (·.name) = d4 ++ [c.hs.l[k4].name]) := by
                        rw [Hdn.out]; unfold Hid; rw [take_app (fun x => x.name) hlt]; simp only [List.append_assoc]
                      have hown := HN.out.1
                      have hlow := Lib.hid HN.out.2
                      have hB : w.heap.size + 1 ≤ wr.heap.size := by have h1 := hlow.out.size; rw [Hs1.out] at h1; exact h1
                      generalize c.hs.l[k4].name = x at *
                      have hkl : (k4 : Int) < (c.hs.l.length : Int) := by omega
                      clear hrow hao
                      go_wp2_with (at_builtin; refine wpList_appR (enc := encStr') (m := 1) Tryz.underlying40 infoS' rfl (by decide) encStr'_len encStr'_one _ wr rfl (.tmp 83) (.tmp 90) rfl (w.heap.size + 1) _ d4 rfl hown [x] 1 1 #[.string x] rfl rfl rfl rfl rfl rfl rfl (by decide) (by omega) (by unfold maxLen; omega) hB ?_; intro l3 g3 cap3 w3 hl3 hown3 haw3 hb3 hat3 hlt3)
                      exact ⟨⟨k4 + 1, l3, by omega, by go_num, hl3.out.trans hnn.out.symm, by rw [hl3.out, List.length_append, List.length_singleton]; omega, hown3, hlow.out.trans hb3⟩, by simp [intOf]; omega⟩
                    · obtain rfl : k4 = c.hs.l.length := by omega
                      have hkl : c.hs.l.take c.hs.l.length = c.hs.l := List.take_length
                      have hdn0 : d4.length ≤ 500 + 0 := by omega
                      generalize wr = wr4 at *
                      clear q1 q2 q3 q4 q5 q6 q7 q8 hk
                      obtain ⟨q1, q2, q3, q4, q5, q6, q7, q8⟩ := Hd.out wr4 HN.out.2
                      go_wp2_with fail
                      go_loopw [3, 9] (fun s i wr => ∃ (k : Nat) (dn : List ByteArray), k ≤ c.rs.l.length ∧ i = .int .i64 k ∧ Hid (dn = c.ts.l.map (·.name) ++ c.vs.l.map (·.name) ++ c.xs.l.map (·.name) ++ c.ks.l.map (·.name) ++ c.hs.l.map (·.name) ++ (c.rs.l.take k).map (·.name)) ∧ dn.length ≤ 500 + k ∧ Hid (NmP (w.alloc (.cells #[.slice c.ts.ao c.ts.l.length c.ts.cap, .slice c.vs.ao c.vs.l.length c.vs.cap, .slice c.xs.ao c.xs.l.length c.xs.cap, .slice c.ks.ao c.ks.l.length c.ks.cap, .slice c.hs.ao c.hs.l.length c.hs.cap, .slice c.rs.ao c.rs.l.length c.rs.cap, .slice c.ms.ao c.ms.l.length c.ms.cap, .slice c.bs.ao c.bs.l.length c.bs.cap] 31)) (w.heap.size + 1) s dn wr)) (fun _ i _ => c.rs.l.length - (intOf i).toNat)
                      case atStart => exact ⟨0, d4, Nat.zero_le _, rfl, (by have := Hdn.out; simpa [Hid, hkl] using this), hdn0, HN⟩
                      case round =>
                        obtain ⟨k5, d5, hk, rfl, Hdn, hdn, HN⟩ := hrel
                        obtain ⟨q1, q2, q3, q4, q5, q6, q7, q8⟩ := Hd.out wr HN.out.2
                        have hl := Hlrs.out
                        by_cases hlt : k5 < c.rs.l.length
                        · have hrow := Hcat.out.rs.row.below HN.out.2
                          obtain ⟨bb, off, hao, _⟩ := hrow.form (by omega)
                          rw [hao] at hrow q6
                          have c0 := RAt.cell hrow hlt (j := 0) rfl
                          simp only [Nat.add_zero] at c0
                          have hnn : Hid (c.ts.l.map (·.name) ++ c.vs.l.map (·.name) ++ c.xs.l.map (·.name) ++ c.ks.l.map (·.name) ++ c.hs.l.map (·.name) ++ (c.rs.l.take (k5 + 1)).map (·.name) = d5 ++ [c.rs.l[k5].name]) := by
                            rw [Hdn.out]; unfold Hid; rw [take_app (fun x => x.name) hlt]; simp only [List.append_assoc]
                          have hown := HN.out.1
                          have hlow := Lib.hid HN.out.2
                          have hB : w.heap.size + 1 ≤ wr.heap.size := by have h1 := hlow.out.size; rw [Hs1.out] at h1; exact h1
                          generalize c.rs.l[k5].name = x at *
                          have hkl : (k5 : Int) < (c.rs.l.length : Int) := by omega
                          clear hrow hao
                          go_wp2_with (at_builtin; refine wpList_appR (enc := encStr') (m := 1) Tryz.underlying40 infoS' rfl (by decide) encStr'_len encStr'_one _ wr rfl (.tmp 99) (.tmp 106) rfl (w.heap.size + 1) _ d5 rfl hown [x] 1 1 #[.string x] rfl rfl rfl rfl rfl rfl rfl (by decide) (by omega) (by unfold maxLen; omega) hB ?_; intro l3 g3 cap3 w3 hl3 hown3 haw3 hb3 hat3 hlt3)
                          exact ⟨⟨k5 + 1, l3, by omega, by go_num, hl3.out.trans hnn.out.symm, by rw [hl3.out, List.length_append, List.length_singleton]; omega, hown3, hlow.out.trans hb3⟩, by simp [intOf]; omega⟩
                        · obtain rfl : k5 = c.rs.l.length := by omega
                          have hkl : c.rs.l.take c.rs.l.length = c.rs.l := List.take_length
                          have hdn0 : d5.length ≤ 600 + 0 := by omega
                          generalize wr = wr5 at *
                          clear q1 q2 q3 q4 q5 q6 q7 q8 hk
                          obtain ⟨q1, q2, q3, q4, q5, q6, q7, q8⟩ := Hd.out wr5 HN.out.2
                          go_wp2_with fail
                          go_loopw [3, 10] (fun s i wr => ∃ (k : Nat) (dn : List ByteArray), k ≤ c.ms.l.length ∧ i = .int .i64 k ∧ Hid (dn = c.ts.l.map (·.name) ++ c.vs.l.map (·.name) ++ c.xs.l.map (·.name) ++ c.ks.l.map (·.name) ++ c.hs.l.map (·.name) ++ c.rs.l.map (·.name) ++ (c.ms.l.take k).map (·.name)) ∧ dn.length ≤ 600 + k ∧ Hid (NmP (w.alloc (.cells #[.slice c.ts.ao c.ts.l.length c.ts.cap, .slice c.vs.ao c.vs.l.length c.vs.cap, .slice c.xs.ao c.xs.l.length c.xs.cap, .slice c.ks.ao c.ks.l.length c.ks.cap, .slice c.hs.ao c.hs.l.length c.hs.cap, .slice c.rs.ao c.rs.l.length c.rs.cap, .slice c.ms.ao c.ms.l.length c.ms.cap, .slice c.bs.ao c.bs.l.length c.bs.cap] 31)) (w.heap.size + 1) s dn wr)) (fun _ i _ => c.ms.l.length - (intOf i).toNat)
                          case atStart => exact ⟨0, d5, Nat.zero_le _, rfl, (by have := Hdn.out; simpa [Hid, hkl] using this), hdn0, HN⟩
                          case round =>
                            obtain ⟨k6, d6, hk, rfl, Hdn, hdn, HN⟩ := hrel
                            obtain ⟨q1, q2, q3, q4, q5, q6, q7, q8⟩ := Hd.out wr HN.out.2
                            have hl := Hlms.out
                            by_cases hlt : k6 < c.ms.l.length
                            · have hrow := Hcat.out.ms.row.below HN.out.2
                              obtain ⟨bb, off, hao, _⟩ := hrow.form (by omega)
                              rw [hao] at hrow q7
                              have c0 := RAt.cell hrow hlt (j := 0) rfl
                              simp only [Nat.add_zero] at c0
                              have hnn : Hid (c.ts.l.map (·.name) ++ c.vs.l.map (·.name) ++ c.xs.l.map (·.name) ++ c.ks.l.map (·.name) ++ c.hs.l.map (·.name) ++ c.rs.l.map (·.name) ++ (c.ms.l.take (k6 + 1)).map (·.name) = d6 ++ [c.ms.l[k6].name]) := by
                                rw [Hdn.out]; unfold Hid; rw [take_app (fun x => x.name) hlt]; simp only [List.append_assoc]
                              have hown := HN.out.1
                              have hlow := Lib.hid HN.out.2
                              have hB : w.heap.size + 1 ≤ wr.heap.size := by have h1 := hlow.out.size; rw [Hs1.out] at h1; exact h1
                              generalize c.ms.l[k6].name = x at *
                              have hkl : (k6 : Int) < (c.ms.l.length : Int) := by omega
                              clear hrow hao
                              go_wp2_with (at_builtin; refine wpList_appR (enc := encStr') (m := 1) Tryz.underlying40 infoS' rfl (by decide) encStr'_len encStr'_one _ wr rfl (.tmp 115) (.tmp 122) rfl (w.heap.size + 1) _ d6 rfl hown [x] 1 1 #[.string x] rfl rfl rfl rfl rfl rfl rfl (by decide) (by omega) (by unfold maxLen; omega) hB ?_; intro l3 g3 cap3 w3 hl3 hown3 haw3 hb3 hat3 hlt3)
                              exact ⟨⟨k6 + 1, l3, by omega, by go_num, hl3.out.trans hnn.out.symm, by rw [hl3.out, List.length_append, List.length_singleton]; omega, hown3, hlow.out.trans hb3⟩, by simp [intOf]; omega⟩
                            · obtain rfl : k6 = c.ms.l.length := by omega
                              have hkl : c.ms.l.take c.ms.l.length = c.ms.l := List.take_length
                              have hdn0 : d6.length ≤ 700 + 0 := by omega
                              generalize wr = wr6 at *
                              clear q1 q2 q3 q4 q5 q6 q7 q8 hk
                              obtain ⟨q1, q2, q3, q4, q5, q6, q7, q8⟩ := Hd.out wr6 HN.out.2
                              go_wp2_with fail
                              go_loopw [3, 11] (fun s i wr => ∃ (k : Nat) (dn : List ByteArray), k ≤ c.bs.l.length ∧ i = .int .i64 k ∧ Hid (dn = c.ts.l.map (·.name) ++ c.vs.l.map (·.name) ++ c.xs.l.map (·.name) ++ c.ks.l.map (·.name) ++ c.hs.l.map (·.name) ++ c.rs.l.map (·.name) ++ c.ms.l.map (·.name) ++ (c.bs.l.take k).map (·.name)) ∧ dn.length ≤ 700 + k ∧ Hid (NmP (w.alloc (.cells #[.slice c.ts.ao c.ts.l.length c.ts.cap, .slice c.vs.ao c.vs.l.length c.vs.cap, .slice c.xs.ao c.xs.l.length c.xs.cap, .slice c.ks.ao c.ks.l.length c.ks.cap, .slice c.hs.ao c.hs.l.length c.hs.cap, .slice c.rs.ao c.rs.l.length c.rs.cap, .slice c.ms.ao c.ms.l.length c.ms.cap, .slice c.bs.ao c.bs.l.length c.bs.cap] 31)) (w.heap.size + 1) s dn wr)) (fun _ i _ => c.bs.l.length - (intOf i).toNat)
                              case atStart => exact ⟨0, d6, Nat.zero_le _, rfl, (by have := Hdn.out; simpa [Hid, hkl] using this), hdn0, HN⟩
                              case round =>
                                obtain ⟨k7, d7, hk, rfl, Hdn, hdn, HN⟩ := hrel
                                obtain ⟨q1, q2, q3, q4, q5, q6, q7, q8⟩ := Hd.out wr HN.out.2
                                have hl := Hlbs.out
                                by_cases hlt : k7 < c.bs.l.length
                                · have hrow := Hcat.out.bs.row.below HN.out.2
                                  obtain ⟨bb, off, hao, _⟩ := hrow.form (by omega)
                                  rw [hao] at hrow q8
                                  have c0 := RAt.cell hrow hlt (j := 0) rfl
                                  simp only [Nat.add_zero] at c0
                                  have hnn : Hid (c.ts.l.map (·.name) ++ c.vs.l.map (·.name) ++ c.xs.l.map (·.name) ++ c.ks.l.map (·.name) ++ c.hs.l.map (·.name) ++ c.rs.l.map (·.name) ++ c.ms.l.map (·.name) ++ (c.bs.l.take (k7 + 1)).map (·.name) = d7 ++ [c.bs.l[k7].name]) := by
                                    rw [Hdn.out]; unfold Hid; rw [take_app (fun x => x.name) hlt]; simp only [List.append_assoc]
                                  have hown := HN.out.1
                                  have hlow := Lib.hid HN.out.2
                                  have hB : w.heap.size + 1 ≤ wr.heap.size := by have h1 := hlow.out.size; rw [Hs1.out] at h1; exact h1
                                  generalize c.bs.l[k7].name = x at *
                                  have hkl : (k7 : Int) < (c.bs.l.length : Int) := by omega
                                  clear hrow hao
                                  go_wp2_with (at_builtin; refine wpList_appR (enc := encStr') (m := 1) Tryz.underlying40 infoS' rfl (by decide) encStr'_len encStr'_one _ wr rfl (.tmp 131) (.tmp 138) rfl (w.heap.size + 1) _ d7 rfl hown [x] 1 1 #[.string x] rfl rfl rfl rfl rfl rfl rfl (by decide) (by omega) (by unfold maxLen; omega) hB ?_; intro l3 g3 cap3 w3 hl3 hown3 haw3 hb3 hat3 hlt3)
                                  exact ⟨⟨k7 + 1, l3, by omega, by go_num, hl3.out.trans hnn.out.symm, by rw [hl3.out, List.length_append, List.length_singleton]; omega, hown3, hlow.out.trans hb3⟩, by simp [intOf]; omega⟩
                                · obtain rfl : k7 = c.bs.l.length := by omega
                                  have hdd : Hid (d7 = c.names) := by rw [Hnm.out]; have := Hdn.out; rwa [List.take_length] at this
                                  go_wp2_with fail
                                  go_ret
                                  rw [← hdd.out]
                                  exact HN.out.made Hb1.out (Nat.le_succ _)
end Go.Proofs.YtenonljnldbkiaaGreatDoor
/- The reference of layer 4: find, table, has, same. -/
namespace Go.Proofs.YtenonljnldbkiaaGreatDoor
open Go.RowKit Go.Proofs.EB Go.Proofs.TX
set_option maxHeartbeats 4000000
set_option maxRecDepth 100000
attribute [local go_sem] World.cell?_alloc_some

/-- m is n, but from 0 to k. -/
def Clip (n : Int) (k m : Nat) : Prop := m ≤ k ∧ ((m : Int) = n ∨ (m = k ∧ (m : Int) ≤ n) ∨ (m = 0 ∧ n ≤ 0))
theorem rfind_any (c : Cat) (hs : c.Sml) (x : ByteArray) (n : Int) (m : Nat) (hm : Clip n c.nS m) (w : World) (hcat : CatAt w w.heap.size c) : Calls Tryz.prog 62 #[c.val, .string x, .int .i64 n] w (Gives (.int .i64 (idx x (c.names.take m))) w) := by
  have hb1 := al1 w (.cells #[.slice c.ts.ao c.ts.l.length c.ts.cap, .slice c.vs.ao c.vs.l.length c.vs.cap, .slice c.xs.ao c.xs.l.length c.xs.cap, .slice c.ks.ao c.ks.l.length c.ks.cap, .slice c.hs.ao c.hs.l.length c.hs.cap, .slice c.rs.ao c.rs.l.length c.rs.cap, .slice c.ms.ao c.ms.l.length c.ms.cap, .slice c.bs.ao c.bs.l.length c.bs.cap] 31)
  have hs1 := alloc_size w (.cells #[.slice c.ts.ao c.ts.l.length c.ts.cap, .slice c.vs.ao c.vs.l.length c.vs.cap, .slice c.xs.ao c.xs.l.length c.xs.cap, .slice c.ks.ao c.ks.l.length c.ks.cap, .slice c.hs.ao c.hs.l.length c.hs.cap, .slice c.rs.ao c.rs.l.length c.rs.cap, .slice c.ms.ao c.ms.l.length c.ms.cap, .slice c.bs.ao c.bs.l.length c.bs.cap] 31)
  have hbx := alloc_new w (.cells #[.slice c.ts.ao c.ts.l.length c.ts.cap, .slice c.vs.ao c.vs.l.length c.vs.cap, .slice c.xs.ao c.xs.l.length c.xs.cap, .slice c.ks.ao c.ks.l.length c.ks.cap, .slice c.hs.ao c.hs.l.length c.hs.cap, .slice c.rs.ao c.rs.l.length c.rs.cap, .slice c.ms.ao c.ms.l.length c.ms.cap, .slice c.bs.ao c.bs.l.length c.bs.cap] 31)
  have Hd := Lib.hid (fun (w' : World) (hb : Below (w.heap.size + 1) (w.alloc (.cells #[.slice c.ts.ao c.ts.l.length c.ts.cap, .slice c.vs.ao c.vs.l.length c.vs.cap, .slice c.xs.ao c.xs.l.length c.xs.cap, .slice c.ks.ao c.ks.l.length c.ks.cap, .slice c.hs.ao c.hs.l.length c.hs.cap, .slice c.rs.ao c.rs.l.length c.rs.cap, .slice c.ms.ao c.ms.l.length c.ms.cap, .slice c.bs.ao c.bs.l.length c.bs.cap] 31)) w') => boxC (c := c) ((hb.block _ (Nat.lt_succ_self _)).trans hbx))
  have HN := Lib.hid (rnames_any c hs (w.alloc (.cells #[.slice c.ts.ao c.ts.l.length c.ts.cap, .slice c.vs.ao c.vs.l.length c.vs.cap, .slice c.xs.ao c.xs.l.length c.xs.cap, .slice c.ks.ao c.ks.l.length c.ks.cap, .slice c.hs.ao c.hs.l.length c.hs.cap, .slice c.rs.ao c.rs.l.length c.rs.cap, .slice c.ms.ao c.ms.l.length c.ms.cap, .slice c.bs.ao c.bs.l.length c.bs.cap] 31)) (hcat.later hb1))
  have Hb1 := Lib.hid hb1
  have Hs1 := Lib.hid hs1
  have hln : m ≤ c.names.length ∧ c.names.length ≤ 1000 := by
    have h1 := c.names_len
    have h2 := hm.1
    obtain ⟨e1, _, _, e2, _, _, _, _, e3, e4, e5, e6, e7, e8, _⟩ := hs
    unfold Cat.nS at h1 h2
    omega
  obtain ⟨hln1, hln2⟩ := hln
  obtain ⟨nms, hnms⟩ : ∃ nms, c.names = nms := ⟨_, rfl⟩
  have hm' : m ≤ c.ts.l.length + c.vs.l.length ∧ ((m : Int) = n ∨ (m = c.ts.l.length + c.vs.l.length ∧ (m : Int) ≤ n) ∨ (m = 0 ∧ n ≤ 0)) := hm
  have ht := hs.ts
  have hv := hs.vs
  rw [hnms] at HN hln1 hln2 ⊢
  have Hm := Lib.hid hm'
  clear hb1 hs1 hbx hs hcat hnms hm hm'
  unfold Cat.val at *
  go_enter Tryz.func62, Tryz.ntmps62
  go_wp2_with fail
  refine HN.out.mono ?_
  rintro e w2 ⟨ao, cap, rfl, hR, _, hcap, _, hb2, _⟩
  obtain ⟨d1, d2, _⟩ := Hd.out w2 (by have h1 := hb2; rw [Hs1.out] at h1; exact h1)
  have HR := Lib.hid hR
  have Hb := Lib.hid (bt Hb1.out hb2)
  clear hR hb2
  go_wp2_with fail
  go_loop [8] (fun i => ∃ k : Nat, k ≤ m ∧ i = .int .i64 k ∧ Hid (∀ j (h : j < nms.length), j < k → seq nms[j] x = false)) (fun i => m - (intOf i).toNat)
  case atStart => exact ⟨0, Nat.zero_le _, rfl, fun j _ h => absurd h (by omega)⟩
  case round =>
    obtain ⟨k, hk, rfl, hX⟩ := hrel
    by_cases hlt : k < m
    · obtain ⟨b, off, rfl, _⟩ := HR.out.form (by omega)
      have hkn : k < nms.length := by omega
      have c0 := RAt.str' HR.out hkn
      have hS := Lib.hid (show seq nms[k] x = true → idx x (nms.take m) = k from fun h => by rw [idx_take, idx_eq hkn h hX.out, if_pos (by omega)])
      have Hj := Lib.hid (show ∀ j (h : j < nms.length), j = k → nms[j] = nms[k] from fun j h e => by subst e; rfl)
      generalize nms[k] = s at *
      have z1 : (k : Int) < n := by have := Hm.out; omega
      have z2 : (k : Int) < (c.ts.l.length : Int) + (c.vs.l.length : Int) := by have := Hm.out; omega
      have z3 : (k : Int) < (nms.length : Int) := by omega
      cases hv : seq s x
      · have z4 : (s.toList == x.toList) = false := hv
        have Hv := Lib.hid hv
        clear hv
        go_wp2_with fail
        go_round
        case rel =>
          refine ⟨k + 1, by omega, by go_num, fun j hj hjk => ?_⟩
          by_cases hje : j < k
          · exact hX.out j hj hje
          · rw [Hj.out j hj (by omega)]; exact Hv.out
        case measure => simp [intOf]; omega
      · have z4 : (s.toList == x.toList) = true := hv
        have Hr := Lib.hid (hS.out hv)
        clear hv hS
        go_wp2_with fail
        go_ret
        exact ⟨ret_i Hr.out.symm, Hb.out⟩
    · obtain rfl : k = m := by omega
      have Hr := Lib.hid (show idx x (nms.take k) = -1 from idx_none fun y hy => by
        obtain ⟨j, hj, rfl⟩ := List.mem_iff_getElem.1 hy
        rw [List.length_take] at hj
        rw [List.getElem_take]
        exact hX.out j (by omega) (by omega))
      by_cases z1 : (k : Int) < n
      · have z2 : ¬ ((k : Int) < (c.ts.l.length : Int) + (c.vs.l.length : Int)) := by have := Hm.out; omega
        go_wp2_with fail
        go_ret
        exact ⟨ret_i Hr.out.symm, Hb.out⟩
      · go_wp2_with fail
        go_ret
        exact ⟨ret_i Hr.out.symm, Hb.out⟩
theorem rtable_any (c : Cat) (hs : c.Sml) (x : ByteArray) (n : Nat) (hn : n ≤ c.ts.l.length) (w : World) (hcat : CatAt w w.heap.size c) : Calls Tryz.prog 109 #[c.val, .string x, .int .i64 n] w (Gives (.int .i64 (idx x (c.names.take n))) w) := by
  have hb1 := al1 w (.cells #[.slice c.ts.ao c.ts.l.length c.ts.cap, .slice c.vs.ao c.vs.l.length c.vs.cap, .slice c.xs.ao c.xs.l.length c.xs.cap, .slice c.ks.ao c.ks.l.length c.ks.cap, .slice c.hs.ao c.hs.l.length c.hs.cap, .slice c.rs.ao c.rs.l.length c.rs.cap, .slice c.ms.ao c.ms.l.length c.ms.cap, .slice c.bs.ao c.bs.l.length c.bs.cap] 31)
  have hF := rfind_any c hs x n n ⟨by unfold Cat.nS; omega, .inl rfl⟩ (w.alloc (.cells #[.slice c.ts.ao c.ts.l.length c.ts.cap, .slice c.vs.ao c.vs.l.length c.vs.cap, .slice c.xs.ao c.xs.l.length c.xs.cap, .slice c.ks.ao c.ks.l.length c.ks.cap, .slice c.hs.ao c.hs.l.length c.hs.cap, .slice c.rs.ao c.rs.l.length c.rs.cap, .slice c.ms.ao c.ms.l.length c.ms.cap, .slice c.bs.ao c.bs.l.length c.bs.cap] 31)) (hcat.later hb1)
  have HF := Lib.hid hF
  have Hb1 := Lib.hid hb1
  have hmn := fun ts t k k2 => run_min_int2 (P := Tryz.prog) (w := (w.alloc (.cells #[.slice c.ts.ao c.ts.l.length c.ts.cap, .slice c.vs.ao c.vs.l.length c.vs.cap, .slice c.xs.ao c.xs.l.length c.xs.cap, .slice c.ks.ao c.ks.l.length c.ks.cap, .slice c.hs.ao c.hs.l.length c.hs.cap, .slice c.rs.ao c.rs.l.length c.rs.cap, .slice c.ms.ao c.ms.l.length c.ms.cap, .slice c.bs.ao c.bs.l.length c.bs.cap] 31))) ts t k k2 n c.ts.l.length
  have hmn2 : min (n : Int) (c.ts.l.length : Int) = n := by omega
  have hl := hs.ts
  clear hF hb1 hcat hs
  unfold Cat.val at *
  go_enter Tryz.func109, Tryz.ntmps109
  go_wp2_with fail
  refine HF.out.mono ?_
  rintro e w2 ⟨rfl, hb2⟩
  have Hb := Lib.hid (bt Hb1.out hb2)
  clear hb2
  go_wp2_with fail
  go_ret
  exact ⟨rfl, Hb.out⟩
end Go.Proofs.YtenonljnldbkiaaGreatDoor
/- The reference of layer 4: pairs, same, has, shape. -/
namespace Go.Proofs.YtenonljnldbkiaaGreatDoor
open Go.RowKit Go.Proofs.EB Go.Proofs.TX
set_option maxHeartbeats 4000000
set_option maxRecDepth 100000
attribute [local go_sem] World.cell?_alloc_some

theorem rpairs_any (na la ra : Option Addr) (nc lc rc : Nat) (on : List (Int × Int)) (left right : List Int) (hn : on.length ≤ 100) (hl : left.length ≤ 1000) (hr : right.length ≤ 1000) (w : World)
    (hN : RAt encPr 2 w w.heap.size na on) (hL : RAt encInt 1 w w.heap.size la left) (hR : RAt encInt 1 w w.heap.size ra right) :
    Calls Tryz.prog 102 #[.slice na on.length nc, .slice la left.length lc, .slice ra right.length rc] w (Gives (.int .i64 (pairE left right on)) w) := by
  have HN := Lib.hid hN
  have HL := Lib.hid hL
  have HR := Lib.hid hR
  clear hN hL hR
  go_enter Tryz.func102, Tryz.ntmps102
  go_wp2_with fail
  go_loopw [7] (fun i wr => ∃ k : Nat, k ≤ on.length ∧ i = .int .i64 k ∧ Hid (Below w.heap.size w wr ∧ pairE left right on = pairE left right (on.drop k))) (fun i _ => on.length - (intOf i).toNat)
  case atStart => exact ⟨0, Nat.zero_le _, rfl, Below.refl _ _, by rw [List.drop_zero]⟩
  case round =>
    obtain ⟨k, hk, rfl, hX⟩ := hrel
    obtain ⟨hb, heq⟩ := hX.out
    have Hb := Lib.hid hb
    have Heq := Lib.hid heq
    clear hX hb heq
    by_cases hlt : k < on.length
    · obtain ⟨b, off, rfl, _⟩ := HN.out.form (by omega)
      obtain ⟨c0, c1⟩ := RAt.pr ((HN.out.below Hb.out).mono Hb.out.size) hlt
      have he := Heq.out
      rw [pairE_drop hlt] at he
      replace Heq := Lib.hid he
      clear he
      generalize on[k] = p at *
      obtain ⟨p, q⟩ := p
      dsimp only at *
      have hkl : (k : Int) < (on.length : Int) := by omega
      cases i1 : inB p 0 ((left.length : Int) - 1)
      · have hr1 : Hid (pairE left right on = 3) := by unfold Hid; rw [Heq.out, i1]; rfl
        go_wp2_with fail
        refine (rwithin_any _ _ _ _).mono ?_
        rintro e w1 ⟨rfl, rfl⟩
        go_wp2_with fail
        go_ret
        exact ⟨ret_i hr1.out.symm, Hb.out⟩
      · cases i2 : inB q 0 ((right.length : Int) - 1)
        · have hr1 : Hid (pairE left right on = 3) := by unfold Hid; rw [Heq.out, i1, i2]; rfl
          go_wp2_with fail
          refine (rwithin_any _ _ _ _).mono ?_
          rintro e w1 ⟨rfl, rfl⟩
          go_wp2_with fail
          refine (rwithin_any _ _ _ _).mono ?_
          rintro e w1 ⟨rfl, rfl⟩
          go_wp2_with fail
          go_ret
          exact ⟨ret_i hr1.out.symm, Hb.out⟩
        · obtain ⟨a, rfl, ha⟩ := inB_nat i1
          obtain ⟨d, rfl, hd⟩ := inB_nat i2
          obtain ⟨b2, off2, rfl, _⟩ := HL.out.form (by omega)
          obtain ⟨b3, off3, rfl, _⟩ := HR.out.form (by omega)
          have e1 := RAt.int ((HL.out.below Hb.out).mono Hb.out.size) ha
          have e2 := RAt.int ((HR.out.below Hb.out).mono Hb.out.size) hd
          have g1 : left.getD (a : Int).toNat 0 = left[a] := by simp [List.getD_eq_getElem?_getD, ha]
          have g2 : right.getD (d : Int).toNat 0 = right[d] := by simp [List.getD_eq_getElem?_getD, hd]
          rw [g1, g2, i1, i2] at Heq
          have y1 : (a : Int) < (left.length : Int) := by omega
          have y2 : (d : Int) < (right.length : Int) := by omega
          clear g1 g2
          generalize left[a] = x at *
          generalize right[d] = y at *
          cases hxy : (x != y)
          · have hr1 : Hid (pairE left right on = pairE left right (on.drop (k + 1))) := by unfold Hid; rw [Heq.out]; simp at hxy; simp [hxy]
            go_wp2_with fail
            refine (rwithin_any _ _ _ _).mono ?_
            rintro e w1 ⟨rfl, rfl⟩
            go_wp2_with fail
            refine (rwithin_any _ _ _ _).mono ?_
            rintro e w1 ⟨rfl, rfl⟩
            go_wp2_with fail
            go_quiet (fail)
            go_wp2_with fail
            exact ⟨⟨k + 1, by omega, by go_num, ⟨Hb.out.os, Hb.out.tape, Hb.out.output, Hb.out.size, Hb.out.block⟩, hr1.out⟩, by simp [intOf]; omega⟩
          · have hr1 : Hid (pairE left right on = 5) := by unfold Hid; rw [Heq.out]; simp at hxy; simp [hxy]
            go_wp2_with fail
            refine (rwithin_any _ _ _ _).mono ?_
            rintro e w1 ⟨rfl, rfl⟩
            go_wp2_with fail
            refine (rwithin_any _ _ _ _).mono ?_
            rintro e w1 ⟨rfl, rfl⟩
            go_wp2_with fail
            go_quiet (fail)
            go_wp2_with fail
            go_ret
            exact ⟨ret_i hr1.out.symm, ⟨Hb.out.os, Hb.out.tape, Hb.out.output, Hb.out.size, Hb.out.block⟩⟩
    · have hkk : k = on.length := by omega
      have he := Heq.out
      rw [hkk, List.drop_length] at he
      have He := Lib.hid (show pairE left right on = 0 from he)
      clear he hkk
      go_wp2_with fail
      go_ret
      exact ⟨ret_i He.out.symm, Hb.out⟩
/-- Two lists of numbers, equal or not. -/
theorem rsame_any (a1 a2 : Option Addr) (c1 c2 : Nat) (l1 l2 : List Int) (h1 : l1.length ≤ 1000) (h2 : l2.length ≤ 1000) (w : World) (hL : RAt encInt 1 w w.heap.size a1 l1) (hR : RAt encInt 1 w w.heap.size a2 l2) :
    Calls Tryz.prog 101 #[.slice a1 l1.length c1, .slice a2 l2.length c2] w (Gives (.bool (decide (l1 = l2))) w) := by
  have HL := Lib.hid hL
  have HR := Lib.hid hR
  clear hL hR
  by_cases hlen : l1.length = l2.length
  · have hz : ((l1.length : Int) != (l2.length : Int)) = false := by simp [hlen]
    have Hlen := Lib.hid hlen
    clear hlen
    go_enter Tryz.func101, Tryz.ntmps101
    go_wp2_with fail
    go_loopw [5] (fun i wr => ∃ k : Nat, k ≤ l1.length ∧ i = .int .i64 k ∧ Hid (Below w.heap.size w wr ∧ l1.take k = l2.take k)) (fun i _ => l1.length - (intOf i).toNat)
    case atStart => exact ⟨0, Nat.zero_le _, rfl, Below.refl _ _, by simp⟩
    case round =>
      obtain ⟨k, hk, rfl, hX⟩ := hrel
      obtain ⟨hb, heq⟩ := hX.out
      have Hb := Lib.hid hb
      have Heq := Lib.hid heq
      clear hX hb heq
      by_cases hlt : k < l1.length
      · have hlt2 : k < l2.length := by have := Hlen.out; omega
        obtain ⟨b, off, rfl, _⟩ := HL.out.form (by omega)
        obtain ⟨b2, off2, rfl, _⟩ := HR.out.form (by omega)
        have e1 := RAt.int ((HL.out.below Hb.out).mono Hb.out.size) hlt
        have e2 := RAt.int ((HR.out.below Hb.out).mono Hb.out.size) hlt2
        have y1 : (k : Int) < (l1.length : Int) := by omega
        have y2 : (k : Int) < (l2.length : Int) := by omega
        have y3 : (0 : Int) ≤ (k : Int) := by omega
        have ht1 := Lib.hid (show l1.take (k + 1) = l1.take k ++ [l1[k]] by rw [List.take_succ_eq_append_getElem hlt])
        have ht2 := Lib.hid (show l2.take (k + 1) = l2.take k ++ [l2[k]] by rw [List.take_succ_eq_append_getElem hlt2])
        have hg := Lib.hid (show l1[k] ≠ l2[k] → l1 ≠ l2 from fun hne e => hne (by subst e; rfl))
        generalize l1[k] = x at *
        generalize l2[k] = y at *
        cases hxy : (x != y)
        · have hxy' : x = y := by simpa using hxy
          subst hxy'
          clear hxy
          have hxx : (x != x) = false := by simp
          go_wp2_with fail
          go_quiet (fail)
          go_wp2_with fail
          exact ⟨⟨k + 1, by omega, by go_num, ⟨Hb.out.os, Hb.out.tape, Hb.out.output, Hb.out.size, Hb.out.block⟩, by rw [ht1.out, ht2.out, Heq.out]⟩, by simp [intOf]; omega⟩
        · have hne : l1 ≠ l2 := hg.out (by simpa using hxy)
          have hd : Hid (decide (l1 = l2) = false) := by unfold Hid; simpa using hne
          clear hne
          go_wp2_with fail
          go_quiet (fail)
          go_wp2_with fail
          go_ret
          exact ⟨ret_b hd.out.symm, ⟨Hb.out.os, Hb.out.tape, Hb.out.output, Hb.out.size, Hb.out.block⟩⟩
      · have he : l1 = l2 := by
          have hkk : k = l1.length := by omega
          have := Heq.out
          rw [hkk, List.take_length, Hlen.out, List.take_length] at this
          exact this
        have hd : Hid (decide (l1 = l2) = true) := by unfold Hid; simpa using he
        clear he
        go_wp2_with fail
        go_ret
        exact ⟨ret_b hd.out.symm, Hb.out⟩
  · have hz : ((l1.length : Int) != (l2.length : Int)) = true := by rw [bne_iff_ne]; omega
    have hd : Hid (decide (l1 = l2) = false) := by unfold Hid; rw [decide_eq_false_iff_not]; exact fun e => hlen (by rw [e])
    clear hlen
    go_enter Tryz.func101, Tryz.ntmps101
    go_wp2_with fail
    go_ret
    exact ⟨ret_b hd.out.symm, Below.refl _ _⟩
/-- A number in a list. -/
theorem rhas_any (x : Int) (ao : Option Addr) (cap : Nat) (l : List Int) (hl : l.length ≤ 100000) (w : World) (hR : RAt encInt 1 w w.heap.size ao l) :
    Calls Tryz.prog 67 #[.slice ao l.length cap, .int .i64 x] w fun e w' => e = .returned (.bool (l.contains x)) ∧ w = w' := by
  obtain ⟨r, hr⟩ : ∃ r, l.contains x = r := ⟨_, rfl⟩
  rw [hr]
  have HR := Lib.hid hR
  have Hcr := Lib.hid hr
  clear hR hr
  go_enter Tryz.func67, Tryz.ntmps67
  go_wp2_with fail
  go_loop [5] (fun i => ∃ k : Nat, k ≤ l.length ∧ i = .int .i64 k ∧ Hid (∀ j (h : j < l.length), j < k → l[j] ≠ x)) (fun i => l.length - (intOf i).toNat)
  case atStart => exact ⟨0, Nat.zero_le _, rfl, fun j _ h => absurd h (by omega)⟩
  case round =>
    obtain ⟨k, hk, rfl, hX⟩ := hrel
    by_cases hlt : k < l.length
    · obtain ⟨b, off, rfl, _⟩ := HR.out.form (by omega)
      have c0 := RAt.int HR.out hlt
      have Hj := Lib.hid (show ∀ j (h : j < l.length), j = k → l[j] = l[k] from fun j h e => by subst e; rfl)
      have Hm := Lib.hid (List.getElem_mem hlt)
      have y1 : (k : Int) < (l.length : Int) := by omega
      generalize l[k] = s at *
      cases hv : (s == x)
      · have Hv := Lib.hid (show s ≠ x by simpa using hv)
        go_wp2_with fail
        go_round
        case rel =>
          refine ⟨k + 1, by omega, by go_num, fun j hj hjk => ?_⟩
          by_cases hje : j < k
          · exact hX.out j hj hje
          · rw [Hj.out j hj (by omega)]; exact Hv.out
        case measure => simp [intOf]; omega
      · have Hr := Lib.hid (show r = true by
          rw [← Hcr.out]
          have h1 : s = x := by simpa using hv
          rw [← h1]; exact List.contains_iff_mem.2 Hm.out)
        go_wp2_with fail
        go_ret
        exact ⟨ret_b Hr.out.symm, rfl⟩
    · have Hr := Lib.hid (show r = false by
        rw [← Hcr.out]
        rw [Bool.eq_false_iff]
        intro h
        obtain ⟨j, hj, e⟩ := List.mem_iff_getElem.1 (List.contains_iff_mem.1 h)
        exact hX.out j hj (by omega) e)
      go_wp2_with fail
      go_ret
      exact ⟨ret_b Hr.out.symm, rfl⟩
theorem shapeR_eq (v : Vw) : shapeB v = if v.kind = 2 then !v.right.toList.isEmpty && ((v.on.l.length : Int) == 0) && ((v.wh.l.length : Int) == 0) && ((v.its.l.length : Int) == 0) && ((v.ags.l.length : Int) == 0) && !v.dis
    else if (if v.kind = 0 then ((v.its.l.length : Int) == 0) || decide (0 < v.ags.l.length) else ((v.ags.l.length : Int) == 0) || v.dis) = true then false
    else (!v.right.toList.isEmpty || ((v.on.l.length : Int) == 0)) && decide ((v.on.l.length : Int) ≤ 8) && decide ((v.its.l.length : Int) + v.ags.l.length ≤ 8) := by
  rw [shapeB_eq]
  by_cases h2 : v.kind = 2
  · rw [if_pos h2, if_pos h2]
    rw [Bool.eq_iff_iff]
    simp only [Bool.and_eq_true, beq_iff_eq]
    constructor
    · rintro ⟨⟨h1, h3⟩, h4⟩
      exact ⟨⟨⟨⟨⟨h1, by omega⟩, by omega⟩, by omega⟩, by omega⟩, h4⟩
    · rintro ⟨⟨⟨⟨⟨h1, h3⟩, h5⟩, h6⟩, h7⟩, h4⟩
      exact ⟨⟨h1, by omega⟩, h4⟩
  · rw [if_neg h2, if_neg h2]
    have e1 : ((v.ags.l.length : Int) == 0) = !decide (0 < v.ags.l.length) := by rw [Bool.eq_iff_iff]; simp
    have e2 : ((v.its.l.length : Int) == 0) = !decide (0 < v.its.l.length) := by rw [Bool.eq_iff_iff]; simp
    have e3 : ((v.on.l.length : Int) == 0) = !decide (0 < v.on.l.length) := by rw [Bool.eq_iff_iff]; simp
    have e4 : decide ((v.on.l.length : Int) ≤ 8) = !decide ((8 : Int) < v.on.l.length) := by rw [Bool.eq_iff_iff]; simp
    have e5 : decide ((v.its.l.length : Int) + v.ags.l.length ≤ 8) = !decide ((8 : Int) < (v.its.l.length : Int) + v.ags.l.length) := by rw [Bool.eq_iff_iff]; simp
    rw [e1, e2, e3, e4, e5]
    generalize decide (0 < v.ags.l.length) = b1
    generalize decide (0 < v.its.l.length) = b2
    generalize decide (0 < v.on.l.length) = b3
    generalize decide ((8 : Int) < v.on.l.length) = b4
    generalize decide ((8 : Int) < (v.its.l.length : Int) + v.ags.l.length) = b5
    generalize v.right.toList.isEmpty = b6
    generalize v.dis = b7
    by_cases h0 : v.kind = 0
    · rw [if_pos h0, if_pos h0]
      cases b1 <;> cases b2 <;> cases b3 <;> cases b4 <;> cases b5 <;> cases b6 <;> rfl
    · rw [if_neg h0, if_neg h0]
      cases b1 <;> cases b3 <;> cases b4 <;> cases b5 <;> cases b6 <;> cases b7 <;> rfl
theorem rshape_any (c : Cat) (v : Vw) (w : World) (h1 : v.on.l.length ≤ 100) (h2 : v.wh.l.length ≤ 100) (h3 : v.its.l.length ≤ 100) (h4 : v.ags.l.length ≤ 100) :
    Calls Tryz.prog 100 #[c.val, v.val] w (Gives (.bool (shapeB v)) w) := by
  have Hbb := Lib.hid (fun (o p : Obj) => (al1 w o).trans ((al1 (w.alloc o) p).mono (Nat.le_of_lt (by rw [alloc_size]; exact Nat.lt_succ_self _))))
  rw [shapeR_eq]
  obtain ⟨name, kind, left, right, ⟨na, nc, nl⟩, ⟨wa, wc, wl⟩, ⟨ia, ic, il⟩, dis, ⟨ga, gc, gl⟩⟩ := v
  dsimp only [Vw.val] at *
  unfold Cat.val
  cases k2 : (kind == 2)
  · have k2' : kind ≠ 2 := by simpa using k2
    rw [if_neg k2']
    clear k2'
    cases k0 : (kind == 0)
    · have k0' : kind ≠ 0 := by simpa using k0
      rw [if_neg k0']
      clear k0'
      cases y1 : ((gl.length : Int) == 0) <;> cases dis
      · rw [if_neg (by decide)]
        cases er : right.toList.isEmpty <;> cases z1 : ((nl.length : Int) == 0) <;> cases z2 : decide ((nl.length : Int) ≤ 8) <;> cases z3 : decide ((il.length : Int) + gl.length ≤ 8)
        all_goals
          go_enter Tryz.func100, Tryz.ntmps100
          go_wp2_with fail
          go_ret
          exact ⟨rfl, Hbb.out _ _⟩
      all_goals
        rw [if_pos (by rfl)]
        go_enter Tryz.func100, Tryz.ntmps100
        go_wp2_with fail
        go_ret
        exact ⟨rfl, Hbb.out _ _⟩
    · have k0' : kind = 0 := by simpa using k0
      rw [if_pos k0']
      clear k0'
      cases y1 : ((il.length : Int) == 0) <;> cases y2 : decide (0 < gl.length)
      · rw [if_neg (by decide)]
        have g0 : gl.length = 0 := by simp at y2; simp [y2]
        have e0 : decide ((il.length : Int) + gl.length ≤ 8) = decide ((il.length : Int) ≤ 8) := by rw [g0]; simp
        rw [e0, g0]
        clear e0 g0 y2 h4
        cases er : right.toList.isEmpty <;> cases z1 : ((nl.length : Int) == 0) <;> cases z2 : decide ((nl.length : Int) ≤ 8) <;> cases z3 : decide ((il.length : Int) ≤ 8)
        all_goals
          go_enter Tryz.func100, Tryz.ntmps100
          go_wp2_with fail
          go_ret
          exact ⟨rfl, Hbb.out _ _⟩
      all_goals
        rw [if_pos (by rfl)]
        go_enter Tryz.func100, Tryz.ntmps100
        go_wp2_with fail
        go_ret
        exact ⟨rfl, Hbb.out _ _⟩
  · have k2' : kind = 2 := by simpa using k2
    rw [if_pos k2']
    clear k2'
    cases er : right.toList.isEmpty <;> cases z1 : ((nl.length : Int) == 0) <;> cases z2 : ((wl.length : Int) == 0) <;> cases z3 : ((il.length : Int) == 0) <;> cases z4 : ((gl.length : Int) == 0)
    all_goals
      go_enter Tryz.func100, Tryz.ntmps100
      go_wp2_with fail
      go_ret
      exact ⟨rfl, Hbb.out _ _⟩
end Go.Proofs.YtenonljnldbkiaaGreatDoor
/- The reference of layer 4: the owners of a column. -/
namespace Go.Proofs.YtenonljnldbkiaaGreatDoor
open Go.RowKit Go.Proofs.EB Go.Proofs.TX
set_option maxHeartbeats 4000000
set_option maxRecDepth 100000
attribute [local go_sem] World.cell?_alloc_some

/-- Owners, one after the other: what the reference asks of number k. -/
def ownR (cols : List Co) (own : List Int) (k : Nat) : Bool :=
  inB (own.getD k 0) 0 ((cols.length : Int) - 1) && (!(decide (0 < k) && decide (own.getD k 0 ≤ own.getD (k - 1) 0)) && !(emp (cols.getD (own.getD k 0).toNat Co.z).ns && emp (cols.getD (own.getD k 0).toNat Co.z).refs))
theorem ownB_all (cols : List Co) : ∀ (own : List Int) (last : Int), -1 ≤ last → (ownB cols last own = true ↔ ∀ k (h : k < own.length), (if k = 0 then last else own.getD (k - 1) 0) < own[k] ∧ own[k] < cols.length ∧ 0 ≤ own[k] ∧ (!(emp (cols.getD own[k].toNat Co.z).ns && emp (cols.getD own[k].toNat Co.z).refs)) = true)
  | [], last, _ => by simp [ownB]
  | n :: l, last, hl => by
    unfold ownB
    simp only [Bool.and_eq_true, decide_eq_true_eq]
    constructor
    · rintro ⟨⟨⟨h1, h2⟩, h3⟩, h4⟩ k hk
      have ih := (ownB_all cols l n (by omega)).1 h4
      cases k with
      | zero => exact ⟨by simpa using h1, by simpa using h2, by simp; omega, by simpa using h3⟩
      | succ k =>
        have h5 := ih k (by simpa using hk)
        refine ⟨?_, by simpa using h5.2.1, by simpa using h5.2.2.1, by simpa using h5.2.2.2⟩
        cases k with
        | zero => simpa using h5.1
        | succ k => simpa using h5.1
    · intro h
      have h0 := h 0 (by simp)
      simp only [if_true, List.getElem_cons_zero] at h0
      refine ⟨⟨⟨h0.1, h0.2.1⟩, by simpa using h0.2.2.2⟩, (ownB_all cols l n (by omega)).2 fun k hk => ?_⟩
      have h5 := h (k + 1) (by simpa using hk)
      refine ⟨?_, by simpa using h5.2.1, by simpa using h5.2.2.1, by simpa using h5.2.2.2⟩
      cases k with
      | zero => simpa using h5.1
      | succ k => simpa using h5.1
theorem ownB_ownR (cols : List Co) (own : List Int) : ownB cols (-1) own = true ↔ ∀ k, k < own.length → ownR cols own k = true := by
  rw [ownB_all cols own (-1) (by omega)]
  have hg : ∀ k (h : k < own.length), own.getD k 0 = own[k] := fun k h => by simp [List.getD_eq_getElem?_getD, h]
  constructor
  · intro h k hk
    obtain ⟨h1, h2, h3, h4⟩ := h k hk
    unfold ownR inB
    rw [hg k hk, h4]
    simp only [Bool.and_eq_true, decide_eq_true_eq, Bool.and_true, Bool.not_eq_true', Bool.and_eq_false_iff, decide_eq_false_iff_not]
    refine ⟨⟨h3, by omega⟩, ?_⟩
    by_cases hk0 : k = 0
    · exact .inl (by omega)
    · rw [if_neg hk0] at h1; exact .inr (by omega)
  · intro h k hk
    have h1 := h k hk
    unfold ownR inB at h1
    rw [hg k hk] at h1
    simp only [Bool.and_eq_true, decide_eq_true_eq] at h1
    obtain ⟨⟨h2, h3⟩, h4, h5⟩ := h1
    refine ⟨?_, by omega, h2, h5⟩
    by_cases hk0 : k = 0
    · rw [if_pos hk0]; omega
    · rw [if_neg hk0]
      simp only [Bool.not_eq_true', Bool.and_eq_false_iff, decide_eq_false_iff_not] at h4
      rcases h4 with h4 | h4 <;> omega
end Go.Proofs.YtenonljnldbkiaaGreatDoor
/- The reference of layer 4: the owners of a column, the walk. -/
namespace Go.Proofs.YtenonljnldbkiaaGreatDoor
open Go.RowKit Go.Proofs.EB Go.Proofs.TX
set_option maxHeartbeats 4000000
set_option maxRecDepth 100000
attribute [local go_sem] World.cell?_alloc_some

theorem rowners_any (t : Ta) (ht : t.cols.l.length ≤ 100) (ao : Option Addr) (cap : Nat) (own : List Int) (hl : own.length ≤ 100) (w : World) (hT : RAt encCo 7 w w.heap.size t.cols.ao t.cols.l) (hO : RAt encInt 1 w w.heap.size ao own) :
    Calls Tryz.prog 142 #[t.val, .slice ao own.length cap] w (Gives (.bool (ownB t.cols.l (-1) own)) w) := by
  have heq := ownB_ownR t.cols.l own
  obtain ⟨r, hr⟩ : ∃ r, ownB t.cols.l (-1) own = r := ⟨_, rfl⟩
  rw [hr] at heq ⊢
  obtain ⟨name, ⟨ca, cc, cl⟩, er, rt⟩ := t
  dsimp only [Ta.val] at *
  have hb1 := al1 w (.cells #[.string name, .slice ca cl.length cc, .int .i64 er, .int .i64 rt] 50)
  have hbx := alloc_new w (.cells #[.string name, .slice ca cl.length cc, .int .i64 er, .int .i64 rt] 50)
  obtain ⟨W1, hW1⟩ : ∃ W1, W1 = w.alloc (.cells #[.string name, .slice ca cl.length cc, .int .i64 er, .int .i64 rt] 50) := ⟨_, rfl⟩
  rw [← hW1] at hb1 hbx
  have HC := Lib.hid (fun (W : World) (hb : Below W1.heap.size W1 W) => (⟨box_at (i := 1) (keep_box hb hbx) rfl, hT.below (bt hb1 hb), hO.below (bt hb1 hb), bt hb1 hb⟩ : _ ∧ _ ∧ _ ∧ Below w.heap.size w W))
  have Heq := Lib.hid heq
  have HW1 := Lib.hid hW1
  have Hb1 := Lib.hid hb1
  clear hT hO hbx hb1 heq hW1 hr
  go_enter Tryz.func142, Tryz.ntmps142
  go_wp2_with fail
  rw [← HW1.out]
  go_loopw [5] (fun i wr => ∃ k : Nat, k ≤ own.length ∧ i = .int .i64 k ∧ Hid (Below W1.heap.size W1 wr ∧ ∀ j, j < k → ownR cl own j = true)) (fun i _ => own.length - (intOf i).toNat)
  case atStart => exact ⟨0, Nat.zero_le _, rfl, Below.refl _ _, fun j h => absurd h (by omega)⟩
  case round =>
    obtain ⟨k, hk, rfl, hX⟩ := hrel
    obtain ⟨hbr, hall⟩ := hX.out
    have Hall := Lib.hid hall
    have Hbr := Lib.hid hbr
    obtain ⟨x1, hTr, hOr, hPr⟩ := HC.out wr hbr
    have HPr := Lib.hid hPr
    have HT := Lib.hid hTr
    have HO := Lib.hid hOr
    clear hX hbr hall hPr hTr hOr
    by_cases hlt : k < own.length
    · obtain ⟨b, off, rfl, _⟩ := HO.out.form (by omega)
      have c0 := RAt.int HO.out hlt
      have Hck := Lib.hid (fun (j : Nat) (hj : j < own.length) => RAt.int HO.out hj)
      have hg : own.getD k 0 = own[k] := by simp [List.getD_eq_getElem?_getD, hlt]
      have Hno := Lib.hid (show ownR cl own k = false → r = false from fun h => by
        rw [← Bool.not_eq_true]; intro h2
        have := Heq.out.1 h2 k hlt
        rw [h] at this; cases this)
      have hor : ownR cl own k = (inB own[k] 0 ((cl.length : Int) - 1) && (!(decide (0 < k) && decide (own[k] ≤ own.getD (k - 1) 0)) && !(emp (cl.getD own[k].toNat Co.z).ns && emp (cl.getD own[k].toNat Co.z).refs))) := by unfold ownR; rw [hg]
      have Hor := Lib.hid hor
      clear hor hg
      generalize own[k] = n at *
      have hkl : (k : Int) < (own.length : Int) := by omega
      have hs1 : IntKind.i64.wrap ((cl.length : Int) - 1) = (cl.length : Int) - 1 := IntWalk.i64_in _ (by omega)
      have HQ := Lib.hid (fun (m : Nat) => (rwithin_any n 0 ((cl.length : Int) - 1) (wr.drewN m)).mono fun e w' ⟨h1, h2⟩ => (⟨h1, h2.symm⟩ : e = _ ∧ w' = _))
      cases i1 : inB n 0 ((cl.length : Int) - 1)
      · have Hx := Lib.hid (Hno.out (by rw [Hor.out, i1]; rfl))
        go_wp2_with fail
        go_quiet ((go_at_call 98; exact Calls.quiet_of_same (HQ.out _)))
        go_wp2_with fail
        go_ret
        exact ⟨ret_b Hx.out.symm, ⟨HPr.out.os, HPr.out.tape, HPr.out.output, HPr.out.size, HPr.out.block⟩⟩
      · obtain ⟨a, rfl, ha⟩ := inB_nat i1
        obtain ⟨b2, off2, rfl, _⟩ := HT.out.form (by omega)
        obtain ⟨_, _, c2, c3, _⟩ := RAt.co HT.out ha
        have hor := Hor.out
        rw [show cl.getD (a : Int).toNat Co.z = cl[a] by simp [List.getD_eq_getElem?_getD, ha]] at hor
        have hal : (a : Int) < (cl.length : Int) := by omega
        clear Hor
        generalize cl[a] = x at *
        have Hor := Lib.hid hor
        clear hor
        by_cases hk0 : 0 < k
        · have z2 : decide (0 < k) = true := by simpa using hk0
          obtain ⟨q, hq⟩ : ∃ q, k = q + 1 := ⟨k - 1, by omega⟩
          have hql : q < own.length := by omega
          have c5 := Hck.out q hql
          have hor := Hor.out
          rw [show own.getD (k - 1) 0 = own[q] by rw [show k - 1 = q by omega]; simp [List.getD_eq_getElem?_getD, hql], z2] at hor
          generalize own[q] = p at *
          replace Hor := Lib.hid hor
          clear hor
          have hs2 : IntKind.i64.wrap ((k : Int) - 1) = (q : Int) := by rw [IntWalk.i64_in _ (by omega)]; omega
          have hqi : (q : Int) < (own.length : Int) := by omega
          have Hq := Lib.hid hq
          clear hq
          cases z3 : decide ((a : Int) ≤ p)
          · cases f1 : x.ns.toList.isEmpty
            · have Hok := Lib.hid (show ownR cl own k = true by rw [Hor.out, i1, z3]; unfold emp; rw [f1]; rfl)
              go_wp2_with fail
              go_quiet ((go_at_call 98; exact Calls.quiet_of_same (HQ.out _)))
              go_wp2_with fail
              exact ⟨⟨k + 1, by omega, by go_num, ⟨Hbr.out.os, Hbr.out.tape, Hbr.out.output, Hbr.out.size, Hbr.out.block⟩, fun j hj => by
                by_cases hje : j < k
                · exact Hall.out j hje
                · obtain rfl : j = k := by omega
                  exact Hok.out⟩, by simp [intOf]; omega⟩
            · cases f2 : x.refs.toList.isEmpty
              · have Hok := Lib.hid (show ownR cl own k = true by rw [Hor.out, i1, z3]; unfold emp; rw [f1, f2]; rfl)
                go_wp2_with fail
                go_quiet ((go_at_call 98; exact Calls.quiet_of_same (HQ.out _)))
                go_wp2_with fail
                exact ⟨⟨k + 1, by omega, by go_num, ⟨Hbr.out.os, Hbr.out.tape, Hbr.out.output, Hbr.out.size, Hbr.out.block⟩, fun j hj => by
                  by_cases hje : j < k
                  · exact Hall.out j hje
                  · obtain rfl : j = k := by omega
                    exact Hok.out⟩, by simp [intOf]; omega⟩
              · have Hx := Lib.hid (Hno.out (by rw [Hor.out, i1, z3]; unfold emp; rw [f1, f2]; rfl))
                go_wp2_with fail
                go_quiet ((go_at_call 98; exact Calls.quiet_of_same (HQ.out _)))
                go_wp2_with fail
                go_ret
                exact ⟨ret_b Hx.out.symm, ⟨HPr.out.os, HPr.out.tape, HPr.out.output, HPr.out.size, HPr.out.block⟩⟩
          · have Hx := Lib.hid (Hno.out (by rw [Hor.out, i1, z3]; rfl))
            go_wp2_with fail
            go_quiet ((go_at_call 98; exact Calls.quiet_of_same (HQ.out _)))
            go_wp2_with fail
            go_ret
            exact ⟨ret_b Hx.out.symm, ⟨HPr.out.os, HPr.out.tape, HPr.out.output, HPr.out.size, HPr.out.block⟩⟩
        · have z2 : decide (0 < k) = false := by simpa using hk0
          cases f1 : x.ns.toList.isEmpty
          · have Hok := Lib.hid (show ownR cl own k = true by rw [Hor.out, i1, z2]; unfold emp; rw [f1]; rfl)
            go_wp2_with fail
            go_quiet ((go_at_call 98; exact Calls.quiet_of_same (HQ.out _)))
            go_wp2_with fail
            exact ⟨⟨k + 1, by omega, by go_num, ⟨Hbr.out.os, Hbr.out.tape, Hbr.out.output, Hbr.out.size, Hbr.out.block⟩, fun j hj => by
              by_cases hje : j < k
              · exact Hall.out j hje
              · obtain rfl : j = k := by omega
                exact Hok.out⟩, by simp [intOf]; omega⟩
          · cases f2 : x.refs.toList.isEmpty
            · have Hok := Lib.hid (show ownR cl own k = true by rw [Hor.out, i1, z2]; unfold emp; rw [f1, f2]; rfl)
              go_wp2_with fail
              go_quiet ((go_at_call 98; exact Calls.quiet_of_same (HQ.out _)))
              go_wp2_with fail
              exact ⟨⟨k + 1, by omega, by go_num, ⟨Hbr.out.os, Hbr.out.tape, Hbr.out.output, Hbr.out.size, Hbr.out.block⟩, fun j hj => by
                by_cases hje : j < k
                · exact Hall.out j hje
                · obtain rfl : j = k := by omega
                  exact Hok.out⟩, by simp [intOf]; omega⟩
            · have Hx := Lib.hid (Hno.out (by rw [Hor.out, i1, z2]; unfold emp; rw [f1, f2]; rfl))
              go_wp2_with fail
              go_quiet ((go_at_call 98; exact Calls.quiet_of_same (HQ.out _)))
              go_wp2_with fail
              go_ret
              exact ⟨ret_b Hx.out.symm, ⟨HPr.out.os, HPr.out.tape, HPr.out.output, HPr.out.size, HPr.out.block⟩⟩
    · have Hx := Lib.hid (show r = true from Heq.out.2 fun j hj => Hall.out j (by omega))
      go_wp2_with fail
      go_ret
      exact ⟨ret_b Hx.out.symm, HPr.out⟩
end Go.Proofs.YtenonljnldbkiaaGreatDoor
/- The reference of layer 4: a table, from what column says of its columns. -/
namespace Go.Proofs.YtenonljnldbkiaaGreatDoor
open Go.RowKit Go.Proofs.EB Go.Proofs.TX
set_option maxHeartbeats 4000000
set_option maxRecDepth 100000
attribute [local go_sem] World.cell?_alloc_some

theorem tabOkB_eq (t : Ta) : tabOkB t = (inB t.cols.l.length 1 8 && (inB t.erase 0 1 && inB t.retain 0 1048576)) := by
  have h1 : (t.erase == 0 || t.erase == 1) = inB t.erase 0 1 := by
    unfold inB
    rw [Bool.eq_iff_iff]
    simp only [Bool.or_eq_true, beq_iff_eq, Bool.and_eq_true, decide_eq_true_eq]
    omega
  unfold tabOkB
  rw [h1, Bool.and_assoc]
theorem rcheckTable_any (c : Cat) (hs : c.Sml) (n : Nat) (hn : n < c.ts.l.length) (w : World) (hcat : CatAt w w.heap.size c) (f : Nat → Int) (t : Ta) (ht : t = c.ts.l[n])
    (hcol : (inB t.cols.l.length 1 8 && (inB t.erase 0 1 && inB t.retain 0 1048576)) = true → ∀ i, i < t.cols.l.length → ∀ W, Below w.heap.size w W → Calls Tryz.prog 99 #[c.val, .int .i64 n, .int .i64 i] W (Gives (.int .i64 (f i)) W)) :
    Calls Tryz.prog 59 #[c.val, .int .i64 n] w (Gives (.int .i64 (if tabOkB t = false then 1 else firstE f 0 t.cols.l.length)) w) := by
  obtain ⟨bb, off, hao, _⟩ := hcat.ts.row.form (by omega)
  have hcc : c.cells = #[.slice (some ⟨bb, off, none⟩) c.ts.l.length c.ts.cap, .slice c.vs.ao c.vs.l.length c.vs.cap, .slice c.xs.ao c.xs.l.length c.xs.cap, .slice c.ks.ao c.ks.l.length c.ks.cap, .slice c.hs.ao c.hs.l.length c.hs.cap, .slice c.rs.ao c.rs.l.length c.rs.cap, .slice c.ms.ao c.ms.l.length c.ms.cap, .slice c.bs.ao c.bs.l.length c.bs.cap] := by unfold Cat.cells; rw [hao]
  have hv : c.val = .agg #[.slice (some ⟨bb, off, none⟩) c.ts.l.length c.ts.cap, .slice c.vs.ao c.vs.l.length c.vs.cap, .slice c.xs.ao c.xs.l.length c.xs.cap, .slice c.ks.ao c.ks.l.length c.ks.cap, .slice c.hs.ao c.hs.l.length c.hs.cap, .slice c.rs.ao c.rs.l.length c.rs.cap, .slice c.ms.ao c.ms.l.length c.ms.cap, .slice c.bs.ao c.bs.l.length c.bs.cap] := by unfold Cat.val; rw [hao]
  have hb1 := al1 w (.cells #[.slice (some ⟨bb, off, none⟩) c.ts.l.length c.ts.cap, .slice c.vs.ao c.vs.l.length c.vs.cap, .slice c.xs.ao c.xs.l.length c.xs.cap, .slice c.ks.ao c.ks.l.length c.ks.cap, .slice c.hs.ao c.hs.l.length c.hs.cap, .slice c.rs.ao c.rs.l.length c.rs.cap, .slice c.ms.ao c.ms.l.length c.ms.cap, .slice c.bs.ao c.bs.l.length c.bs.cap] 31)
  have hs1 := alloc_size w (.cells #[.slice (some ⟨bb, off, none⟩) c.ts.l.length c.ts.cap, .slice c.vs.ao c.vs.l.length c.vs.cap, .slice c.xs.ao c.xs.l.length c.xs.cap, .slice c.ks.ao c.ks.l.length c.ks.cap, .slice c.hs.ao c.hs.l.length c.hs.cap, .slice c.rs.ao c.rs.l.length c.rs.cap, .slice c.ms.ao c.ms.l.length c.ms.cap, .slice c.bs.ao c.bs.l.length c.bs.cap] 31)
  have hbx := alloc_new w (.cells #[.slice (some ⟨bb, off, none⟩) c.ts.l.length c.ts.cap, .slice c.vs.ao c.vs.l.length c.vs.cap, .slice c.xs.ao c.xs.l.length c.xs.cap, .slice c.ks.ao c.ks.l.length c.ks.cap, .slice c.hs.ao c.hs.l.length c.hs.cap, .slice c.rs.ao c.rs.l.length c.rs.cap, .slice c.ms.ao c.ms.l.length c.ms.cap, .slice c.bs.ao c.bs.l.length c.bs.cap] 31)
  have hbx' : (w.alloc (.cells #[.slice (some ⟨bb, off, none⟩) c.ts.l.length c.ts.cap, .slice c.vs.ao c.vs.l.length c.vs.cap, .slice c.xs.ao c.xs.l.length c.xs.cap, .slice c.ks.ao c.ks.l.length c.ks.cap, .slice c.hs.ao c.hs.l.length c.hs.cap, .slice c.rs.ao c.rs.l.length c.rs.cap, .slice c.ms.ao c.ms.l.length c.ms.cap, .slice c.bs.ao c.bs.l.length c.bs.cap] 31)).heap[w.heap.size]? = some (.cells c.cells 31 (0, 0)) := by rw [hcc]; exact hbx
  have hd := fun (w' : World) (hb : Below (w.heap.size + 1) (w.alloc (.cells #[.slice (some ⟨bb, off, none⟩) c.ts.l.length c.ts.cap, .slice c.vs.ao c.vs.l.length c.vs.cap, .slice c.xs.ao c.xs.l.length c.xs.cap, .slice c.ks.ao c.ks.l.length c.ks.cap, .slice c.hs.ao c.hs.l.length c.hs.cap, .slice c.rs.ao c.rs.l.length c.rs.cap, .slice c.ms.ao c.ms.l.length c.ms.cap, .slice c.bs.ao c.bs.l.length c.bs.cap] 31)) w') => boxC (c := c) ((hb.block _ (Nat.lt_succ_self _)).trans hbx')
  rw [hao] at hd
  have Hd := Lib.hid hd
  obtain ⟨d1, d2, _⟩ := Hd.out _ (by rw [← hs1]; exact Below.refl _ _)
  have hrow := hcat.ts.row.later hb1
  rw [hao] at hrow
  obtain ⟨c0, c1, c2, c3⟩ := RAt.ta hrow hn
  have hcl := hs.cols _ (List.getElem_mem hn)
  rw [← ht] at c0 c1 c2 c3 hcl
  rw [hv] at hcol ⊢
  have hnl : (n : Int) < (c.ts.l.length : Int) := by omega
  have hts := hs.ts
  rw [tabOkB_eq]
  clear ht
  obtain ⟨name, ⟨ca, cc, cl⟩, er, rt⟩ := t
  dsimp only at *
  obtain ⟨W1, hW1⟩ : ∃ W1, W1 = ((w.alloc (.cells #[.slice (some ⟨bb, off, none⟩) c.ts.l.length c.ts.cap, .slice c.vs.ao c.vs.l.length c.vs.cap, .slice c.xs.ao c.xs.l.length c.xs.cap, .slice c.ks.ao c.ks.l.length c.ks.cap, .slice c.hs.ao c.hs.l.length c.hs.cap, .slice c.rs.ao c.rs.l.length c.rs.cap, .slice c.ms.ao c.ms.l.length c.ms.cap, .slice c.bs.ao c.bs.l.length c.bs.cap] 31)).alloc (.cells #[.string name, .slice ca cl.length cc, .int .i64 er, .int .i64 rt] 50)) := ⟨_, rfl⟩
  have hP1 : Below w.heap.size w W1 := by rw [hW1]; exact hb1.trans ((al1 _ _).mono hb1.size)
  have hP2 : Below (w.heap.size + 1) (w.alloc (.cells #[.slice (some ⟨bb, off, none⟩) c.ts.l.length c.ts.cap, .slice c.vs.ao c.vs.l.length c.vs.cap, .slice c.xs.ao c.xs.l.length c.xs.cap, .slice c.ks.ao c.ks.l.length c.ks.cap, .slice c.hs.ao c.hs.l.length c.hs.cap, .slice c.rs.ao c.rs.l.length c.rs.cap, .slice c.ms.ao c.ms.l.length c.ms.cap, .slice c.bs.ao c.bs.l.length c.bs.cap] 31)) W1 := by rw [hW1, ← hs1]; exact al1 _ _
  have hN1 : W1.heap[w.heap.size + 1]? = some (.cells #[.string name, .slice ca cl.length cc, .int .i64 er, .int .i64 rt] 50 (0, 0)) := by rw [hW1, ← hs1]; exact alloc_new _ _
  have hS1 : W1.heap.size = w.heap.size + 2 := by rw [hW1, alloc_size, hs1]
  have HW := Lib.hid (fun (W : World) (hb : Below W1.heap.size W1 W) => (⟨box_at (i := 1) (keep_box hb hN1) rfl, box_at (i := 2) (keep_box hb hN1) rfl, box_at (i := 3) (keep_box hb hN1) rfl, Hd.out W (hP2.trans (hb.mono (by omega))), hP1.trans (hb.mono (by omega))⟩ : _ ∧ _ ∧ _ ∧ _ ∧ Below w.heap.size w W))
  obtain ⟨r, hr⟩ : ∃ r, r = (if (inB (cl.length : Int) 1 8 && (inB er 0 1 && inB rt 0 1048576)) = false then (1 : Int) else firstE f 0 cl.length) := ⟨_, rfl⟩
  rw [← hr]
  have Hr := Lib.hid hr
  have HC := Lib.hid hcol
  have HW1 := Lib.hid hW1
  have HP := Lib.hid hP1
  clear hr hcol hW1 hP1 hP2 hN1 hS1 hb1 hs1 hbx hbx' hd hcc hv hao hs hcat hrow
  go_enter Tryz.func59, Tryz.ntmps59
  go_wp2_with fail
  rw [← HW1.out]
  obtain ⟨x1, x2, x3, ⟨g1, g2, g3, g4, g5, g6, g7, g8⟩, _⟩ := HW.out W1 (Below.refl _ _)
  refine (rwithin_any _ _ _ _).mono ?_
  rintro e w3 ⟨rfl, rfl⟩
  cases i1 : inB (cl.length : Int) 1 8
  · have Hx := Lib.hid (show r = 1 by rw [Hr.out, i1]; rfl)
    go_wp2_with fail
    go_ret
    exact ⟨ret_i Hx.out.symm, HP.out⟩
  · go_wp2_with fail
    refine (rwithin_any _ _ _ _).mono ?_
    rintro e w3 ⟨rfl, rfl⟩
    cases i2 : inB er 0 1
    · have Hx := Lib.hid (show r = 1 by rw [Hr.out, i1, i2]; rfl)
      go_wp2_with fail
      go_ret
      exact ⟨ret_i Hx.out.symm, HP.out⟩
    · go_wp2_with fail
      refine (rwithin_any _ _ _ _).mono ?_
      rintro e w3 ⟨rfl, rfl⟩
      cases i3 : inB rt 0 1048576
      · have Hx := Lib.hid (show r = 1 by rw [Hr.out, i1, i2, i3]; rfl)
        go_wp2_with fail
        go_ret
        exact ⟨ret_i Hx.out.symm, HP.out⟩
      · have HC2 := Lib.hid (HC.out (by rw [i1, i2, i3]; rfl))
        have Hr2 := Lib.hid (show r = firstE f 0 cl.length by rw [Hr.out, i1, i2, i3]; rfl)
        clear i1 i2 i3
        go_wp2_with fail
        go_loopw [6] (fun i wr => ∃ k : Nat, k ≤ cl.length ∧ i = .int .i64 k ∧ Hid (Below W1.heap.size W1 wr ∧ ∀ j, 0 ≤ j → j < k → f j = 0)) (fun i _ => cl.length - (intOf i).toNat)
        case atStart => exact ⟨0, Nat.zero_le _, rfl, Below.refl _ _, fun j _ h => absurd h (by omega)⟩
        case round =>
          obtain ⟨k, hk, rfl, hX⟩ := hrel
          obtain ⟨hbr, hall⟩ := hX.out
          have Hall := Lib.hid hall
          have Hbr := Lib.hid hbr
          obtain ⟨y1, y2, y3, ⟨e1, e2, e3, e4, e5, e6, e7, e8⟩, hPr⟩ := HW.out wr hbr
          have HPr := Lib.hid hPr
          clear hX hbr hall hPr
          by_cases hlt : k < cl.length
          · have hc := HC2.out k hlt wr HPr.out
            obtain ⟨z, hz⟩ : ∃ z, f k = z := ⟨_, rfl⟩
            rw [hz] at hc
            have Hc := Lib.hid hc
            have Hz := Lib.hid hz
            have hkl : (k : Int) < (cl.length : Int) := by omega
            clear hc hz
            by_cases hz0 : z = 0
            · subst hz0
              go_wp2_with fail
              refine Hc.out.mono ?_
              rintro e w5 ⟨rfl, hb5⟩
              have H5 := Lib.hid (Hbr.out.trans (hb5.mono Hbr.out.size))
              clear hb5
              go_wp2_with fail
              exact ⟨⟨k + 1, by omega, by go_num, H5.out, fun j h hj => by
                by_cases hje : j < k
                · exact Hall.out j h hje
                · obtain rfl : j = k := by omega
                  exact Hz.out⟩, by simp [intOf]; omega⟩
            · have Hx := Lib.hid (show r = z by rw [Hr2.out, firstE_at cl.length 0 k (by omega) (by omega) (fun j h hj => Hall.out j h hj) (by rw [Hz.out]; exact hz0), Hz.out])
              have z1 : (z != 0) = true := by rw [bne_iff_ne]; exact hz0
              clear hz0
              go_wp2_with fail
              refine Hc.out.mono ?_
              rintro e w5 ⟨rfl, hb5⟩
              have H5 := Lib.hid (bt HPr.out hb5)
              clear hb5
              go_wp2_with fail
              go_ret
              exact ⟨ret_i Hx.out.symm, H5.out⟩
          · have Hx := Lib.hid (show r = 0 by rw [Hr2.out]; exact (firstE_zero _ _).2 fun j h hj => Hall.out j h (by omega))
            go_wp2_with fail
            go_ret
            exact ⟨ret_i Hx.out.symm, HPr.out⟩
end Go.Proofs.YtenonljnldbkiaaGreatDoor
/- The reference of layer 4: the error of a column in the order of the reference (plain). -/
namespace Go.Proofs.YtenonljnldbkiaaGreatDoor
open Go.RowKit Go.Proofs.EB Go.Proofs.TX
set_option maxHeartbeats 4000000

theorem nameE_eq (x : ByteArray) (l : List ByteArray) : nameE x l = if nmB x = false then 3 else if anyB x l = true then 4 else 0 := rfl
/-- The first two tests of a column. -/
def colN (x : Co) : Bool := nmB x.name && (emp x.ns || nmB x.ns)
/-- The parts of a column fit together, in the order of the reference. -/
def colR (t : Ta) (x : Co) (i : Nat) (kp : Bool) : Bool :=
  !(!emp x.ns && !emp x.refs) && (ownB t.cols.l (-1) x.own.l && (inB x.joint 0 1 && (!(decide (x.own.l = []) && (x.joint != 0 || x.duty != 0)))))
    && (inB x.duty 0 1048576 && (!(t.retain != 0 && decide (t.retain < x.duty)) && !(decide (i = 0) && (!decide (x.own.l = []) && t.erase != 1))))
    && !(kp && !x.own.l.contains (i : Int))
theorem colB_colR (t : Ta) (x : Co) (i : Nat) (kp : Bool) (hr : 0 ≤ t.retain) : (colB t x i = false ∨ (kp = true ∧ x.own.l.contains (i : Int) = false)) ↔ colR t x i kp = false := by
  have h1 : (x.joint == 0 || x.joint == 1) = inB x.joint 0 1 := by
    unfold inB
    rw [Bool.eq_iff_iff]
    simp only [Bool.or_eq_true, beq_iff_eq, Bool.and_eq_true, decide_eq_true_eq]
    omega
  have h2 : dutyB x.duty t.retain = (inB x.duty 0 1048576 && !(t.retain != 0 && decide (t.retain < x.duty))) := by
    unfold dutyB
    congr 1
    by_cases h : t.retain = 0 <;> by_cases g : x.duty ≤ t.retain
    · simp [h]
    · simp [h]
    · have g2 : ¬ t.retain < x.duty := by omega
      simp [g, g2]
    · have g2 : t.retain < x.duty := by omega
      simp [g, g2]
      cases h5 : (t.retain == 0) <;> simp_all
  have h3 : (decide (i ≠ 0) || t.erase == 1) = !(decide (i = 0) && t.erase != 1) := by
    by_cases h : i = 0 <;> cases g : (t.erase == 1) <;> simp [h, bne, g]
  unfold colB colR
  rw [h1, h2, h3]
  cases e1 : emp x.ns <;> cases e2 : emp x.refs
  · simp
  all_goals
    by_cases ho : x.own.l = []
    · rw [ho]
      have h4 : (t.retain != 0 && decide (t.retain < x.duty)) = true → x.duty ≠ 0 := by
        simp only [Bool.and_eq_true, bne_iff_ne, decide_eq_true_eq]; omega
      by_cases hd : x.duty = 0
      · have h5 : (t.retain != 0 && decide (t.retain < x.duty)) = false := by
          rw [Bool.eq_false_iff]; exact fun h => h4 h hd
        rw [h5, hd]
        by_cases hj : x.joint = 0
        · rw [hj]; cases kp <;> simp [ownB, inB]
        · have h6 : (x.joint == 0) = false := beq_eq_false_iff_ne.2 hj
          simp [h6, hj, ownB]
      · have h6 : (x.duty == 0) = false := beq_eq_false_iff_ne.2 hd
        have h7 : (x.duty != 0) = true := bne_iff_ne.2 hd
        simp [h6, h7, ownB]
    · simp only [ho, decide_false, Bool.not_false, Bool.true_and, Bool.false_and, Bool.and_true, and_self, and_false, false_and, if_false, Bool.true_eq_false]
      cases ownB t.cols.l (-1) x.own.l <;> cases inB x.joint 0 1 <;> cases inB x.duty 0 1048576 <;> cases (t.retain != 0 && decide (t.retain < x.duty)) <;> cases (decide (i = 0) && t.erase != 1) <;> cases kp <;> cases x.own.l.contains (i : Int) <;> simp
/-- What a column's error is, case by case. -/
theorem colE_cases (pre : List Ta) (t : Ta) (i : Nat) (x : Co) (hx : t.cols.l.getD i Co.z = x) (hr : 0 ≤ t.retain) (k : Int) (hk : idx x.refs (pre.map (·.name)) = k) (kc : Co) (hkc : (pre.getD k.toNat Ta.z).cols.l.getD 0 Co.z = kc) :
    colE pre t i = if colN x = false then 3 else if anyB x.name ((t.cols.l.take i).map (·.name)) = true then 4
      else if (!emp x.refs && decide (k < 0)) = true then 7
      else if (!inB x.ty 1 2 || (!emp x.refs && kc.ty != x.ty)) = true then 5
      else if colR t x i (!emp x.refs && !decide (kc.own.l = [])) = false then 1 else 0 := by
  unfold colE
  simp only [hx]
  unfold colN
  by_cases h1 : emp x.ns = false ∧ nmB x.ns = false
  · rw [if_pos h1, h1.1, h1.2]; simp
  · rw [if_neg h1]
    have h2 : (emp x.ns || nmB x.ns) = true := by
      cases e1 : emp x.ns
      · cases e2 : nmB x.ns
        · exact absurd ⟨e1, e2⟩ h1
        · rfl
      · rfl
    rw [h2, Bool.and_true, nameE_eq]
    cases e3 : nmB x.name
    · simp
    · cases e4 : anyB x.name ((t.cols.l.take i).map (·.name))
      · have hty : (x.ty ≠ 1 ∧ x.ty ≠ 2) ↔ inB x.ty 1 2 = false := by
          unfold inB
          rw [Bool.and_eq_false_iff, decide_eq_false_iff_not, decide_eq_false_iff_not]
          omega
        simp only [Bool.true_eq_false, if_false, Bool.false_eq_true, ne_eq, not_true_eq_false]
        unfold keyE
        cases e5 : emp x.refs
        · simp only [Bool.false_eq_true, if_false, Bool.not_false, Bool.true_and, hk, hkc]
          by_cases h6 : k < 0
          · simp [h6]
          · simp only [h6, if_false, decide_false, Bool.false_eq_true]
            have h7 : ((x.ty ≠ 1 ∧ x.ty ≠ 2) ∨ x.ty ≠ kc.ty) ↔ (!inB x.ty 1 2 || kc.ty != x.ty) = true := by
              rw [hty, Bool.or_eq_true, Bool.not_eq_true', bne_iff_ne]
              constructor <;> rintro (h | h)
              · exact .inl h
              · exact .inr (Ne.symm h)
              · exact .inl h
              · exact .inr (Ne.symm h)
            have h8 : (!kc.own.l.isEmpty) = !decide (kc.own.l = []) := by cases kc.own.l <;> simp
            rw [h8]
            by_cases h9 : (!inB x.ty 1 2 || kc.ty != x.ty) = true
            · rw [if_pos (h7.2 h9), if_pos h9]
            · rw [if_neg (fun h => h9 (h7.1 h)), if_neg h9]
              by_cases h10 : colR t x i (!decide (kc.own.l = [])) = false
              · rw [if_pos ((colB_colR t x i _ hr).2 h10), if_pos h10]
              · rw [if_neg (fun h => h10 ((colB_colR t x i _ hr).1 h)), if_neg h10]
        · simp only [if_true, Bool.not_true, Bool.false_and, Bool.false_eq_true, if_false, Bool.or_false]
          have h7 : (¬x.ty = 1 ∧ ¬x.ty = 2 ∨ ¬True) ↔ (!inB x.ty 1 2) = true := by rw [Bool.not_eq_true', ← hty]; simp
          by_cases h9 : (!inB x.ty 1 2) = true
          · rw [if_pos (h7.2 h9), if_pos h9]
          · rw [if_neg (fun h => h9 (h7.1 h)), if_neg h9]
            have h11 : (colB t x i = false ∨ False ∧ x.own.l.contains (i : Int) = false) ↔ colR t x i false = false := by rw [← colB_colR t x i false hr]; simp
            by_cases h10 : colR t x i false = false
            · rw [if_pos (h11.2 h10), if_pos h10]
            · rw [if_neg (fun h => h10 (h11.1 h)), if_neg h10]
      · simp
end Go.Proofs.YtenonljnldbkiaaGreatDoor
