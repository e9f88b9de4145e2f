/- The reference of layer 4: the owners of a column, the walk. -/
import Derived.Test.YtjnhighilmchaaaGreatDoorDm
import Derived.BigQuiet
namespace Go.Proofs.YtjnhighilmchaaaGreatDoor
open Go.RowKit Go.Proofs.EB Go.Proofs.TX
set_option maxHeartbeats 4000000
set_option maxRecDepth 100000
attribute [local go_sem] World.cell?_alloc_some

theorem rowners_any (t : Ta) (ht : t.cols.l.length ≤ 100) (ao : Option Addr) (cap : Nat) (own : List Int) (hl : own.length ≤ 100) (w : World) (hT : RAt encCo 7 w w.heap.size t.cols.ao t.cols.l) (hO : RAt encInt 1 w w.heap.size ao own) :
    Calls Tryz.prog 143 #[t.val, .slice ao own.length cap] w (Gives (.bool (ownB t.cols.l (-1) own)) w) := by
  have heq := ownB_ownR t.cols.l own
  obtain ⟨r, hr⟩ : ∃ r, ownB t.cols.l (-1) own = r := ⟨_, rfl⟩
  rw [hr] at heq ⊢
  obtain ⟨name, ⟨ca, cc, cl⟩, er, rt⟩ := t
  dsimp only [Ta.val] at *
  have hb1 := al1 w (.cells #[.string name, .slice ca cl.length cc, .int .i64 er, .int .i64 rt] 42)
  have hbx := alloc_new w (.cells #[.string name, .slice ca cl.length cc, .int .i64 er, .int .i64 rt] 42)
  obtain ⟨W1, hW1⟩ : ∃ W1, W1 = w.alloc (.cells #[.string name, .slice ca cl.length cc, .int .i64 er, .int .i64 rt] 42) := ⟨_, rfl⟩
  rw [← hW1] at hb1 hbx
  have HC := Lib.hid (fun (W : World) (hb : Below W1.heap.size W1 W) => (⟨box_at (i := 1) (keep_box hb hbx) rfl, hT.below (bt hb1 hb), hO.below (bt hb1 hb), bt hb1 hb⟩ : _ ∧ _ ∧ _ ∧ Below w.heap.size w W))
  have Heq := Lib.hid heq
  have HW1 := Lib.hid hW1
  have Hb1 := Lib.hid hb1
  clear hT hO hbx hb1 heq hW1 hr
  go_enter Tryz.func143, Tryz.ntmps143
  go_wp2_with fail
  rw [← HW1.out]
  go_loopw [5] (fun i wr => ∃ k : Nat, k ≤ own.length ∧ i = .int .i64 k ∧ Hid (Below W1.heap.size W1 wr ∧ ∀ j, j < k → ownR cl own j = true)) (fun i _ => own.length - (intOf i).toNat)
  case atStart => exact ⟨0, Nat.zero_le _, rfl, Below.refl _ _, fun j h => absurd h (by omega)⟩
  case round =>
    obtain ⟨k, hk, rfl, hX⟩ := hrel
    obtain ⟨hbr, hall⟩ := hX.out
    have Hall := Lib.hid hall
    have Hbr := Lib.hid hbr
    obtain ⟨x1, hTr, hOr, hPr⟩ := HC.out wr hbr
    have HPr := Lib.hid hPr
    have HT := Lib.hid hTr
    have HO := Lib.hid hOr
    clear hX hbr hall hPr hTr hOr
    by_cases hlt : k < own.length
    · obtain ⟨b, off, rfl, _⟩ := HO.out.form (by omega)
      have c0 := RAt.int HO.out hlt
      have Hck := Lib.hid (fun (j : Nat) (hj : j < own.length) => RAt.int HO.out hj)
      have hg : own.getD k 0 = own[k] := by simp [List.getD_eq_getElem?_getD, hlt]
      have Hno := Lib.hid (show ownR cl own k = false → r = false from fun h => by
        rw [← Bool.not_eq_true]; intro h2
        have := Heq.out.1 h2 k hlt
        rw [h] at this; cases this)
      have hor : ownR cl own k = (inB own[k] 0 ((cl.length : Int) - 1) && (!(decide (0 < k) && decide (own[k] ≤ own.getD (k - 1) 0)) && !(emp (cl.getD own[k].toNat Co.z).ns && emp (cl.getD own[k].toNat Co.z).refs))) := by unfold ownR; rw [hg]
      have Hor := Lib.hid hor
      clear hor hg
      generalize own[k] = n at *
      have hkl : (k : Int) < (own.length : Int) := by omega
      have hs1 : IntKind.i64.wrap ((cl.length : Int) - 1) = (cl.length : Int) - 1 := IntWalk.i64_in _ (by omega)
      have HQ := Lib.hid (fun (m : Nat) => (rwithin_any n 0 ((cl.length : Int) - 1) (wr.drewN m)).mono fun e w' ⟨h1, h2⟩ => (⟨h1, h2.symm⟩ : e = _ ∧ w' = _))
      cases i1 : inB n 0 ((cl.length : Int) - 1)
      · have Hx := Lib.hid (Hno.out (by rw [Hor.out, i1]; rfl))
        go_wp2_with fail
        go_quiet ((go_at_call 99; exact Calls.quiet_of_same (HQ.out _)))
        go_wp2_with fail
        go_ret
        exact ⟨ret_b Hx.out.symm, ⟨HPr.out.os, HPr.out.tape, HPr.out.output, HPr.out.size, HPr.out.block⟩⟩
      · obtain ⟨a, rfl, ha⟩ := inB_nat i1
        obtain ⟨b2, off2, rfl, _⟩ := HT.out.form (by omega)
        obtain ⟨_, _, c2, c3, _⟩ := RAt.co HT.out ha
        have hor := Hor.out
        rw [show cl.getD (a : Int).toNat Co.z = cl[a] by simp [List.getD_eq_getElem?_getD, ha]] at hor
        have hal : (a : Int) < (cl.length : Int) := by omega
        clear Hor
        generalize cl[a] = x at *
        have Hor := Lib.hid hor
        clear hor
        by_cases hk0 : 0 < k
        · have z2 : decide (0 < k) = true := by simpa using hk0
          obtain ⟨q, hq⟩ : ∃ q, k = q + 1 := ⟨k - 1, by omega⟩
          have hql : q < own.length := by omega
          have c5 := Hck.out q hql
          have hor := Hor.out
          rw [show own.getD (k - 1) 0 = own[q] by rw [show k - 1 = q by omega]; simp [List.getD_eq_getElem?_getD, hql], z2] at hor
          generalize own[q] = p at *
          replace Hor := Lib.hid hor
          clear hor
          have hs2 : IntKind.i64.wrap ((k : Int) - 1) = (q : Int) := by rw [IntWalk.i64_in _ (by omega)]; omega
          have hqi : (q : Int) < (own.length : Int) := by omega
          have Hq := Lib.hid hq
          clear hq
          cases z3 : decide ((a : Int) ≤ p)
          · cases f1 : x.ns.toList.isEmpty
            · have Hok := Lib.hid (show ownR cl own k = true by rw [Hor.out, i1, z3]; unfold emp; rw [f1]; rfl)
              go_wp2_with fail
              go_quiet ((go_at_call 99; exact Calls.quiet_of_same (HQ.out _)))
              go_wp2_with fail
              exact ⟨⟨k + 1, by omega, by go_num, ⟨Hbr.out.os, Hbr.out.tape, Hbr.out.output, Hbr.out.size, Hbr.out.block⟩, fun j hj => by
                by_cases hje : j < k
                · exact Hall.out j hje
                · obtain rfl : j = k := by omega
                  exact Hok.out⟩, by simp [intOf]; omega⟩
            · cases f2 : x.refs.toList.isEmpty
              · have Hok := Lib.hid (show ownR cl own k = true by rw [Hor.out, i1, z3]; unfold emp; rw [f1, f2]; rfl)
                go_wp2_with fail
                go_quiet ((go_at_call 99; exact Calls.quiet_of_same (HQ.out _)))
                go_wp2_with fail
                exact ⟨⟨k + 1, by omega, by go_num, ⟨Hbr.out.os, Hbr.out.tape, Hbr.out.output, Hbr.out.size, Hbr.out.block⟩, fun j hj => by
                  by_cases hje : j < k
                  · exact Hall.out j hje
                  · obtain rfl : j = k := by omega
                    exact Hok.out⟩, by simp [intOf]; omega⟩
              · have Hx := Lib.hid (Hno.out (by rw [Hor.out, i1, z3]; unfold emp; rw [f1, f2]; rfl))
                go_wp2_with fail
                go_quiet ((go_at_call 99; exact Calls.quiet_of_same (HQ.out _)))
                go_wp2_with fail
                go_ret
                exact ⟨ret_b Hx.out.symm, ⟨HPr.out.os, HPr.out.tape, HPr.out.output, HPr.out.size, HPr.out.block⟩⟩
          · have Hx := Lib.hid (Hno.out (by rw [Hor.out, i1, z3]; rfl))
            go_wp2_with fail
            go_quiet ((go_at_call 99; exact Calls.quiet_of_same (HQ.out _)))
            go_wp2_with fail
            go_ret
            exact ⟨ret_b Hx.out.symm, ⟨HPr.out.os, HPr.out.tape, HPr.out.output, HPr.out.size, HPr.out.block⟩⟩
        · have z2 : decide (0 < k) = false := by simpa using hk0
          cases f1 : x.ns.toList.isEmpty
          · have Hok := Lib.hid (show ownR cl own k = true by rw [Hor.out, i1, z2]; unfold emp; rw [f1]; rfl)
            go_wp2_with fail
            go_quiet ((go_at_call 99; exact Calls.quiet_of_same (HQ.out _)))
            go_wp2_with fail
            exact ⟨⟨k + 1, by omega, by go_num, ⟨Hbr.out.os, Hbr.out.tape, Hbr.out.output, Hbr.out.size, Hbr.out.block⟩, fun j hj => by
              by_cases hje : j < k
              · exact Hall.out j hje
              · obtain rfl : j = k := by omega
                exact Hok.out⟩, by simp [intOf]; omega⟩
          · cases f2 : x.refs.toList.isEmpty
            · have Hok := Lib.hid (show ownR cl own k = true by rw [Hor.out, i1, z2]; unfold emp; rw [f1, f2]; rfl)
              go_wp2_with fail
              go_quiet ((go_at_call 99; exact Calls.quiet_of_same (HQ.out _)))
              go_wp2_with fail
              exact ⟨⟨k + 1, by omega, by go_num, ⟨Hbr.out.os, Hbr.out.tape, Hbr.out.output, Hbr.out.size, Hbr.out.block⟩, fun j hj => by
                by_cases hje : j < k
                · exact Hall.out j hje
                · obtain rfl : j = k := by omega
                  exact Hok.out⟩, by simp [intOf]; omega⟩
            · have Hx := Lib.hid (Hno.out (by rw [Hor.out, i1, z2]; unfold emp; rw [f1, f2]; rfl))
              go_wp2_with fail
              go_quiet ((go_at_call 99; exact Calls.quiet_of_same (HQ.out _)))
              go_wp2_with fail
              go_ret
              exact ⟨ret_b Hx.out.symm, ⟨HPr.out.os, HPr.out.tape, HPr.out.output, HPr.out.size, HPr.out.block⟩⟩
    · have Hx := Lib.hid (show r = true from Heq.out.2 fun j hj => Hall.out j (by omega))
      go_wp2_with fail
      go_ret
      exact ⟨ret_b Hx.out.symm, HPr.out⟩
end Go.Proofs.YtjnhighilmchaaaGreatDoor
