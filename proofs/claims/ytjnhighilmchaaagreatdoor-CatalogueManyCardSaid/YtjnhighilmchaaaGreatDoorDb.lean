/- The reference of layer 4: find, table, has, same. -/
import Derived.Test.YtjnhighilmchaaaGreatDoorDa
namespace Go.Proofs.YtjnhighilmchaaaGreatDoor
open Go.RowKit Go.Proofs.EB Go.Proofs.TX
set_option maxHeartbeats 4000000
set_option maxRecDepth 100000
attribute [local go_sem] World.cell?_alloc_some

/-- m is n, but from 0 to k. -/
def Clip (n : Int) (k m : Nat) : Prop := m ≤ k ∧ ((m : Int) = n ∨ (m = k ∧ (m : Int) ≤ n) ∨ (m = 0 ∧ n ≤ 0))
theorem rfind_any (c : Cat) (hs : c.Sml) (x : ByteArray) (n : Int) (m : Nat) (hm : Clip n c.nS m) (w : World) (hcat : CatAt w w.heap.size c) : Calls Tryz.prog 63 #[c.val, .string x, .int .i64 n] w (Gives (.int .i64 (idx x (c.names.take m))) w) := by
  have hb1 := al1 w (.cells #[.slice c.ts.ao c.ts.l.length c.ts.cap, .slice c.vs.ao c.vs.l.length c.vs.cap, .slice c.xs.ao c.xs.l.length c.xs.cap, .slice c.ks.ao c.ks.l.length c.ks.cap, .slice c.hs.ao c.hs.l.length c.hs.cap, .slice c.rs.ao c.rs.l.length c.rs.cap, .slice c.ms.ao c.ms.l.length c.ms.cap, .slice c.bs.ao c.bs.l.length c.bs.cap] 31)
  have hs1 := alloc_size w (.cells #[.slice c.ts.ao c.ts.l.length c.ts.cap, .slice c.vs.ao c.vs.l.length c.vs.cap, .slice c.xs.ao c.xs.l.length c.xs.cap, .slice c.ks.ao c.ks.l.length c.ks.cap, .slice c.hs.ao c.hs.l.length c.hs.cap, .slice c.rs.ao c.rs.l.length c.rs.cap, .slice c.ms.ao c.ms.l.length c.ms.cap, .slice c.bs.ao c.bs.l.length c.bs.cap] 31)
  have hbx := alloc_new w (.cells #[.slice c.ts.ao c.ts.l.length c.ts.cap, .slice c.vs.ao c.vs.l.length c.vs.cap, .slice c.xs.ao c.xs.l.length c.xs.cap, .slice c.ks.ao c.ks.l.length c.ks.cap, .slice c.hs.ao c.hs.l.length c.hs.cap, .slice c.rs.ao c.rs.l.length c.rs.cap, .slice c.ms.ao c.ms.l.length c.ms.cap, .slice c.bs.ao c.bs.l.length c.bs.cap] 31)
  have Hd := Lib.hid (fun (w' : World) (hb : Below (w.heap.size + 1) (w.alloc (.cells #[.slice c.ts.ao c.ts.l.length c.ts.cap, .slice c.vs.ao c.vs.l.length c.vs.cap, .slice c.xs.ao c.xs.l.length c.xs.cap, .slice c.ks.ao c.ks.l.length c.ks.cap, .slice c.hs.ao c.hs.l.length c.hs.cap, .slice c.rs.ao c.rs.l.length c.rs.cap, .slice c.ms.ao c.ms.l.length c.ms.cap, .slice c.bs.ao c.bs.l.length c.bs.cap] 31)) w') => boxC (c := c) ((hb.block _ (Nat.lt_succ_self _)).trans hbx))
  have HN := Lib.hid (rnames_any c hs (w.alloc (.cells #[.slice c.ts.ao c.ts.l.length c.ts.cap, .slice c.vs.ao c.vs.l.length c.vs.cap, .slice c.xs.ao c.xs.l.length c.xs.cap, .slice c.ks.ao c.ks.l.length c.ks.cap, .slice c.hs.ao c.hs.l.length c.hs.cap, .slice c.rs.ao c.rs.l.length c.rs.cap, .slice c.ms.ao c.ms.l.length c.ms.cap, .slice c.bs.ao c.bs.l.length c.bs.cap] 31)) (hcat.later hb1))
  have Hb1 := Lib.hid hb1
  have Hs1 := Lib.hid hs1
  have hln : m ≤ c.names.length ∧ c.names.length ≤ 1000 := by
    have h1 := c.names_len
    have h2 := hm.1
    obtain ⟨e1, _, _, e2, _, _, _, _, e3, e4, e5, e6, e7, e8, _⟩ := hs
    unfold Cat.nS at h1 h2
    omega
  obtain ⟨hln1, hln2⟩ := hln
  obtain ⟨nms, hnms⟩ : ∃ nms, c.names = nms := ⟨_, rfl⟩
  have hm' : m ≤ c.ts.l.length + c.vs.l.length ∧ ((m : Int) = n ∨ (m = c.ts.l.length + c.vs.l.length ∧ (m : Int) ≤ n) ∨ (m = 0 ∧ n ≤ 0)) := hm
  have ht := hs.ts
  have hv := hs.vs
  rw [hnms] at HN hln1 hln2 ⊢
  have Hm := Lib.hid hm'
  clear hb1 hs1 hbx hs hcat hnms hm hm'
  unfold Cat.val at *
  go_enter Tryz.func63, Tryz.ntmps63
  go_wp2_with fail
  refine HN.out.mono ?_
  rintro e w2 ⟨ao, cap, rfl, hR, _, hcap, _, hb2, _⟩
  obtain ⟨d1, d2, _⟩ := Hd.out w2 (by have h1 := hb2; rw [Hs1.out] at h1; exact h1)
  have HR := Lib.hid hR
  have Hb := Lib.hid (bt Hb1.out hb2)
  clear hR hb2
  go_wp2_with fail
  go_loop [8] (fun i => ∃ k : Nat, k ≤ m ∧ i = .int .i64 k ∧ Hid (∀ j (h : j < nms.length), j < k → seq nms[j] x = false)) (fun i => m - (intOf i).toNat)
  case atStart => exact ⟨0, Nat.zero_le _, rfl, fun j _ h => absurd h (by omega)⟩
  case round =>
    obtain ⟨k, hk, rfl, hX⟩ := hrel
    by_cases hlt : k < m
    · obtain ⟨b, off, rfl, _⟩ := HR.out.form (by omega)
      have hkn : k < nms.length := by omega
      have c0 := RAt.str' HR.out hkn
      have hS := Lib.hid (show seq nms[k] x = true → idx x (nms.take m) = k from fun h => by rw [idx_take, idx_eq hkn h hX.out, if_pos (by omega)])
      have Hj := Lib.hid (show ∀ j (h : j < nms.length), j = k → nms[j] = nms[k] from fun j h e => by subst e; rfl)
      generalize nms[k] = s at *
      have z1 : (k : Int) < n := by have := Hm.out; omega
      have z2 : (k : Int) < (c.ts.l.length : Int) + (c.vs.l.length : Int) := by have := Hm.out; omega
      have z3 : (k : Int) < (nms.length : Int) := by omega
      cases hv : seq s x
      · have z4 : (s.toList == x.toList) = false := hv
        have Hv := Lib.hid hv
        clear hv
        go_wp2_with fail
        go_round
        case rel =>
          refine ⟨k + 1, by omega, by go_num, fun j hj hjk => ?_⟩
          by_cases hje : j < k
          · exact hX.out j hj hje
          · rw [Hj.out j hj (by omega)]; exact Hv.out
        case measure => simp [intOf]; omega
      · have z4 : (s.toList == x.toList) = true := hv
        have Hr := Lib.hid (hS.out hv)
        clear hv hS
        go_wp2_with fail
        go_ret
        exact ⟨ret_i Hr.out.symm, Hb.out⟩
    · obtain rfl : k = m := by omega
      have Hr := Lib.hid (show idx x (nms.take k) = -1 from idx_none fun y hy => by
        obtain ⟨j, hj, rfl⟩ := List.mem_iff_getElem.1 hy
        rw [List.length_take] at hj
        rw [List.getElem_take]
        exact hX.out j (by omega) (by omega))
      by_cases z1 : (k : Int) < n
      · have z2 : ¬ ((k : Int) < (c.ts.l.length : Int) + (c.vs.l.length : Int)) := by have := Hm.out; omega
        go_wp2_with fail
        go_ret
        exact ⟨ret_i Hr.out.symm, Hb.out⟩
      · go_wp2_with fail
        go_ret
        exact ⟨ret_i Hr.out.symm, Hb.out⟩
theorem rtable_any (c : Cat) (hs : c.Sml) (x : ByteArray) (n : Nat) (hn : n ≤ c.ts.l.length) (w : World) (hcat : CatAt w w.heap.size c) : Calls Tryz.prog 110 #[c.val, .string x, .int .i64 n] w (Gives (.int .i64 (idx x (c.names.take n))) w) := by
  have hb1 := al1 w (.cells #[.slice c.ts.ao c.ts.l.length c.ts.cap, .slice c.vs.ao c.vs.l.length c.vs.cap, .slice c.xs.ao c.xs.l.length c.xs.cap, .slice c.ks.ao c.ks.l.length c.ks.cap, .slice c.hs.ao c.hs.l.length c.hs.cap, .slice c.rs.ao c.rs.l.length c.rs.cap, .slice c.ms.ao c.ms.l.length c.ms.cap, .slice c.bs.ao c.bs.l.length c.bs.cap] 31)
  have hF := rfind_any c hs x n n ⟨by unfold Cat.nS; omega, .inl rfl⟩ (w.alloc (.cells #[.slice c.ts.ao c.ts.l.length c.ts.cap, .slice c.vs.ao c.vs.l.length c.vs.cap, .slice c.xs.ao c.xs.l.length c.xs.cap, .slice c.ks.ao c.ks.l.length c.ks.cap, .slice c.hs.ao c.hs.l.length c.hs.cap, .slice c.rs.ao c.rs.l.length c.rs.cap, .slice c.ms.ao c.ms.l.length c.ms.cap, .slice c.bs.ao c.bs.l.length c.bs.cap] 31)) (hcat.later hb1)
  have HF := Lib.hid hF
  have Hb1 := Lib.hid hb1
  have hmn := fun ts t k k2 => run_min_int2 (P := Tryz.prog) (w := (w.alloc (.cells #[.slice c.ts.ao c.ts.l.length c.ts.cap, .slice c.vs.ao c.vs.l.length c.vs.cap, .slice c.xs.ao c.xs.l.length c.xs.cap, .slice c.ks.ao c.ks.l.length c.ks.cap, .slice c.hs.ao c.hs.l.length c.hs.cap, .slice c.rs.ao c.rs.l.length c.rs.cap, .slice c.ms.ao c.ms.l.length c.ms.cap, .slice c.bs.ao c.bs.l.length c.bs.cap] 31))) ts t k k2 n c.ts.l.length
  have hmn2 : min (n : Int) (c.ts.l.length : Int) = n := by omega
  have hl := hs.ts
  clear hF hb1 hcat hs
  unfold Cat.val at *
  go_enter Tryz.func110, Tryz.ntmps110
  go_wp2_with fail
  refine HF.out.mono ?_
  rintro e w2 ⟨rfl, hb2⟩
  have Hb := Lib.hid (bt Hb1.out hb2)
  clear hb2
  go_wp2_with fail
  go_ret
  exact ⟨rfl, Hb.out⟩
end Go.Proofs.YtjnhighilmchaaaGreatDoor
