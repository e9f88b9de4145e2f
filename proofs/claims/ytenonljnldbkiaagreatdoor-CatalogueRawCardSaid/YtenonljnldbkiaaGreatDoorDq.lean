/- The reference of layer 4: a column, the walk. -/
import Derived.Test.YtenonljnldbkiaaGreatDoorMK
import Derived.Test.YtenonljnldbkiaaGreatDoorDl
import Derived.BigQuiet
namespace Go.Proofs.YtenonljnldbkiaaGreatDoor
open Go.RowKit Go.Proofs.EB Go.Proofs.TX
set_option maxHeartbeats 4000000
set_option maxRecDepth 100000
attribute [local go_sem] World.cell?_alloc_some

theorem Cat.names_tab (c : Cat) {n : Nat} (h : n ≤ c.ts.l.length) : c.names.take n = (c.ts.l.take n).map (·.name) := by
  unfold Cat.names
  rw [List.take_append_of_le_length (by simp only [List.length_append, List.length_map]; omega), List.take_append_of_le_length (by simp only [List.length_append, List.length_map]; omega), List.take_append_of_le_length (by simp only [List.length_append, List.length_map]; omega), List.take_append_of_le_length (by simp only [List.length_append, List.length_map]; omega), List.take_append_of_le_length (by simp only [List.length_append, List.length_map]; omega), List.take_append_of_le_length (by simp only [List.length_append, List.length_map]; omega), List.take_append_of_le_length (by simp only [List.length_map]; omega), List.map_take]
def b15 (n1 n2 bo bj z0 : Bool) (xj xd : Int) : Bool := (!n1 && !n2) || (!bo || (!bj || (z0 && (xj != 0 || xd != 0))))
def b17 (bd i0 z0 : Bool) (rt xd er : Int) : Bool := !bd || ((rt != 0 && decide (rt < xd)) || (i0 && (!z0 && er != 1)))
theorem colR_b (t : Ta) (x : Co) (i : Nat) (kp bo bj bd i0 z0 bh : Bool) (h1 : ownB t.cols.l (-1) x.own.l = bo) (h2 : inB x.joint 0 1 = bj) (h3 : inB x.duty 0 1048576 = bd) (h4 : decide (i = 0) = i0) (h5 : decide (x.own.l = []) = z0) (h6 : x.own.l.contains (i : Int) = bh) :
    colR t x i kp = !(b15 (emp x.ns) (emp x.refs) bo bj z0 x.joint x.duty || (b17 bd i0 z0 t.retain x.duty t.erase || (kp && !bh))) := by
  unfold colR b15 b17
  rw [h1, h2, h3, h4, h5, h6]
  cases emp x.ns <;> cases emp x.refs <;> cases bo <;> cases bj <;> cases bd <;> cases i0 <;> cases z0 <;> cases kp <;> cases bh <;> simp
/-- What the walk of a column needs of the catalogue. -/
structure ColW (c : Cat) (n i : Nat) (w : World) (bb off : Nat) (t : Ta) (x : Co) (k : Int) (kc : Co) (r : Int) : Prop where
  tab : ∀ W, Below w.heap.size w W → Calls Tryz.prog 109 #[.agg #[.slice (some ⟨bb, off, none⟩) c.ts.l.length c.ts.cap, .slice c.vs.ao c.vs.l.length c.vs.cap, .slice c.xs.ao c.xs.l.length c.xs.cap, .slice c.ks.ao c.ks.l.length c.ks.cap, .slice c.hs.ao c.hs.l.length c.hs.cap, .slice c.rs.ao c.rs.l.length c.rs.cap, .slice c.ms.ao c.ms.l.length c.ms.cap, .slice c.bs.ao c.bs.l.length c.bs.cap], .string x.refs, .int .i64 n] W (Gives (.int .i64 k) W)
  own : ∀ W, Below w.heap.size w W → Calls Tryz.prog 142 #[t.val, .slice x.own.ao x.own.l.length x.own.cap] W (Gives (.bool (ownB t.cols.l (-1) x.own.l)) W)
  has : ∀ W, Below w.heap.size w W → Calls Tryz.prog 67 #[.slice x.own.ao x.own.l.length x.own.cap, .int .i64 i] W fun e w' => e = .returned (.bool (x.own.l.contains (i : Int))) ∧ W = w'
  n1 : ∀ W, Calls Tryz.prog 58 #[.string x.name] W fun e w' => e = .returned (.bool (nmB x.name)) ∧ W = w'
  n2 : ∀ W, Calls Tryz.prog 58 #[.string x.ns] W fun e w' => e = .returned (.bool (nmB x.ns)) ∧ W = w'
  key : emp x.refs = false → 0 ≤ k → ∃ m : Nat, k = m ∧ m < c.ts.l.length ∧ ∃ b o kl cp, 0 < kl ∧ ∀ W, Below w.heap.size w W → W.cell? ⟨bb, off + m * 4 + 1, none⟩ = some (.slice (some ⟨b, o, none⟩) kl cp) ∧ W.cell? ⟨b, o + 1, none⟩ = some (.int .i64 kc.ty) ∧ W.cell? ⟨b, o + 4, none⟩ = some (.slice kc.own.ao kc.own.l.length kc.own.cap)
  rows : ∀ W, Below w.heap.size w W → RAt encTa 4 W W.heap.size (some ⟨bb, off, none⟩) c.ts.l ∧ RAt encCo 7 W W.heap.size t.cols.ao t.cols.l
  res : r = if colN x = false then 3 else if anyB x.name ((t.cols.l.take i).map (·.name)) = true then 4
      else if (!emp x.refs && decide (k < 0)) = true then 7
      else if (!inB x.ty 1 2 || (!emp x.refs && kc.ty != x.ty)) = true then 5
      else if colR t x i (!emp x.refs && !decide (kc.own.l = [])) = false then 1 else 0
theorem colW_of (c : Cat) (hs : c.Sml) (n : Nat) (hn : n < c.ts.l.length) (hg : c.Good n) (i : Nat) (t : Ta) (ht : c.ts.l[n] = t) (hi : i < t.cols.l.length) (hr : 0 ≤ t.retain) (w : World) (hcat : CatAt w w.heap.size c) (bb off : Nat) (hao : c.ts.ao = some ⟨bb, off, none⟩) (x : Co) (hx : t.cols.l[i] = x) :
    ∃ k kc, ColW c n i w bb off t x k kc (colE (c.ts.l.take n) t i) := by
  have hta := hcat.ts.each _ (List.getElem_mem hn)
  rw [ht] at hta
  have hco := hta.cols.each _ (List.getElem_mem hi)
  rw [hx] at hco
  have htm : t ∈ c.ts.l := ht ▸ List.getElem_mem hn
  have hxm : x ∈ t.cols.l := hx ▸ List.getElem_mem hi
  have hol := hs.own _ htm _ hxm
  have hv : c.val = .agg #[.slice (some ⟨bb, off, none⟩) c.ts.l.length c.ts.cap, .slice c.vs.ao c.vs.l.length c.vs.cap, .slice c.xs.ao c.xs.l.length c.xs.cap, .slice c.ks.ao c.ks.l.length c.ks.cap, .slice c.hs.ao c.hs.l.length c.hs.cap, .slice c.rs.ao c.rs.l.length c.rs.cap, .slice c.ms.ao c.ms.l.length c.ms.cap, .slice c.bs.ao c.bs.l.length c.bs.cap] := by unfold Cat.val; rw [hao]
  refine ⟨idx x.refs (c.names.take n), ((c.ts.l.take n).getD (idx x.refs (c.names.take n)).toNat Ta.z).cols.l.getD 0 Co.z, ?_, ?_, ?_, ?_, ?_, ?_, ?_, ?_⟩
  · intro W hW
    have := rtable_any c hs x.refs n (by omega) W (hcat.later hW)
    rw [hv] at this
    exact this
  · intro W hW
    exact rowners_any t (hs.cols _ htm) x.own.ao x.own.cap x.own.l hol W ((hta.cols.row.below hW).mono hW.size) ((hco.own.row.below hW).mono hW.size)
  · intro W hW
    exact rhas_any i x.own.ao x.own.cap x.own.l (by omega) W ((hco.own.row.below hW).mono hW.size)
  · exact fun W => risNameA_any x.name W hco.name
  · exact fun W => risNameA_any x.ns W hco.ns
  · intro he hk
    have hrg := idx_range x.refs (c.names.take n)
    rw [List.length_take] at hrg
    obtain ⟨m, hm⟩ : ∃ m : Nat, idx x.refs (c.names.take n) = m := ⟨(idx x.refs (c.names.take n)).toNat, by omega⟩
    have hmn : m < n := by omega
    have hmt : m < c.ts.l.length := by omega
    have hne := hg.cols c.ts.l[m] (by rw [List.mem_iff_getElem]; exact ⟨m, by rw [List.length_take]; omega, by rw [List.getElem_take]⟩)
    have hlen : 0 < c.ts.l[m].cols.l.length := List.length_pos_iff.2 hne
    have hkc : ((c.ts.l.take n).getD (idx x.refs (c.names.take n)).toNat Ta.z).cols.l.getD 0 Co.z = c.ts.l[m].cols.l[0] := by
      rw [hm]
      have h1 : (c.ts.l.take n).getD (m : Int).toNat Ta.z = c.ts.l[m] := by
        simp [List.getD_eq_getElem?_getD, hmn, hmt]
      rw [h1]; simp [List.getD_eq_getElem?_getD, hlen]
    rw [hkc]
    have hcm := (hcat.ts.each _ (List.getElem_mem hmt)).cols.row
    obtain ⟨b, o, hca, _⟩ := hcm.form hlen
    refine ⟨m, hm, hmt, b, o, c.ts.l[m].cols.l.length, c.ts.l[m].cols.cap, hlen, fun W hW => ?_⟩
    have h1 := hcat.ts.row.below hW
    rw [hao] at h1
    have h2 := hcm.below hW
    rw [hca] at h2
    obtain ⟨_, e1, _⟩ := RAt.ta h1 hmt
    obtain ⟨_, e2, _, _, e3, _⟩ := RAt.co h2 hlen
    rw [hca] at e1
    exact ⟨e1, by simpa using e2, by simpa using e3⟩
  · intro W hW
    have h1 := (hcat.ts.row.below hW).mono hW.size
    rw [hao] at h1
    exact ⟨h1, (hta.cols.row.below hW).mono hW.size⟩
  · refine colE_cases (c.ts.l.take n) t i x (by simp [List.getD_eq_getElem?_getD, hi, hx]) hr _ ?_ _ rfl
    rw [c.names_tab (by omega)]
theorem rcolumn_any (c : Cat) (hs : c.Sml) (n : Nat) (hn : n < c.ts.l.length) (hg : c.Good n) (i : Nat) (hi : i < c.ts.l[n].cols.l.length) (hr : 0 ≤ c.ts.l[n].retain) (w : World) (hcat : CatAt w w.heap.size c) :
    Calls Tryz.prog 99 #[c.val, .int .i64 n, .int .i64 i] w (Gives (.int .i64 (colE (c.ts.l.take n) c.ts.l[n] i)) w) := by
  obtain ⟨bb, off, hao, _⟩ := hcat.ts.row.form (by omega)
  obtain ⟨t, ht⟩ : ∃ t, c.ts.l[n] = t := ⟨_, rfl⟩
  rw [ht]
  simp only [ht] at hi hr
  obtain ⟨x, hx⟩ : ∃ x, t.cols.l[i] = x := ⟨_, rfl⟩
  obtain ⟨k, kc, hW⟩ := colW_of c hs n hn hg i t ht hi hr w hcat bb off hao x hx
  have htm : t ∈ c.ts.l := ht ▸ List.getElem_mem hn
  have hxm : x ∈ t.cols.l := hx ▸ List.getElem_mem hi
  have hol := hs.own _ htm _ hxm
  have hcl := hs.cols _ htm
  have hta := (hcat.ts.each t htm)
  have hcc : (#[.slice (some ⟨bb, off, none⟩) c.ts.l.length c.ts.cap, .slice c.vs.ao c.vs.l.length c.vs.cap, .slice c.xs.ao c.xs.l.length c.xs.cap, .slice c.ks.ao c.ks.l.length c.ks.cap, .slice c.hs.ao c.hs.l.length c.hs.cap, .slice c.rs.ao c.rs.l.length c.rs.cap, .slice c.ms.ao c.ms.l.length c.ms.cap, .slice c.bs.ao c.bs.l.length c.bs.cap] : Array Value) = c.cells := by unfold Cat.cells; rw [hao]
  have hv : c.val = .agg #[.slice (some ⟨bb, off, none⟩) c.ts.l.length c.ts.cap, .slice c.vs.ao c.vs.l.length c.vs.cap, .slice c.xs.ao c.xs.l.length c.xs.cap, .slice c.ks.ao c.ks.l.length c.ks.cap, .slice c.hs.ao c.hs.l.length c.hs.cap, .slice c.rs.ao c.rs.l.length c.rs.cap, .slice c.ms.ao c.ms.l.length c.ms.cap, .slice c.bs.ao c.bs.l.length c.bs.cap] := by unfold Cat.val; rw [hao]
  rw [hv]
  have hts := hs.ts
  obtain ⟨cb, co, hca, _⟩ := hta.cols.row.form (by omega)
  obtain ⟨r, hre⟩ : ∃ r, colE (c.ts.l.take n) t i = r := ⟨_, rfl⟩
  rw [hre] at hW ⊢
  have hnl : (n : Int) < (c.ts.l.length : Int) := by omega
  have hil : (i : Int) < (t.cols.l.length : Int) := by omega
  obtain ⟨htab, hown, hhas, hn1, hn2, hkey, hrows, hres⟩ := hW
  have hct : ∀ (W : World), Below w.heap.size w W → W.cell? ⟨bb, off + n * 4, none⟩ = some (.string t.name) ∧ W.cell? ⟨bb, off + n * 4 + 1, none⟩ = some (.slice t.cols.ao t.cols.l.length t.cols.cap) ∧ W.cell? ⟨bb, off + n * 4 + 2, none⟩ = some (.int .i64 t.erase) ∧ W.cell? ⟨bb, off + n * 4 + 3, none⟩ = some (.int .i64 t.retain) := fun W hb => by
    have := RAt.ta (hrows W hb).1 hn
    simp only [ht] at this
    exact this
  have hcx : ∀ (W : World), Below w.heap.size w W → W.cell? ⟨cb, co + i * 7, none⟩ = some (.string x.name) ∧ W.cell? ⟨cb, co + i * 7 + 1, none⟩ = some (.int .i64 x.ty) ∧ W.cell? ⟨cb, co + i * 7 + 2, none⟩ = some (.string x.ns) ∧ W.cell? ⟨cb, co + i * 7 + 3, none⟩ = some (.string x.refs) ∧ W.cell? ⟨cb, co + i * 7 + 4, none⟩ = some (.slice x.own.ao x.own.l.length x.own.cap) ∧ W.cell? ⟨cb, co + i * 7 + 5, none⟩ = some (.int .i64 x.joint) ∧ W.cell? ⟨cb, co + i * 7 + 6, none⟩ = some (.int .i64 x.duty) := fun W hb => by
    have h1 := (hrows W hb).2
    rw [hca] at h1
    have := RAt.co h1 hi
    simp only [hx] at this
    exact this
  have hcj : ∀ (W : World), Below w.heap.size w W → ∀ j (hj : j < t.cols.l.length), W.cell? ⟨cb, co + j * 7, none⟩ = some (.string t.cols.l[j].name) := fun W hb j hj => by
    have h1 := (hrows W hb).2
    rw [hca] at h1
    exact (RAt.co h1 hj).1
  have hanyF : (∀ j (hj : j < t.cols.l.length), j < i → seq t.cols.l[j].name x.name = false) → anyB x.name ((t.cols.l.take i).map (·.name)) = false := fun h => anyB_false fun j hj => by
    simp only [List.length_map, List.length_take] at hj
    simp only [List.getElem_map, List.getElem_take]
    exact h j (by omega) (by omega)
  have hanyT : ∀ j (hj : j < t.cols.l.length), j < i → seq t.cols.l[j].name x.name = true → anyB x.name ((t.cols.l.take i).map (·.name)) = true := fun j hj hji h => anyB_true (j := j) (by simp only [List.length_map, List.length_take]; omega) (by simp only [List.getElem_map, List.getElem_take]; exact h)
  have hcolR := fun kp => colR_b t x i kp _ _ _ _ _ _ rfl rfl rfl rfl rfl rfl
  have hcolN : colN x = (nmB x.name && (x.ns.toList.isEmpty || nmB x.ns)) := rfl
  rw [hcolN, hcolR] at hres
  rw [show emp x.refs = x.refs.toList.isEmpty from rfl, show emp x.ns = x.ns.toList.isEmpty from rfl] at hres
  rw [show emp x.refs = x.refs.toList.isEmpty from rfl] at hkey
  have hz : ∀ l : List Int, decide (l = []) = ((l.length : Int) == 0) := fun l => by cases l <;> simp; omega
  rw [hz, hz] at hres
  obtain ⟨bo, hbo⟩ : ∃ b, ownB t.cols.l (-1) x.own.l = b := ⟨_, rfl⟩
  obtain ⟨bh, hbh⟩ : ∃ b, x.own.l.contains (i : Int) = b := ⟨_, rfl⟩
  obtain ⟨d, hd⟩ : ∃ b, anyB x.name ((t.cols.l.take i).map (·.name)) = b := ⟨_, rfl⟩
  obtain ⟨n1, hN1⟩ : ∃ b, nmB x.name = b := ⟨_, rfl⟩
  obtain ⟨n2, hN2⟩ : ∃ b, nmB x.ns = b := ⟨_, rfl⟩
  rw [hbo] at hown hres
  rw [hbh] at hhas hres
  rw [hd] at hanyF hanyT hres
  rw [hN1] at hn1 hres
  rw [hN2] at hn2 hres
  have hty : (!inB x.ty 1 2) = (x.ty != 1 && x.ty != 2) := by
    unfold inB
    rw [Bool.eq_iff_iff]
    simp only [Bool.not_eq_true', Bool.and_eq_false_iff, decide_eq_false_iff_not, Bool.and_eq_true, bne_iff_ne]
    omega
  rw [hty] at hres
  obtain ⟨bN, hbN⟩ : ∃ b, (n1 && (x.ns.toList.isEmpty || n2)) = b := ⟨_, rfl⟩
  rw [hbN] at hres
  obtain ⟨v7, hv7⟩ : ∃ b, (!x.refs.toList.isEmpty && decide (k < 0)) = b := ⟨_, rfl⟩
  rw [hv7] at hres
  obtain ⟨v5, hv5⟩ : ∃ b, ((x.ty != 1 && x.ty != 2) || (!x.refs.toList.isEmpty && kc.ty != x.ty)) = b := ⟨_, rfl⟩
  rw [hv5] at hres
  obtain ⟨v15, hv15⟩ : ∃ b, b15 x.ns.toList.isEmpty x.refs.toList.isEmpty bo (inB x.joint 0 1) ((x.own.l.length : Int) == 0) x.joint x.duty = b := ⟨_, rfl⟩
  rw [hv15] at hres
  obtain ⟨v17, hv17⟩ : ∃ b, b17 (inB x.duty 0 1048576) (decide (i = 0)) ((x.own.l.length : Int) == 0) t.retain x.duty t.erase = b := ⟨_, rfl⟩
  rw [hv17] at hres
  obtain ⟨v19, hv19⟩ : ∃ b, ((!x.refs.toList.isEmpty && !((kc.own.l.length : Int) == 0)) && !bh) = b := ⟨_, rfl⟩
  rw [hv19] at hres
  clear hty hcolR hcolN hN1 hN2 hd hbh hbo hz hre hr hta hxm htm hrows
  have hb1 := al1 w (.cells #[.slice (some ⟨bb, off, none⟩) c.ts.l.length c.ts.cap, .slice c.vs.ao c.vs.l.length c.vs.cap, .slice c.xs.ao c.xs.l.length c.xs.cap, .slice c.ks.ao c.ks.l.length c.ks.cap, .slice c.hs.ao c.hs.l.length c.hs.cap, .slice c.rs.ao c.rs.l.length c.rs.cap, .slice c.ms.ao c.ms.l.length c.ms.cap, .slice c.bs.ao c.bs.l.length c.bs.cap] 31)
  obtain ⟨tn, ⟨ta, cc, cl⟩, er, rt⟩ := t
  obtain ⟨xn, xt, xs, xr, ⟨oa, oc, ol⟩, xj, xd⟩ := x
  obtain ⟨kn, kt, ks, kr, ⟨ka, kcp, kl⟩, kj, kd⟩ := kc
  dsimp only [Ta.val] at *
  subst hca
  obtain ⟨W2, hW2⟩ : ∃ W2, W2 = (w.alloc (.cells #[.slice (some ⟨bb, off, none⟩) c.ts.l.length c.ts.cap, .slice c.vs.ao c.vs.l.length c.vs.cap, .slice c.xs.ao c.xs.l.length c.xs.cap, .slice c.ks.ao c.ks.l.length c.ks.cap, .slice c.hs.ao c.hs.l.length c.hs.cap, .slice c.rs.ao c.rs.l.length c.rs.cap, .slice c.ms.ao c.ms.l.length c.ms.cap, .slice c.bs.ao c.bs.l.length c.bs.cap] 31)).alloc (.cells #[.string tn, .slice (some ⟨cb, co, none⟩) cl.length cc, .int .i64 er, .int .i64 rt] 50) := ⟨_, rfl⟩
  obtain ⟨hg1, hg2⟩ := two_new w (.cells #[.slice (some ⟨bb, off, none⟩) c.ts.l.length c.ts.cap, .slice c.vs.ao c.vs.l.length c.vs.cap, .slice c.xs.ao c.xs.l.length c.xs.cap, .slice c.ks.ao c.ks.l.length c.ks.cap, .slice c.hs.ao c.hs.l.length c.hs.cap, .slice c.rs.ao c.rs.l.length c.rs.cap, .slice c.ms.ao c.ms.l.length c.ms.cap, .slice c.bs.ao c.bs.l.length c.bs.cap] 31) (.cells #[.string tn, .slice (some ⟨cb, co, none⟩) cl.length cc, .int .i64 er, .int .i64 rt] 50)
  rw [← hW2, hcc] at hg1
  rw [← hW2] at hg2
  have hP2 : Below w.heap.size w W2 := by rw [hW2]; exact bt hb1 (al1 _ _)
  obtain ⟨W1, hW1⟩ : ∃ W1, W1 = W2.alloc (.cells #[.string xn, .int .i64 xt, .string xs, .string xr, .slice oa ol.length oc, .int .i64 xj, .int .i64 xd] 52) := ⟨_, rfl⟩
  have hb2 := al1 W2 (.cells #[.string xn, .int .i64 xt, .string xs, .string xr, .slice oa ol.length oc, .int .i64 xj, .int .i64 xd] 52)
  have hg3 := alloc_new W2 (.cells #[.string xn, .int .i64 xt, .string xs, .string xr, .slice oa ol.length oc, .int .i64 xj, .int .i64 xd] 52)
  rw [← hW1] at hb2 hg3
  have hP1 : Below w.heap.size w W1 := bt hP2 hb2
  have hg4 := keep_box hb2 hg1
  have hg5 := keep_box hb2 hg2
  have HW := Lib.hid (fun (W : World) (hb : Below W1.heap.size W1 W) => (⟨boxC (c := c) (keep_box hb hg4), ⟨box_at (i := 0) (keep_box hb hg5) rfl, box_at (i := 1) (keep_box hb hg5) rfl, box_at (i := 2) (keep_box hb hg5) rfl, box_at (i := 3) (keep_box hb hg5) rfl⟩, ⟨box_at (i := 0) (keep_box hb hg3) rfl, box_at (i := 1) (keep_box hb hg3) rfl, box_at (i := 2) (keep_box hb hg3) rfl, box_at (i := 3) (keep_box hb hg3) rfl, box_at (i := 4) (keep_box hb hg3) rfl, box_at (i := 5) (keep_box hb hg3) rfl, box_at (i := 6) (keep_box hb hg3) rfl⟩, bt hP1 hb⟩ : _ ∧ (_ ∧ _ ∧ _ ∧ _) ∧ (_ ∧ _ ∧ _ ∧ _ ∧ _ ∧ _ ∧ _) ∧ Below w.heap.size w W))
  rw [hao] at HW
  obtain ⟨d0, d1, d2, d3⟩ := hct _ hb1
  have q1 := box_at (i := 1) hg2 rfl
  obtain ⟨p0, p1, p2, p3, p4, p5, p6⟩ := hcx _ hP2
  have dd := (boxC (c := c) (g := w.heap.size) (w := w.alloc (.cells #[.slice (some ⟨bb, off, none⟩) c.ts.l.length c.ts.cap, .slice c.vs.ao c.vs.l.length c.vs.cap, .slice c.xs.ao c.xs.l.length c.xs.cap, .slice c.ks.ao c.ks.l.length c.ks.cap, .slice c.hs.ao c.hs.l.length c.hs.cap, .slice c.rs.ao c.rs.l.length c.rs.cap, .slice c.ms.ao c.ms.l.length c.ms.cap, .slice c.bs.ao c.bs.l.length c.bs.cap] 31)) (T := 31) (by rw [← hcc]; exact alloc_new _ _)).1
  rw [hao] at dd
  have HTab := Lib.hid htab
  have HOwn := Lib.hid hown
  have HHas := Lib.hid hhas
  have HN1 := Lib.hid hn1
  have HN2 := Lib.hid hn2
  have HKey := Lib.hid hkey
  have Hres := Lib.hid hres
  have HbN := Lib.hid hbN
  have Hv7 := Lib.hid hv7
  have Hv5 := Lib.hid hv5
  have Hv15 := Lib.hid hv15
  have Hv17 := Lib.hid hv17
  have Hv19 := Lib.hid hv19
  have HcJ := Lib.hid hcj
  have HaF := Lib.hid hanyF
  have HaT := Lib.hid hanyT
  have HW1 := Lib.hid hW1
  have HW2 := Lib.hid hW2
  have HP1 := Lib.hid hP1
  clear hbN hv7 hv5 hv15 hv17 hv19 htab hown hhas hn1 hn2 hkey hres hcj hanyF hanyT hW1 hW2 hP1 hg1 hg2 hg3 hg4 hg5 hb1 hb2 hP2 hct hcx hcc hv hs hg hcat ht hx hao
  go_enter Tryz.func99, Tryz.ntmps99
  go_upto_region 2 with fail
  rw [← HW2.out]
  go_upto_region 3 with fail
  rw [← HW1.out]
  obtain ⟨⟨c1, c2, c3, c4, c5, c6, c7, c8⟩, ⟨t0, t1, t2, t3⟩, ⟨x0, x1, x2, x3, x4, x5, x6⟩, _⟩ := HW.out W1 (Below.refl _ _)
  go_cut [35] from 21 to 34 (fun p wx => p = .bool (!bN) ∧ W1 = wx)
  case first =>
    go_wp2_with fail
    refine (HN1.out W1).mono ?_
    rintro e w3 ⟨rfl, rfl⟩
    cases n1
    · go_wp2_with fail
      go_meet
      exact ⟨by rw [← HbN.out]; first | done | rfl, rfl⟩
    · cases f1 : xs.toList.isEmpty
      · go_wp2_with fail
        refine (HN2.out W1).mono ?_
        rintro e w3 ⟨rfl, rfl⟩
        cases n2
        all_goals
          go_wp2_with fail
          go_meet
          exact ⟨by rw [← HbN.out, f1]; first | done | rfl, rfl⟩
      · go_wp2_with fail
        go_meet
        exact ⟨by rw [← HbN.out, f1]; first | done | rfl, rfl⟩
  case rest =>
    cases bN
    · have Hx := Lib.hid (show r = 3 by rw [Hres.out]; rfl)
      obtain ⟨rfl, rfl⟩ := hcut
      go_wp2_with fail
      go_ret
      exact ⟨ret_i Hx.out.symm, HP1.out⟩
    · obtain ⟨rfl, rfl⟩ := hcut
      have Hres2 := Lib.hid (show r = if d = true then 4 else if v7 = true then 7 else if v5 = true then 5 else if (!(v15 || (v17 || v19))) = false then 1 else 0 by rw [Hres.out]; rfl)
      go_wp2_with fail
      go_loopw [9] (fun v wr => ∃ j : Nat, j ≤ i ∧ v = .int .i64 j ∧ Hid (Below W1.heap.size W1 wr ∧ ∀ m (h : m < cl.length), m < j → seq cl[m].name xn = false)) (fun v _ => i - (intOf v).toNat)
      case atStart => exact ⟨0, Nat.zero_le _, rfl, Below.refl _ _, fun m _ h => absurd h (by omega)⟩
      case round =>
        obtain ⟨j, hj, rfl, hX⟩ := hrel
        obtain ⟨hbr, hall⟩ := hX.out
        have Hall := Lib.hid hall
        have Hbr := Lib.hid hbr
        clear c1 c2 c3 c4 c5 c6 c7 c8 t0 t1 t2 t3 x0 x1 x2 x3 x4 x5 x6 p0 p1 p2 p3 p4 p5 p6 q1 dd d0 d1 d2 d3
        obtain ⟨⟨c1, c2, c3, c4, c5, c6, c7, c8⟩, ⟨t0, t1, t2, t3⟩, ⟨x0, x1, x2, x3, x4, x5, x6⟩, hPr⟩ := HW.out wr hbr
        have HPr := Lib.hid hPr
        clear hX hbr hall hPr
        by_cases hlt : j < i
        · have hjl : j < cl.length := by omega
          have e0 := HcJ.out wr HPr.out j hjl
          have Haj := Lib.hid (HaT.out j hjl hlt)
          have Hjj := Lib.hid (show ∀ m (h : m < cl.length), m = j → cl[m].name = cl[j].name from fun m h e => by subst e; rfl)
          have hj1 : (j : Int) < (cl.length : Int) := by omega
          have hj2 : (j : Int) < (i : Int) := by omega
          generalize cl[j].name = s at *
          cases hv : seq s xn
          · have z4 : (s.toList == xn.toList) = false := hv
            have Hv := Lib.hid hv
            clear hv
            go_wp2_with fail
            go_quiet (fail)
            go_wp2_with fail
            exact ⟨⟨j + 1, by omega, by go_num, ⟨Hbr.out.os, Hbr.out.tape, Hbr.out.output, Hbr.out.size, Hbr.out.block⟩, fun m hm hmj => by
              by_cases hje : m < j
              · exact Hall.out m hm hje
              · rw [Hjj.out m hm (by omega)]; exact Hv.out⟩, by simp [intOf]; omega⟩
          · have z4 : (s.toList == xn.toList) = true := hv
            have hda := Haj.out hv
            have Hx := Lib.hid (show r = 4 by rw [Hres2.out, hda]; rfl)
            clear hv hda
            go_wp2_with fail
            go_quiet (fail)
            go_wp2_with fail
            go_ret
            exact ⟨ret_i Hx.out.symm, ⟨HPr.out.os, HPr.out.tape, HPr.out.output, HPr.out.size, HPr.out.block⟩⟩
        · obtain rfl : j = i := by omega
          have hda := HaF.out Hall.out
          have Hres3 := Lib.hid (show r = if v7 = true then 7 else if v5 = true then 5 else if (!(v15 || (v17 || v19))) = false then 1 else 0 by rw [Hres2.out, hda]; rfl)
          clear hda HaF HaT HcJ Hall Hres Hres2
          go_wp2_with fail
          refine (HTab.out wr HPr.out).mono ?_
          rintro e w5 ⟨rfl, hb5⟩
          have H5 := Lib.hid (Hbr.out.trans (hb5.mono Hbr.out.size))
          clear hb5 c1 c2 c3 c4 c5 c6 c7 c8 t0 t1 t2 t3 x0 x1 x2 x3 x4 x5 x6
          clear HPr Hbr
          generalize w5 = wa at *
          obtain ⟨⟨c1, c2, c3, c4, c5, c6, c7, c8⟩, ⟨t0, t1, t2, t3⟩, ⟨x0, x1, x2, x3, x4, x5, x6⟩, hPa⟩ := HW.out wa H5.out
          have HPa := Lib.hid hPa
          clear hPa
          go_upto_region 11 with fail
          go_cut [55] from 56 to 62 (fun p wx => p = .bool v7 ∧ wa = wx)
          case first =>
            cases E : xr.toList.isEmpty
            · by_cases hk : k < 0
              · have Hf := Lib.hid (decide_eq_true hk)
                go_wp2_with fail
                go_meet
                exact ⟨by rw [← Hv7.out, E, Hf.out]; first | done | rfl, rfl⟩
              · have Hf := Lib.hid (decide_eq_false hk)
                go_wp2_with fail
                go_meet
                exact ⟨by rw [← Hv7.out, E, Hf.out]; first | done | rfl, rfl⟩
            · go_wp2_with fail
              go_meet
              exact ⟨by rw [← Hv7.out, E]; first | done | rfl, rfl⟩
          case rest =>
            cases hv7 : v7
            case true =>
              have Hx := Lib.hid (show r = 7 by rw [Hres3.out, hv7]; rfl)
              rw [hv7] at hcut
              obtain ⟨rfl, rfl⟩ := hcut
              clear hv7
              go_wp2_with fail
              go_ret
              exact ⟨ret_i Hx.out.symm, HPa.out⟩
            case false =>
              rw [hv7] at hcut
              have Hk0 := Lib.hid (show xr.toList.isEmpty = false → 0 ≤ k from fun hE => by
                have h := Hv7.out
                rw [hv7, hE] at h
                simp at h; exact h)
              have Hres4 := Lib.hid (show r = if v5 = true then 5 else if (!(v15 || (v17 || v19))) = false then 1 else 0 by rw [Hres3.out, hv7]; rfl)
              obtain ⟨rfl, rfl⟩ := hcut
              clear hv7 Hres3
              go_upto_region 13 with fail
              go_cut [63] from 64 to 94 (fun p wx => p = .bool v5 ∧ Hid (Below W1.heap.size W1 wx))
              case first =>
                cases E : xr.toList.isEmpty
                · obtain ⟨m, rfl, hm, b, o, kl', cp, hkl, hk3⟩ := HKey.out E (Hk0.out E)
                  obtain ⟨k1, k2, _⟩ := hk3 wa HPa.out
                  have hge : decide ((0 : Int) ≤ (m : Int)) = true := by simp
                  have hml : (m : Int) < (c.ts.l.length : Int) := by omega
                  clear hk3
                  cases y1 : (xt != 1) <;> cases y2 : (xt != 2) <;> cases y3 : (kt != xt)
                  all_goals
                    go_quiet (fail)
                    go_wp2_with fail
                    go_meet
                    exact ⟨by rw [← Hv5.out, y1, y2, y3, E]; first | done | rfl, ⟨H5.out.os, H5.out.tape, H5.out.output, H5.out.size, H5.out.block⟩⟩
                · cases y1 : (xt != 1) <;> cases y2 : (xt != 2) <;> cases hk : decide (0 ≤ k)
                  all_goals
                    go_quiet (fail)
                    go_wp2_with fail
                    go_meet
                    exact ⟨by rw [← Hv5.out, y1, y2, E]; first | done | rfl, ⟨H5.out.os, H5.out.tape, H5.out.output, H5.out.size, H5.out.block⟩⟩
              case rest =>
                clear c1 c2 c3 c4 c5 c6 c7 c8 t0 t1 t2 t3 x0 x1 x2 x3 x4 x5 x6
                obtain ⟨rfl, H6⟩ := hcut
                generalize wc = wb at *
                obtain ⟨⟨c1, c2, c3, c4, c5, c6, c7, c8⟩, ⟨t0, t1, t2, t3⟩, ⟨x0, x1, x2, x3, x4, x5, x6⟩, hPb⟩ := HW.out wb H6.out
                have HPb := Lib.hid hPb
                clear hPb
                cases hv5 : v5
                case true =>
                  have Hx := Lib.hid (show r = 5 by rw [Hres4.out, hv5]; rfl)
                  clear hv5
                  go_wp2_with fail
                  go_ret
                  exact ⟨ret_i Hx.out.symm, HPb.out⟩
                case false =>
                  have Hres5 := Lib.hid (show r = if (!(v15 || (v17 || v19))) = false then 1 else 0 by rw [Hres4.out, hv5]; rfl)
                  clear hv5 Hres4
                  go_upto_region 15 with fail
                  go_cut [95] from 96 to 132 (fun p wx => p = .bool v15 ∧ Hid (Below W1.heap.size W1 wx))
                  case first =>
                    cases f1 : xs.toList.isEmpty <;> cases E : xr.toList.isEmpty
                    · go_wp2_with fail
                      go_meet
                      exact ⟨by rw [← Hv15.out, f1, E]; first | done | rfl, H6⟩
                    all_goals
                      go_wp2_with fail
                      refine (HOwn.out wb HPb.out).mono ?_
                      rintro e w7 ⟨rfl, hb7⟩
                      have H7 := Lib.hid (H6.out.trans (hb7.mono H6.out.size))
                      clear hb7 c1 c2 c3 c4 c5 c6 c7 c8 t0 t1 t2 t3 x0 x1 x2 x3 x4 x5 x6
                      obtain ⟨_, _, ⟨x0, x1, x2, x3, x4, x5, x6⟩, _⟩ := HW.out w7 H7.out
                      cases bo
                      · go_wp2_with fail
                        go_meet
                        exact ⟨by rw [← Hv15.out, f1, E]; first | done | rfl, H7⟩
                      · go_wp2_with fail
                        refine (rwithin_any _ _ _ _).mono ?_
                        rintro e w8 ⟨rfl, rfl⟩
                        cases i1 : inB xj 0 1
                        · go_wp2_with fail
                          go_meet
                          exact ⟨by rw [← Hv15.out, f1, E, i1]; first | done | rfl, H7⟩
                        · cases z0 : ((ol.length : Int) == 0)
                          · go_wp2_with fail
                            go_meet
                            exact ⟨by rw [← Hv15.out, f1, E, i1, z0]; first | done | rfl, H7⟩
                          · cases y3 : (xj != 0) <;> cases y4 : (xd != 0)
                            all_goals
                              go_wp2_with fail
                              go_meet
                              exact ⟨by rw [← Hv15.out, f1, E, i1, z0]; unfold b15; rw [y3, y4]; first | done | rfl, H7⟩
                  case rest =>
                    clear c1 c2 c3 c4 c5 c6 c7 c8 t0 t1 t2 t3 x0 x1 x2 x3 x4 x5 x6
                    clear HPb H6
                    obtain ⟨rfl, H6⟩ := hcut
                    generalize wc = wd at *
                    obtain ⟨⟨c1, c2, c3, c4, c5, c6, c7, c8⟩, ⟨t0, t1, t2, t3⟩, ⟨x0, x1, x2, x3, x4, x5, x6⟩, hPb⟩ := HW.out wd H6.out
                    have HPb := Lib.hid hPb
                    clear hPb
                    cases hv15 : v15
                    case true =>
                      have Hx := Lib.hid (show r = 1 by rw [Hres5.out, hv15]; rfl)
                      clear hv15
                      go_wp2_with fail
                      go_ret
                      exact ⟨ret_i Hx.out.symm, HPb.out⟩
                    case false =>
                      have Hres6 := Lib.hid (show r = if (!(v17 || v19)) = false then 1 else 0 by rw [Hres5.out, hv15]; rfl)
                      clear hv15 Hres5
                      go_upto_region 17 with fail
                      go_cut [133] from 134 to 164 (fun p wx => p = .bool v17 ∧ wd = wx)
                      case first =>
                        go_wp2_with fail
                        refine (rwithin_any _ _ _ _).mono ?_
                        rintro e w8 ⟨rfl, rfl⟩
                        cases i2 : inB xd 0 1048576
                        · go_wp2_with fail
                          go_meet
                          exact ⟨by rw [← Hv17.out, i2]; first | done | rfl, rfl⟩
                        · by_cases hi0 : j = 0
                          · have u0 : ((j : Int) == 0) = true := by simp [hi0]
                            have U0 := Lib.hid (decide_eq_true hi0)
                            clear hi0
                            cases z0 : ((ol.length : Int) == 0)
                            · have zp : decide (0 < ol.length) = true := by simp at z0 ⊢; exact List.length_pos_iff.2 (by simpa using z0)
                              cases y5 : (rt != 0) <;> cases y6 : decide (rt < xd) <;> cases y9 : (er != 1)
                              all_goals
                                go_wp2_with fail
                                go_meet
                                exact ⟨by rw [← Hv17.out, i2, U0.out, z0]; unfold b17; rw [y5, y6, y9]; first | done | rfl, rfl⟩
                            · have zp : decide (0 < ol.length) = false := by simp at z0 ⊢; simp [z0]
                              cases y5 : (rt != 0) <;> cases y6 : decide (rt < xd)
                              all_goals
                                go_wp2_with fail
                                go_meet
                                exact ⟨by rw [← Hv17.out, i2, U0.out, z0]; unfold b17; rw [y5, y6]; first | done | rfl, rfl⟩
                          · have u0 : ((j : Int) == 0) = false := by simp [hi0]
                            have U0 := Lib.hid (decide_eq_false hi0)
                            clear hi0
                            cases y5 : (rt != 0) <;> cases y6 : decide (rt < xd)
                            all_goals
                              go_wp2_with fail
                              go_meet
                              exact ⟨by rw [← Hv17.out, i2, U0.out]; unfold b17; rw [y5, y6]; first | done | rfl, rfl⟩
                      case rest =>
                        cases hv17 : v17
                        case true =>
                          have Hx := Lib.hid (show r = 1 by rw [Hres6.out, hv17]; rfl)
                          rw [hv17] at hcut
                          obtain ⟨rfl, rfl⟩ := hcut
                          clear hv17
                          go_wp2_with fail
                          go_ret
                          exact ⟨ret_i Hx.out.symm, HPb.out⟩
                        case false =>
                          have Hres7 := Lib.hid (show r = if v19 = true then 1 else 0 by rw [Hres6.out, hv17]; cases v19 <;> rfl)
                          rw [hv17] at hcut
                          obtain ⟨rfl, rfl⟩ := hcut
                          clear hv17 Hres6
                          go_upto_region 19 with fail
                          go_cut [165] from 166 to 188 (fun p wx => p = .bool v19 ∧ wd = wx)
                          case first =>
                            cases E : xr.toList.isEmpty
                            · obtain ⟨m, rfl, hm, b, o, kl', cp, hkl, hk3⟩ := HKey.out E (Hk0.out E)
                              obtain ⟨k1, _, k4⟩ := hk3 wd HPb.out
                              have hml : (m : Int) < (c.ts.l.length : Int) := by omega
                              clear hk3
                              cases z0 : ((kl.length : Int) == 0)
                              · have zp : decide (0 < kl.length) = true := by simp at z0 ⊢; exact List.length_pos_iff.2 (by simpa using z0)
                                go_wp2_with fail
                                refine (HHas.out wd HPb.out).mono ?_
                                rintro e w8 ⟨rfl, rfl⟩
                                cases bh
                                all_goals
                                  go_wp2_with fail
                                  go_meet
                                  exact ⟨by rw [← Hv19.out, E, z0]; first | done | rfl, rfl⟩
                              · have zp : decide (0 < kl.length) = false := by simp at z0 ⊢; simp [z0]
                                go_wp2_with fail
                                go_meet
                                exact ⟨by rw [← Hv19.out, E, z0]; first | done | rfl, rfl⟩
                            · go_wp2_with fail
                              go_meet
                              exact ⟨by rw [← Hv19.out, E]; first | done | rfl, rfl⟩
                          case rest =>
                            cases v19
                            all_goals
                              have Hx := Lib.hid Hres7.out
                              obtain ⟨rfl, rfl⟩ := hcut
                              go_wp2_with fail
                              go_ret
                              exact ⟨ret_i Hx.out.symm, HPb.out⟩
end Go.Proofs.YtenonljnldbkiaaGreatDoor
