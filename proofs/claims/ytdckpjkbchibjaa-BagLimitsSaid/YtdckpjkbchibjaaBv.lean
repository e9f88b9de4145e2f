/- The program's package bag: sums.add. -/
import Derived.Test.YtdckpjkbchibjaaBn
import Derived.Test.YtdckpjkbchibjaaBt
import Derived.Maps.OwnSet
namespace Go.Proofs.Ytdckpjkbchibjaa
open Go.RowKit Go.Proofs.EB Go.Maps
set_option maxHeartbeats 4000000
set_option maxRecDepth 100000
attribute [local go_sem] World.cell?_alloc_some

theorem lawS : Keyed Try.prog 9 := string_keyed Try.underlying9
theorem zeroS (w : World) : (zeroValue 2).run Try.prog w = .ok (.int .i64 0) w := by kernel_rfl
theorem keyS (r : List V) (h : (encRow r).length ≤ maxLen) : keyOf Try.prog 9 (.string ⟨(encRow r).toArray⟩) = some (keyL r) := by
  have := WideMaps.keyOf_string_mk (P := Try.prog) Try.underlying9 (s := ⟨(encRow r).toArray⟩) (by simpa [ByteArray.size] using h)
  simpa [keyL] using this
/-- Block mb is a map of at most n entries that reads as D. -/
abbrev MapAt (w : World) (mb n : Nat) (D : MD) : Prop := w.ownsMap Try.prog 9 (plainElem Try.prog 2) mb n D
theorem grown_none {w w' : World} (h : Below w.heap.size w w') : w.grownBy w' none := ⟨h.os, h.tape, h.output, h.size, fun i hi _ => h.block i hi⟩
theorem grown_below {B mb : Nat} {w w' : World} (h : w.grownBy w' (some mb)) (hB : B ≤ w.heap.size) (hm : B ≤ mb) : Below B w w' := (Below.refl B w).grown h hB (fun k e => by cases e; exact hm)
/-- The worlds of a round of add: the list lies as it did, and nothing has turned but the map. -/
structure WldA (w : World) (mb : Nat) (w1 : World) : Prop where
  g : w.grownBy w1 (some mb)
theorem WldA.drew {w w1 : World} {mb : Nat} (h : WldA w mb w1) : WldA w mb w1.drew := ⟨⟨h.g.os, h.g.tape, h.g.output, h.g.size, h.g.block⟩⟩
theorem WldA.below {w w1 w2 : World} {mb : Nat} (h : WldA w mb w1) (hb : Below w1.heap.size w1 w2) : WldA w mb w2 := ⟨h.g.andThen (grown_none hb) (fun j e => by cases e)⟩
theorem WldA.on {w w1 w2 : World} {mb : Nat} (h : WldA w mb w1) (hg : w1.grownBy w2 (some mb)) : WldA w mb w2 := ⟨h.g.andThen hg (fun j e => by cases e; exact .inr rfl)⟩
theorem keepA {w wc w1 : World} {mb b1 o1 b2 o2 : Nat} {x1 x2 : Value} (hb : Below wc.heap.size wc w1) (h : wc.cell? ⟨b1, o1, none⟩ = some x1 ∧ wc.cell? ⟨b2, o2, none⟩ = some x2 ∧ WldA w mb wc) : w1.cell? ⟨b1, o1, none⟩ = some x1 ∧ w1.cell? ⟨b2, o2, none⟩ = some x2 ∧ WldA w mb w1 :=
  ⟨(hb.cell (p := ⟨b1, o1, none⟩) (World.block_lt_of_cell? wc _ h.1)).trans h.1, (hb.cell (p := ⟨b2, o2, none⟩) (World.block_lt_of_cell? wc _ h.2.1)).trans h.2.1, h.2.2.below hb⟩
theorem keepG {w wc w1 : World} {mb b o1 o2 : Nat} {x1 x2 : Value} (hg : wc.grownBy w1 (some mb)) (h : wc.cell? ⟨b, o1, none⟩ = some x1 ∧ wc.cell? ⟨b, o2, none⟩ = some x2 ∧ WldA w mb wc) (hne : b ≠ mb) : w1.cell? ⟨b, o1, none⟩ = some x1 ∧ w1.cell? ⟨b, o2, none⟩ = some x2 ∧ WldA w mb w1 :=
  ⟨(hg.cell_far ⟨b, o1, none⟩ (World.block_lt_of_cell? wc _ h.1) (by simpa using hne)).trans h.1, (hg.cell_far ⟨b, o2, none⟩ (World.block_lt_of_cell? wc _ h.2.1) (by simpa using hne)).trans h.2.1, h.2.2.on hg⟩
/-- The entries of a list with their multiplicities times a sign. -/
def scl (sg : Int) (l : List En) : List En := l.map fun e => (e.1, sg * e.2)
theorem scl_snoc (sg : Int) (l : List Be) {k : Nat} (hk : k < l.length) : scl sg (ens (l.take (k + 1))) = scl sg (ens (l.take k)) ++ [(l[k].r.l, sg * l[k].n)] := by
  rw [List.take_succ_eq_append_getElem hk, ens_app]
  unfold scl
  rw [List.map_append]
  rfl
theorem cnt_cap {m : Int} (hm : 0 ≤ m) : ∀ {l : List En} (_ : Cap m l) (r : List V), -(m * l.length) ≤ cnt l r ∧ cnt l r ≤ m * l.length
  | [], _, r => by simp [cnt]
  | e :: l, h, r => by
    have ih := cnt_cap hm (l := l) (fun x hx => h x (by simp [hx])) r
    have he := h e (by simp)
    have e1 : m * ((e :: l).length : Int) = m * (l.length : Int) + m := by rw [List.length_cons]; push_cast; rw [Int.mul_add]; omega
    rw [e1]
    unfold cnt
    split <;> omega
theorem scl_cap {m sg : Int} (hs : sg = 1 ∨ sg = -1) {l : List En} (h : Cap m l) : Cap m (scl sg l) := by
  intro e he
  unfold scl at he
  obtain ⟨x, hx, rfl⟩ := List.mem_map.1 he
  have := h x hx
  rcases hs with rfl | rfl <;> simp only <;> omega
theorem cap_app {m : Int} {a b : List En} (ha : Cap m a) (hb : Cap m b) : Cap m (a ++ b) := fun e he => (List.mem_append.1 he).elim (ha e) (hb e)
theorem scl_len (sg : Int) (l : List Be) : (scl sg (ens l)).length = l.length := by simp [scl, ens]
/-- A call that has added a list to the sums. -/
def Added (w : World) (mb n : Nat) (L : List En) (e : Ending) (w' : World) : Prop := e = .returned (.tuple #[]) ∧ ∃ D', Hid (MapAt w' mb n D') ∧ Hid (SumsAre D' L) ∧ w.grownBy w' (some mb)
theorem padd_any (B mb n0 : Nat) (D : MD) (lp : List En) (ao : Option Addr) (cap : Nat) (l : List Be) (sg : Int) (w : World) (hsg : sg = 1 ∨ sg = -1) (hB : B ≤ w.heap.size) (hBm : B ≤ mb) (hn : n0 + l.length < 100000000) (hown : MapAt w mb n0 D) (hS : SumsAre D lp) (hs : BagS w B ⟨ao, cap, l⟩)
    (hall : (ens l).all enB = true) (hcp : Cap 262144 lp) (hlp : lp.length ≤ 10000000) (hl6 : l.length ≤ 1000000) :
    Calls Try.prog 55 #[.map (some mb), .slice ao l.length cap, .int .i64 sg] w (Added w mb (n0 + l.length) (lp ++ scl sg (ens l))) := by
  have HS := Lib.hid (fun (W : World) (hb : Below B w W) => RdS.below hs hb (Nat.le_refl B) fun _ h => h.below hb (Nat.le_refl B))
  have HA := Lib.hid hall
  have HC := Lib.hid hcp
  have HSg := Lib.hid hsg
  clear hs hall hcp hsg
  go_enter Try.func55, Try.ntmps55
  go_wp2_with fail
  go_loopw [10] (fun i wr => ∃ (k : Nat) (D' : MD), k ≤ l.length ∧ i = .int .i64 k ∧ MapAt wr mb (n0 + k) D' ∧ Hid (SumsAre D' (lp ++ scl sg (ens (l.take k)))) ∧ Hid (w.grownBy wr (some mb))) (fun i _ => l.length - (intOf i).toNat)
  case atStart => exact ⟨0, D, Nat.zero_le _, rfl, hown, by simpa [Hid, scl, ens] using hS, World.grownBy.refl _ _⟩
  case round =>
    clear hown hS
    obtain ⟨i, D1, hi, rfl, hown, HSm0, hgw⟩ := hrel
    have hBl := grown_below hgw.out hB hBm
    have hszr := hgw.out.size
    by_cases hlt : i < l.length
    · have hSr := HS.out wr hBl
      obtain ⟨b, off, hao, _⟩ := hSr.row.form (by show 0 < l.length; omega)
      simp only at hao
      subst hao
      obtain ⟨c0, c1⟩ := be_cells hSr.row hlt
      have q0 : (i : Int) < (l.length : Int) := by omega
      have q1 : (0 : Int) ≤ (i : Int) := by omega
      have hsn := scl_snoc sg l hlt
      have hbW := fun (W : World) (hb : Below B w W) => ((HS.out W hb).each _ (List.getElem_mem hlt)).row
      have hbe := hSr.each _ (List.getElem_mem hlt)
      have hen := List.all_eq_true.1 HA.out l[i].en (by unfold ens; exact List.mem_map_of_mem (List.getElem_mem hlt))
      have hcn := cnt_cap (by decide : (0 : Int) ≤ 262144) (cap_app HC.out (scl_cap HSg.out (sg := sg) (l := ens (l.take i)) (by
        intro e he
        have := List.all_eq_true.1 HA.out e (by rw [ens_take] at he; exact List.mem_of_mem_take he)
        unfold enB at this
        rw [Bool.and_eq_true] at this
        exact (mulB_iff _).1 this.2))) l[i].r.l
      rw [List.length_append, scl_len, List.length_take] at hcn
      generalize l[i] = x at *
      obtain ⟨⟨xa, xc, xl⟩, xn⟩ := x
      unfold enB Be.en at hen
      dsimp only at *
      rw [Bool.and_eq_true] at hen
      have hr16 : xl.length ≤ 16 := by have h1 := hen.1; unfold rowB at h1; rw [Bool.and_eq_true, decide_eq_true_iff] at h1; exact h1.1
      have hxn := (mulB_iff xn).1 hen.2
      have hsx : -262144 ≤ sg * xn ∧ sg * xn ≤ 262144 := by rcases HSg.out with rfl | rfl <;> omega
      have e1 : IntKind.i64.wrap (sg * xn) = sg * xn := IntWalk.i64_in _ (by omega)
      have hel := encRow_len xl
      have Hkey := Lib.hid (keyS xl (by unfold maxLen; omega))
      obtain ⟨lq, hlq⟩ : ∃ lq, lq = lp ++ scl sg (ens (l.take i)) := ⟨_, rfl⟩
      have hsn2 : lp ++ scl sg (ens (l.take (i + 1))) = lq ++ [(xl, sg * xn)] := by rw [hsn, hlq, List.append_assoc]
      rw [← hlq] at hcn HSm0
      have Hsn := Lib.hid hsn2
      clear hlq hsn hsn2
      have hbd : -9000000000000 ≤ cnt lq xl ∧ cnt lq xl ≤ 9000000000000 := by omega
      have Hbd := Lib.hid hbd
      have HSm := HSm0
      have hown0 := World.ownsMap.alloc hown (.cells #[.slice xa xl.length xc, .int .i64 xn] 34)
      have hmbne : wr.heap.size ≠ mb := by have := hown.lt; omega
      have HW0 : WldA w mb (wr.alloc (.cells #[.slice xa xl.length xc, .int .i64 xn] 34)) := ⟨hgw.out.andThen (World.grownBy_alloc _ _ none) (fun j e => by cases e)⟩
      have HE := Lib.hid (fun (W : World) (h : WldA w mb W) => encodeRow_any xa xc xl W (by omega) ((hbW W (grown_below h.g hB hBm)).row.mono (Nat.le_trans hB h.g.size)))
      have Hn := Lib.hid (show n0 + i < maxLen by unfold maxLen; omega)
      have hG := heap_alloc_new wr (.cells #[.slice xa xl.length xc, .int .i64 xn] 34)
      have g0 := box_cell hG (i := 0) rfl
      have g1 := box_cell hG (i := 1) rfl
      clear hbW hbe hG hcn hbd hBl hSr hen
      go_wp2_with fail
      refine wp_region_held_drew (S := (fun w1 => w1.cell? ⟨wr.heap.size, 0, none⟩ = some (.slice xa xl.length xc) ∧ w1.cell? ⟨wr.heap.size, 1, none⟩ = some (.int .i64 xn) ∧ WldA w mb w1)) (by kernel_rfl) ?_ (fun hHeld => ?_)
      · exact ⟨g0, g1, HW0.drew⟩
      refine wpAnyH_take (i := 0) (oi := ⟨some 14, _, _, _, _, _⟩) (v := ?_) rfl (by kernel_rfl) (by kernel_rfl) (by kernel_rfl) (fun _ _ _ h => h) (Or.inl ⟨rfl, ?_⟩) hHeld ?_
      rotate_left 1
      · (intro w hSw; (try dsimp only at hSw); go_simp <;> with_reducible rfl)
      try simp only [Act.put, List.setIfInBounds_toArray, List.set_cons_zero, List.set_cons_succ]
      refine wpAnyH_take (i := 1) (oi := ⟨some 15, _, _, _, _, _⟩) (v := ?_) rfl (by kernel_rfl) (by kernel_rfl) (by kernel_rfl) (fun _ _ _ h => h) (Or.inl ⟨rfl, ?_⟩) hHeld ?_
      rotate_left 1
      · (intro w hSw; (try dsimp only at hSw); go_simp <;> with_reducible rfl)
      try simp only [Act.put, List.setIfInBounds_toArray, List.set_cons_zero, List.set_cons_succ]
      refine wpAnyH_take (i := 2) (oi := ⟨some 16, _, _, _, _, _⟩) (v := ?_) rfl (by kernel_rfl) (by kernel_rfl) (by kernel_rfl) (fun _ _ _ h => h) (Or.inl ⟨rfl, ?_⟩) hHeld ?_
      rotate_left 1
      · (intro w hSw; (try dsimp only at hSw); go_simp <;> with_reducible rfl)
      try simp only [Act.put, List.setIfInBounds_toArray, List.set_cons_zero, List.set_cons_succ]
      refine wpAnyH_take (i := 5) (oi := ⟨some 19, _, _, _, _, _⟩) (v := ?_) rfl (by kernel_rfl) (by kernel_rfl) (by kernel_rfl) (fun _ _ _ h => h) (Or.inl ⟨rfl, ?_⟩) hHeld ?_
      rotate_left 1
      · (intro w hSw; (try dsimp only at hSw); go_simp <;> with_reducible rfl)
      try simp only [Act.put, List.setIfInBounds_toArray, List.set_cons_zero, List.set_cons_succ]
      refine wpAnyH_take (i := 6) (oi := ⟨some 20, _, _, _, _, _⟩) (v := ?_) rfl (by kernel_rfl) (by kernel_rfl) (by kernel_rfl) (fun _ _ _ h => h) (Or.inl ⟨rfl, ?_⟩) hHeld ?_
      rotate_left 1
      · (intro w hSw; (try dsimp only at hSw); go_simp <;> with_reducible rfl)
      try simp only [Act.put, List.setIfInBounds_toArray, List.set_cons_zero, List.set_cons_succ]
      refine wpAnyH_take (i := 7) (oi := ⟨some 21, _, _, _, _, _⟩) (v := ?_) rfl (by kernel_rfl) (by kernel_rfl) (by kernel_rfl) (fun _ _ _ h => h) (Or.inl ⟨rfl, ?_⟩) hHeld ?_
      rotate_left 1
      · (intro w hSw; (try dsimp only at hSw); go_simp <;> with_reducible rfl)
      try simp only [Act.put, List.setIfInBounds_toArray, List.set_cons_zero, List.set_cons_succ]
      refine wpAnyH_take (i := 8) (oi := ⟨some 22, _, _, _, _, _⟩) (v := ?_) rfl (by kernel_rfl) (by kernel_rfl) (by kernel_rfl) (fun _ _ _ h => h) (Or.inl ⟨rfl, ?_⟩) hHeld ?_
      rotate_left 1
      · (intro w hSw; (try dsimp only at hSw); go_simp <;> with_reducible rfl)
      try simp only [Act.put, List.setIfInBounds_toArray, List.set_cons_zero, List.set_cons_succ]
      refine wpAnyH_ready (rs := [3]) (by kernel_rfl) (by simp) ?_
      refine AllReadyH.cons (o := ⟨some 17, _, _, _, _, _⟩) rfl (fun K hK => ?_) AllReadyH.nil
      go_simp
      (go_at_call 67; refine (HE.out _ hHeld.2.2).mono ?_; rintro e w1 ⟨rfl, hb1⟩)
      have hown1 := hown0.drew.kept (grown_none hb1) (by simp)
      obtain ⟨c, hrun, hat, _⟩ := hown1.lookup_int lawS Try.underlying72 Try.underlying2 (zeroS _) (Hkey.out)
      have hc := (SumsAre.at HSm.out xl).symm.trans hat
      have hc2 : cnt lq xl = c := by simpa [sumL] using hc
      have Hc := Lib.hid hc2
      clear hc hc2 hat
      refine hK.out _ _ ?_ (fun hHeld => ?_)
      · exact keepA (hb := by assumption) (h := by assumption)
      clear hK K
      try simp only [Act.put, List.setIfInBounds_toArray, List.set_cons_zero, List.set_cons_succ]
      refine wpAnyH_ready (rs := [4]) (by kernel_rfl) (by simp) ?_
      refine AllReadyH.cons (o := ⟨some 18, _, _, _, _, _⟩) rfl (fun K hK => ?_) AllReadyH.nil
      go_simp
      refine hK.out _ _ ?_ (fun hHeld => ?_)
      · first | assumption | exact hHeld
      clear hK K
      try simp only [Act.put, List.setIfInBounds_toArray, List.set_cons_zero, List.set_cons_succ]
      have e2 : IntKind.i64.wrap (c + sg * xn) = c + sg * xn := IntWalk.i64_in _ (by have := Hbd.out; rw [Hc.out] at this; omega)
      refine wpAnyH_take (i := 9) (oi := ⟨some 23, _, _, _, _, _⟩) (v := ?_) rfl (by kernel_rfl) (by kernel_rfl) (by kernel_rfl) (fun _ _ _ h => h) (Or.inl ⟨rfl, ?_⟩) hHeld ?_
      rotate_left 1
      · (intro w hSw; (try dsimp only at hSw); go_simp <;> with_reducible rfl)
      try simp only [Act.put, List.setIfInBounds_toArray, List.set_cons_zero, List.set_cons_succ]
      obtain ⟨w2, hup, hown2, hg2⟩ := hown1.update (val := .int .i64 (c + sg * xn)) lawS Try.underlying72 Hn.out Hkey.out (plainElem_int (H := Unit) Try.underlying2 (WalkArith.wf_i64 (by have := Hbd.out; rw [Hc.out] at this; omega)))
      refine wpAnyH_ready (rs := [10]) (by kernel_rfl) (by simp) ?_
      refine AllReadyH.cons (o := ⟨none, _, _, _, _, _⟩) rfl (fun K hK => ?_) AllReadyH.nil
      go_simp
      refine hK.out _ _ ?_ (fun hHeld => ?_)
      · exact keepG (hg := hg2) (h := by assumption) hmbne
      clear hK K
      try simp only [Act.put, List.setIfInBounds_toArray, List.set_cons_zero, List.set_cons_succ]
      refine wpAnyH_done (by kernel_rfl) ?_ _
      go_wp2_with fail
      go_roundw
      case rel =>
        refine ⟨i + 1, D1.put (keyL xl) (sumL (c + sg * xn)), by omega, by go_num, by rw [← Nat.add_assoc]; exact hown2, ?_, hHeld.2.2.g⟩
        rw [Hsn.out, ← Hc.out]
        exact SumsAre.step HSm.out (World.ownsMap.isMap hown) xl (sg * xn)
      case measure => simp [intOf]; omega
    · have hk : l.take i = l := List.take_of_length_le (by omega)
      rw [hk] at HSm0
      have hi2 : i = l.length := by omega
      have Hi := Lib.hid hi2
      clear hk hi2
      go_wp2_with fail
      go_end0
      exact ⟨rfl, D1, by rw [← Hi.out]; exact hown, HSm0, hgw.out⟩
end Go.Proofs.Ytdckpjkbchibjaa
