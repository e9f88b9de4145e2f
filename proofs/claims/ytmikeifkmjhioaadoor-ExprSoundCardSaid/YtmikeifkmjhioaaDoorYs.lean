/- The tape's SpoilExpr. -/
import Derived.Test.YtmikeifkmjhioaaDoorYr
namespace Go.Proofs.YtmikeifkmjhioaaDoor
open Go.RowKit Go.Proofs.EB
set_option maxHeartbeats 4000000
set_option maxRecDepth 100000
attribute [local go_sem] World.cell?_alloc_some

theorem OwnsR.marks {α : Type} {enc : α → List Value} {m : Nat} {w : World} {B g cap : Nat} {e : TypeId} {l : List α} (h : OwnsR enc m w B e (.slice (some ⟨g, 0, none⟩) l.length cap) l) : ∀ o, w.frozen? ⟨g, o, none⟩ = false := by
  intro o
  rcases h.2 with ⟨h0, _⟩ | ⟨g', cap', cur, h0, _, hg, _⟩
  · cases h0
  · simp only [Value.slice.injEq, Option.some.injEq, Addr.mk.injEq] at h0
    obtain ⟨⟨rfl, _⟩, _⟩ := h0
    simp [World.frozen?, hg]
/-- One cell of one element is stored. -/
theorem RAt.set1 {α : Type} {enc : α → List Value} {m : Nat} (hm : ∀ a, (enc a).length = m) {w : World} {B b : Nat} {l : List α} (h : RAt enc m w B (some ⟨b, 0, none⟩) l) {i j : Nat} (hi : i < l.length) (hj : j < m) {v : Value} (t' : α)
    (ht : enc t' = (enc l[i]).set j v) : RAt enc m (w.setCell ⟨b, i * m + j, none⟩ v) B (some ⟨b, 0, none⟩) (l.set i t') := by
  rcases h with h0 | ⟨b', off', e, hlt, hc⟩
  · subst h0; simp at hi
  · simp only [Option.some.injEq, Addr.mk.injEq] at e
    obtain ⟨rfl, rfl, _⟩ := e
    refine .inr ⟨b, 0, rfl, hlt, fun i' hi' j' u hu => ?_⟩
    rw [List.length_set] at hi'
    have hj' : j' < m := by have := (List.getElem?_eq_some_iff.1 hu).1; rw [hm] at this; exact this
    have hij : (enc l[i])[j]? = some ((enc l[i])[j]'(by rw [hm]; exact hj)) := List.getElem?_eq_getElem _
    by_cases hii : i' = i
    · subst hii
      rw [List.getElem_set_self, ht] at hu
      by_cases hjj : j' = j
      · subst hjj
        have e1 : u = v := by
          rw [List.getElem?_set_self (by rw [hm]; exact hj)] at hu
          exact (Option.some.inj hu).symm
        subst e1
        have := World.cell?_setCell_same w ⟨b, i' * m + j', none⟩ u (hc i' hi j' _ hij |> fun h => by simpa using h)
        simpa using this
      · rw [List.getElem?_set_ne (fun h => hjj h.symm)] at hu
        rw [World.cell?_setCell_other _ _ _ _ (by intro h; simp only [Addr.mk.injEq, true_and, and_true] at h; omega)]
        exact hc i' hi j' u hu
    · rw [List.getElem_set_ne (fun h => hii h.symm)] at hu
      rw [World.cell?_setCell_other _ _ _ _ (by
        simp only [ne_eq, Addr.mk.injEq, not_and]
        intro _ h
        exfalso
        have h2 : i' * m + j' = i * m + j := by omega
        have h3 : i' = i := by
          have := congrArg (· / m) h2
          simp only [Nat.mul_comm i' m, Nat.mul_comm i m, Nat.mul_add_div (by omega : 0 < m), Nat.div_eq_of_lt hj', Nat.div_eq_of_lt hj] at this
          omega
        exact hii h3)]
      exact hc i' hi' j' u hu
/-- A call of the tape that gives some terms. -/
def TermsPost (w : World) (B g k : Nat) (e : Ending) (w' : World) : Prop :=
  ∃ (ao : Option Addr) (cap : Nat) (l : List Tm), Hid (l.length ≤ k ∧ ∀ t ∈ l, t.okT) ∧ e = .returned (.slice ao l.length cap) ∧ TmsAt w' w'.heap.size ao l ∧ Took w B g w'
theorem okT_set {l : List Tm} {i : Nat} {t' : Tm} (h : ∀ t ∈ l, t.okT) (ht : t'.okT) : ∀ t ∈ l.set i t', t.okT := by
  intro t hm
  rcases List.mem_or_eq_of_mem_set hm with h1 | h1
  · exact h t h1
  · rw [h1]; exact ht
theorem own_tm {w : World} {B b cp : Nat} {l : List Tm} (h : OwnsTm w B (.slice (some ⟨b, 0, none⟩) l.length cp) l) {i : Nat} (hi : i < l.length) :
    TmsAt w w.heap.size (some ⟨b, 0, none⟩) l ∧ w.cell? ⟨b, i * 5, none⟩ = some (.int .i64 l[i].op) ∧ w.cell? ⟨b, i * 5 + 1, none⟩ = some (.int .i64 l[i].v.k) ∧ w.cell? ⟨b, i * 5 + 2, none⟩ = some (.int .i64 l[i].v.n) ∧ w.cell? ⟨b, i * 5 + 3, none⟩ = some (.string l[i].v.s) ∧ w.cell? ⟨b, i * 5 + 4, none⟩ = some (.int .i64 l[i].c) ∧
    w.frozen? ⟨b, i * 5, none⟩ = false ∧ w.frozen? ⟨b, i * 5 + 1, none⟩ = false ∧ w.frozen? ⟨b, i * 5 + 2, none⟩ = false ∧ w.frozen? ⟨b, i * 5 + 3, none⟩ = false ∧ w.frozen? ⟨b, i * 5 + 4, none⟩ = false := by
  obtain ⟨ao, cap, heq, hr, _⟩ := OwnsR.rAt encTm_len h
  simp only [Value.slice.injEq] at heq
  obtain ⟨rfl, _, rfl⟩ := heq
  have hm := OwnsR.marks h
  obtain ⟨c0, c1, c2, c3, c4⟩ := RAt.tm hr hi
  simp only [Nat.zero_add] at c0 c1 c2 c3 c4
  exact ⟨hr, c0, c1, c2, c3, c4, hm _, hm _, hm _, hm _, hm _⟩
theorem rat_size {α : Type} {enc : α → List Value} {m : Nat} {w w' : World} {ao : Option Addr} {l : List α} (h : RAt enc m w' w.heap.size ao l) (hs : w.heap.size ≤ w'.heap.size) : RAt enc m w' w'.heap.size ao l := h.mono hs
theorem size_setCell (w : World) (a : Addr) (v : Value) : (w.setCell a v).heap.size = w.heap.size := by simp [World.setCell]
theorem set_all {w : World} {b : Nat} {l : List Tm} (h : TmsAt w w.heap.size (some ⟨b, 0, none⟩) l) {i : Nat} (hi : i < l.length) (o k n c : Int) (s : ByteArray) :
    TmsAt (((((w.setCell ⟨b, i * 5, none⟩ (.int .i64 o)).setCell ⟨b, i * 5 + 1, none⟩ (.int .i64 k)).setCell ⟨b, i * 5 + 2, none⟩ (.int .i64 n)).setCell ⟨b, i * 5 + 3, none⟩ (.string s)).setCell ⟨b, i * 5 + 4, none⟩ (.int .i64 c)) w.heap.size (some ⟨b, 0, none⟩) (l.set i ⟨o, ⟨k, n, s⟩, c⟩) := by
  have h1 := RAt.set1 encTm_len h hi (j := 0) (by omega) (v := .int .i64 o) ⟨o, l[i].v, l[i].c⟩ rfl
  have h2 := RAt.set1 encTm_len h1 (i := i) (by simpa using hi) (j := 1) (by omega) (v := .int .i64 k) ⟨o, ⟨k, l[i].v.n, l[i].v.s⟩, l[i].c⟩ (by rw [List.getElem_set_self]; rfl)
  rw [List.set_set] at h2
  have h3 := RAt.set1 encTm_len h2 (i := i) (by simpa using hi) (j := 2) (by omega) (v := .int .i64 n) ⟨o, ⟨k, n, l[i].v.s⟩, l[i].c⟩ (by rw [List.getElem_set_self]; rfl)
  rw [List.set_set] at h3
  have h4 := RAt.set1 encTm_len h3 (i := i) (by simpa using hi) (j := 3) (by omega) (v := .string s) ⟨o, ⟨k, n, s⟩, l[i].c⟩ (by rw [List.getElem_set_self]; rfl)
  rw [List.set_set] at h4
  have h5 := RAt.set1 encTm_len h4 (i := i) (by simpa using hi) (j := 4) (by omega) (v := .int .i64 c) ⟨o, ⟨k, n, s⟩, c⟩ (by rw [List.getElem_set_self]; rfl)
  rw [List.set_set] at h5
  exact h5
theorem set_op {w : World} {b : Nat} {l : List Tm} (h : TmsAt w w.heap.size (some ⟨b, 0, none⟩) l) {i : Nat} (hi : i < l.length) (o : Int) :
    TmsAt (w.setCell ⟨b, i * 5, none⟩ (.int .i64 o)) w.heap.size (some ⟨b, 0, none⟩) (l.set i ⟨o, l[i].v, l[i].c⟩) := RAt.set1 encTm_len h hi (j := 0) (by omega) (v := .int .i64 o) ⟨o, l[i].v, l[i].c⟩ rfl
theorem set_col {w : World} {b : Nat} {l : List Tm} (h : TmsAt w w.heap.size (some ⟨b, 0, none⟩) l) {i : Nat} (hi : i < l.length) (c : Int) :
    TmsAt (w.setCell ⟨b, i * 5 + 4, none⟩ (.int .i64 c)) w.heap.size (some ⟨b, 0, none⟩) (l.set i ⟨l[i].op, l[i].v, c⟩) := RAt.set1 encTm_len h hi (j := 4) (by omega) (v := .int .i64 c) ⟨l[i].op, l[i].v, c⟩ rfl
theorem set_val {w : World} {b : Nat} {l : List Tm} (h : TmsAt w w.heap.size (some ⟨b, 0, none⟩) l) {i : Nat} (hi : i < l.length) (k n : Int) (s : ByteArray) :
    TmsAt (((w.setCell ⟨b, i * 5 + 1, none⟩ (.int .i64 k)).setCell ⟨b, i * 5 + 2, none⟩ (.int .i64 n)).setCell ⟨b, i * 5 + 3, none⟩ (.string s)) w.heap.size (some ⟨b, 0, none⟩) (l.set i ⟨l[i].op, ⟨k, n, s⟩, l[i].c⟩) := by
  have h2 := RAt.set1 encTm_len h (i := i) hi (j := 1) (by omega) (v := .int .i64 k) ⟨l[i].op, ⟨k, l[i].v.n, l[i].v.s⟩, l[i].c⟩ rfl
  have h3 := RAt.set1 encTm_len h2 (i := i) (by simpa using hi) (j := 2) (by omega) (v := .int .i64 n) ⟨l[i].op, ⟨k, n, l[i].v.s⟩, l[i].c⟩ (by rw [List.getElem_set_self]; rfl)
  rw [List.set_set] at h3
  have h4 := RAt.set1 encTm_len h3 (i := i) (by simpa using hi) (j := 3) (by omega) (v := .string s) ⟨l[i].op, ⟨k, n, s⟩, l[i].c⟩ (by rw [List.getElem_set_self]; rfl)
  rw [List.set_set] at h4
  exact h4
set_option maxHeartbeats 8000000 in
theorem spoil_any (B g : Nat) (ao : Option Addr) (cap : Nat) (l : List Tm) (hl1 : 1 ≤ l.length) (hl : l.length ≤ 1000) (hnil : ao = none → cap = 0) (hok : ∀ t ∈ l, t.okT) (w : World) (hT : TapeAt w B g) (hB : B ≤ w.heap.size) (hA : TmsAt w w.heap.size ao l) :
    Calls Tryd.prog 14 #[.pointer (some ⟨g, 0, none⟩), .slice ao l.length cap] w (TermsPost w B g (l.length + 1)) := by
  have hgB := tape_lt hT
  have hown0 : OwnsTm (w.alloc (.cells #[] 36)) w.heap.size (.slice (some ⟨w.heap.size, 0, none⟩) ([] : List Tm).length 0) [] := ownsR_new encTm_len (heap_alloc_new _ _) (Nat.le_refl _) rfl (by simp [maxLen])
  have hA1 := hA.later (al1 w (.cells #[] 36))
  have hK0 := Lib.hid (tookBelow hT hB (al1 w (.cells #[] 36)))
  have Hok := Lib.hid hok
  clear hT hA hok
  go_enter Tryd.func14, Tryd.ntmps14
  go_wp2_with (at_builtin; refine wpList_copyR (enc := encTm) (m := 5) Tryd.underlying23 infoTm rfl (by decide) encTm_len encTm_one (w.alloc (.cells #[] 36)) rfl (.tmp 7) (.tmp 8) rfl w.heap.size _ [] rfl hown0 _ ao cap l rfl hA1 hnil ?_ ?_ (by simp) ?_)
  · simp; omega
  · unfold maxLen; simp; omega
  intro l1 v1 w1 hl1' hown1 haw1 hb1 _ hne
  obtain ⟨b, cp, rfl, hbB, hbl⟩ := own_form hown1 hne
  have hl1e : l1 = l := hl1'.out
  subst hl1e
  have HK := Lib.hid (hK0.out.fresh haw1 (fun k hk => by simp [Value.ownBlock] at hk; omega))
  have hcap : l1.length ≤ cp ∧ cp ≤ maxLen := by
    obtain ⟨_, _, heq, _, _, _, h1, h2⟩ := OwnsR.rAt encTm_len hown1
    simp only [Value.slice.injEq] at heq
    omega
  have Hown := Lib.hid hown1
  clear hown1 haw1 hb1 hne hl1' hown0 hA1 hK0
  go_wp2_with fail
  refine (next_any B g l1.length w1 (by omega) (by omega) HK.out.1 HK.out.2.2).mono ?_
  rintro e w2 ⟨i0, rfl, hi0, hi1, hK⟩
  obtain ⟨i, rfl⟩ : ∃ i : Nat, i0 = i := ⟨i0.toNat, by omega⟩
  have hi : i < l1.length := by omega
  have Hown := Lib.hid (own_away Hown.out hK.2.1 hgB hB)
  replace HK := Lib.hid (HK.out.trans hK)
  have Hi := Lib.hid hi
  have hii : (i : Int) < (l1.length : Int) := by omega
  have hBb : B ≤ b := by omega
  clear hK hi0 hi1
  go_wp2_with fail
  refine (next_any B g 7 w2 (by decide) (by decide) HK.out.1 HK.out.2.2).mono ?_
  rintro e w3 ⟨r, rfl, hr0, hr1, hK⟩
  have Hown := Lib.hid (own_away Hown.out hK.2.1 hgB hB)
  replace HK := Lib.hid (HK.out.trans hK)
  have hcase : r = 0 ∨ r = 1 ∨ r = 2 ∨ r = 3 ∨ r = 4 ∨ r = 5 ∨ r = 6 := by omega
  clear hK hr0 hr1
  have Hoki := Lib.hid (Hok.out _ (List.getElem_mem hi))
  rcases hcase with rfl | rfl | rfl | rfl | rfl | rfl | rfl
  · go_wp2_with fail
    refine (next_any B g 21 _ (by decide) (by decide) HK.out.1 HK.out.2.2).mono ?_
    rintro e w4 ⟨x, rfl, hx0, hx1, hK⟩
    have Hown := Lib.hid (own_away Hown.out hK.2.1 hgB hB)
    replace HK := Lib.hid (HK.out.trans hK)
    have Hx := Lib.hid (show 0 ≤ x ∧ x < 21 by omega)
    clear hK hx1
    obtain ⟨hr, c0, c1, c2, c3, c4, f0, f1, f2, f3, f4⟩ := own_tm Hown.out Hi.out
    have hxb : x < 21 := Hx.out.2
    go_wp2_with fail
    go_ret
    refine ⟨some ⟨b, 0, none⟩, cp, l1.set i ⟨x - 1, l1[i].v, l1[i].c⟩, ⟨by simp, okT_set Hok.out ?_⟩, by rw [List.length_set]; rfl, (by have h := set_op hr Hi.out (x - 1); refine h.mono ?_; simp only [size_setCell]; exact Nat.le_refl _), HK.out.setCell (p := ⟨b, _, none⟩) hBb hbB _⟩
    have := Hx.out
    exact ⟨⟨by show _ ≤ x - 1; omega, by show x - 1 ≤ _; omega⟩, Hoki.out.2⟩
  · go_wp2_with fail
    refine (tvalue_any B g _ HK.out.1 HK.out.2.2).mono ?_
    rintro e w4 ⟨k, m, s, rfl, hv, hk, hK⟩
    have Hown := Lib.hid (own_away Hown.out hK.2.1 hgB hB)
    replace HK := Lib.hid (HK.out.trans hK)
    have Hk := Lib.hid hk
    clear hK hk hv
    obtain ⟨hr, c0, c1, c2, c3, c4, f0, f1, f2, f3, f4⟩ := own_tm Hown.out Hi.out
    go_wp2_with fail
    go_ret
    refine ⟨some ⟨b, 0, none⟩, cp, l1.set i ⟨l1[i].op, ⟨k, m, s⟩, l1[i].c⟩, ⟨by simp, okT_set Hok.out ?_⟩, by rw [List.length_set]; rfl, (by have h := set_val hr Hi.out k m s; refine h.mono ?_; simp only [size_setCell]; exact Nat.le_refl _), ((HK.out.setCell (p := ⟨b, _, none⟩) hBb hbB _).setCell (p := ⟨b, _, none⟩) hBb hbB _).setCell (p := ⟨b, _, none⟩) hBb hbB _⟩
    exact ⟨Hoki.out.1, Hk.out, Hoki.out.2.2⟩
  · go_wp2_with fail
    refine (next_any B g 5 _ (by decide) (by decide) HK.out.1 HK.out.2.2).mono ?_
    rintro e w4 ⟨x, rfl, hx0, hx1, hK⟩
    have Hown := Lib.hid (own_away Hown.out hK.2.1 hgB hB)
    replace HK := Lib.hid (HK.out.trans hK)
    have Hx := Lib.hid (show 0 ≤ x ∧ x < 5 by omega)
    clear hK hx1
    obtain ⟨hr, c0, c1, c2, c3, c4, f0, f1, f2, f3, f4⟩ := own_tm Hown.out Hi.out
    have hxb : x < 5 := Hx.out.2
    go_wp2_with fail
    go_ret
    refine ⟨some ⟨b, 0, none⟩, cp, l1.set i ⟨l1[i].op, l1[i].v, x - 1⟩, ⟨by simp, okT_set Hok.out ?_⟩, by rw [List.length_set]; rfl, (by have h := set_col hr Hi.out (x - 1); refine h.mono ?_; simp only [size_setCell]; exact Nat.le_refl _), HK.out.setCell (p := ⟨b, _, none⟩) hBb hbB _⟩
    have := Hx.out
    exact ⟨Hoki.out.1, Hoki.out.2.1, ⟨by show _ ≤ x - 1; omega, by show x - 1 ≤ _; omega⟩⟩
  · obtain ⟨hr, c0, c1, c2, c3, c4, f0, f1, f2, f3, f4⟩ := own_tm Hown.out Hi.out
    by_cases hcp : cp = 1
    · subst hcp
      have hl11 : l1.length = 1 := by omega
      clear c0 c1 c2 c3 c4 f0 f1 f2 f3 f4
      go_wp2_with fail
      go_ret
      exact ⟨_, _, [], ⟨by simp, by intro t ht; cases ht⟩, by first | rfl | (rw [hl11]; rfl), .inl rfl, HK.out⟩
    · have hcp1 : (1 : Int) ≤ (cp : Int) := by omega
      have hcp2 : ¬ cp = 1 := hcp
      clear c0 c1 c2 c3 c4 f0 f1 f2 f3 f4
      go_wp2_with fail
      go_ret
      have hd := RAt.drop hr 1
      refine ⟨some ⟨b, 0 + 1 * 5, none⟩, cp - 1, l1.drop 1, ⟨by simp; omega, fun t ht => Hok.out t (List.mem_of_mem_drop ht)⟩, ?_, hd, HK.out⟩
      rw [List.length_drop]
      first | rfl | (congr 2; simp [Addr.add])
  · obtain ⟨hr, c0, c1, c2, c3, c4, f0, f1, f2, f3, f4⟩ := own_tm Hown.out Hi.out
    generalize l1[i] = ti at *
    have hs3 : w.heap.size ≤ w3.heap.size := HK.out.2.1.size
    have hown3 := Hown.out
    go_wp2_with (at_builtin; refine wpList_appR (enc := encTm) (m := 5) Tryd.underlying23 infoTm rfl (by decide) encTm_len encTm_one _ w3 rfl (.tmp 55) (.tmp 60) rfl w.heap.size _ l1 rfl hown3 [ti] 1 1 #[.int .i64 ti.op, .int .i64 ti.v.k, .int .i64 ti.v.n, .string ti.v.s, .int .i64 ti.c] rfl rfl rfl rfl rfl rfl rfl (by decide) (by omega) (by unfold maxLen; omega) hs3 ?_; intro l3 g3 cap3 w4 hl3 hown4 haw4 hb4 hat4 hlt4)
    go_ret
    have HK4 := HK.out.fresh haw4 (fun k hk => by have := (OwnsR.lt hown3 k hk).1; omega)
    obtain ⟨ao4, cap4, heq, hr4, _⟩ := OwnsR.rAt encTm_len hown4
    rw [heq]
    refine ⟨ao4, cap4, l3, ⟨by rw [hl3.out]; simp, ?_⟩, rfl, hr4, HK4⟩
    intro t ht
    rw [hl3.out] at ht
    rcases List.mem_append.1 ht with ht | ht
    · exact Hok.out t ht
    · rw [List.mem_singleton.1 ht]; exact Hoki.out
  · obtain ⟨hr, c0, c1, c2, c3, c4, f0, f1, f2, f3, f4⟩ := own_tm Hown.out Hi.out
    go_wp2_with fail
    go_ret
    refine ⟨some ⟨b, 0, none⟩, cp, l1.set i ⟨l1[i].op, ⟨1, 1, ⟨#[120]⟩⟩, l1[i].c⟩, ⟨by simp, okT_set Hok.out ?_⟩, by rw [List.length_set]; rfl, (by have h := set_val hr Hi.out 1 1 ⟨#[120]⟩; refine h.mono ?_; simp only [size_setCell]; exact Nat.le_refl _), ((HK.out.setCell (p := ⟨b, _, none⟩) hBb hbB _).setCell (p := ⟨b, _, none⟩) hBb hbB _).setCell (p := ⟨b, _, none⟩) hBb hbB _⟩
    exact ⟨Hoki.out.1, ⟨⟨by show (_ : Int) ≤ 1; decide, by show (1 : Int) ≤ _; decide⟩, ⟨by show (_ : Int) ≤ 1; decide, by show (1 : Int) ≤ _; decide⟩, by simp [maxLen, ByteArray.size]⟩, Hoki.out.2.2⟩
  · go_wp2_with fail
    refine (next_any B g 16 _ (by decide) (by decide) HK.out.1 HK.out.2.2).mono ?_
    rintro e w4 ⟨x, rfl, hx0, hx1, hK⟩
    have Hown := Lib.hid (own_away Hown.out hK.2.1 hgB hB)
    replace HK := Lib.hid (HK.out.trans hK)
    have Hx := Lib.hid (show 0 ≤ x ∧ x < 16 by omega)
    clear hK hx1
    obtain ⟨hr, c0, c1, c2, c3, c4, f0, f1, f2, f3, f4⟩ := own_tm Hown.out Hi.out
    have hxb : x < 16 := Hx.out.2
    go_wp2_with fail
    go_ret
    refine ⟨some ⟨b, 0, none⟩, cp, l1.set i (opTm (3 + x)), ⟨by simp, okT_set Hok.out ?_⟩, by rw [List.length_set]; rfl, (by have h := set_all hr Hi.out (3 + x) 0 0 0 ⟨#[]⟩; refine h.mono ?_; simp only [size_setCell]; exact Nat.le_refl _), ((((HK.out.setCell (p := ⟨b, _, none⟩) hBb hbB _).setCell (p := ⟨b, _, none⟩) hBb hbB _).setCell (p := ⟨b, _, none⟩) hBb hbB _).setCell (p := ⟨b, _, none⟩) hBb hbB _).setCell (p := ⟨b, _, none⟩) hBb hbB _⟩
    have := Hx.out
    exact ⟨⟨by show _ ≤ 3 + x; omega, by show 3 + x ≤ _; omega⟩, nil_ok, ⟨by show (_ : Int) ≤ 0; decide, by show (0 : Int) ≤ _; decide⟩⟩
end Go.Proofs.YtmikeifkmjhioaaDoor
