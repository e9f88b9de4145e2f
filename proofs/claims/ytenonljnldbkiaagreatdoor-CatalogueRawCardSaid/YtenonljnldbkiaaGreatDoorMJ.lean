/- Arity, fields, end and Valid of the reference of expressions. -/
import Derived.Test.YtenonljnldbkiaaGreatDoorMA
import Derived.Test.YtenonljnldbkiaaGreatDoorMI
import Derived.Lib.SlicesCompact
import Derived.Test.YtenonljnldbkiaaGreatDoorMB
namespace Go.Proofs.YtenonljnldbkiaaGreatDoor
open Go.RowKit Go.Proofs.EB
set_option maxHeartbeats 1000000
attribute [local go_sem] World.cell?_alloc_some

theorem rarity_any (op : Int) (w : World) : Calls Tryz.prog 117 #[.int .i64 op] w fun e w' => e = .returned (.int .i64 (arityI op)) ∧ w = w' := by
  go_enter Tryz.func117, Tryz.ntmps117
  go_wp2
  all_goals go_ret
  all_goals (simp only [beq_iff_eq, beq_eq_false_iff_ne, ne_eq] at *; refine ⟨?_, by simp⟩; congr 2; unfold arityI; repeat' split)
  all_goals first | rfl | omega

theorem fieldsB_const (k n c : Int) (s : ByteArray) : fieldsB ⟨1, ⟨k, n, s⟩, c⟩ = (validB k n s && !(k == 0) && c == 0) := by
  unfold fieldsB vB; simp
theorem fieldsB_col (k n c : Int) (s : ByteArray) : fieldsB ⟨2, ⟨k, n, s⟩, c⟩ = (zeroB ⟨k, n, s⟩ && decide (0 ≤ c)) := by
  unfold fieldsB; simp
theorem fieldsB_op {o k n c : Int} {s : ByteArray} (h1 : o ≠ 1) (h2 : o ≠ 2) : fieldsB ⟨o, ⟨k, n, s⟩, c⟩ = (zeroB ⟨k, n, s⟩ && c == 0) := by
  unfold fieldsB; simp [h1, h2]
theorem rfields_any (o k n c : Int) (s : ByteArray) (w : World) (hs : s.size ≤ maxLen) :
    Calls Tryz.prog 178 #[.agg #[.int .i64 o, .int .i64 k, .int .i64 n, .string s, .int .i64 c]] w (Gives (.bool (fieldsB ⟨o, ⟨k, n, s⟩, c⟩)) w) := by
  have hb1 : Below w.heap.size w (w.alloc (.cells #[.int .i64 o, .int .i64 k, .int .i64 n, .string s, .int .i64 c] 144)) := (Below.refl _ _).alloc (Nat.le_refl _) _
  have hbq := (Lib.hid hb1)
  clear hb1
  by_cases h1 : o = 1
  · subst h1
    rw [fieldsB_const]
    have hV := fun w => rvalid_b k n s w hs
    generalize validB k n s = vb at *
    have HV := Lib.hid hV
    clear hV
    cases vb
    · go_enter Tryz.func178, Tryz.ntmps178
      go_wp2_with fail
      refine (HV.out _).mono ?_
      rintro e w' ⟨rfl, hb2⟩
      go_wp2_with fail
      go_ret
      exact ⟨rfl, hbq.out.trans (hb2.mono hbq.out.size)⟩
    · by_cases hk : k = 0
      · subst hk
        go_enter Tryz.func178, Tryz.ntmps178
        go_wp2_with fail
        refine (HV.out _).mono ?_
        rintro e w' ⟨rfl, hb2⟩
        have hc0 := hb2.cell (p := ⟨w.heap.size, 1, none⟩) (by simp)
        go_wp2_with fail
        go_ret
        exact ⟨rfl, hbq.out.trans (hb2.mono hbq.out.size)⟩
      · have z1 : (k != 0) = true := by simpa using hk
        have z2 : (k == 0) = false := by simpa using hk
        rw [z2]
        clear hk
        go_enter Tryz.func178, Tryz.ntmps178
        go_wp2_with fail
        refine (HV.out _).mono ?_
        rintro e w' ⟨rfl, hb2⟩
        have hc0 := hb2.cell (p := ⟨w.heap.size, 1, none⟩) (by simp)
        have hc1 := hb2.cell (p := ⟨w.heap.size, 4, none⟩) (by simp)
        go_wp2_with fail
        go_ret
        exact ⟨rfl, hbq.out.trans (hb2.mono hbq.out.size)⟩
  · have y1 : (o == 1) = false := by simpa using h1
    have hg := guardV
    have heq : ∀ w, (binOp .eql 142 (.agg #[.int .i64 k, .int .i64 n, .string s]) (.agg #[.int .i64 0, .int .i64 0, .string ⟨#[]⟩])).run Tryz.prog w = .ok (.bool (zeroB ⟨k, n, s⟩)) w := fun w => by rw [eqlV, zeroB_eq]
    by_cases h2 : o = 2
    · subst h2
      rw [fieldsB_col]
      generalize zeroB ⟨k, n, s⟩ = zb at *
      cases zb
      all_goals
        go_enter Tryz.func178, Tryz.ntmps178
        go_wp2_with fail
        go_ret
        exact ⟨rfl, hbq.out⟩
    · have y2 : (o == 2) = false := by simpa using h2
      rw [fieldsB_op h1 h2]
      generalize zeroB ⟨k, n, s⟩ = zb at *
      clear h1 h2
      cases zb
      all_goals
        go_enter Tryz.func178, Tryz.ntmps178
        go_wp2_with fail
        go_ret
        exact ⟨rfl, hbq.out⟩

/-- If an operand does not read at a depth, the whole does not at one more. -/
theorem head_deep {t : Tm} {l r : List Tm} {xs : List Ex} {n d : Nat} (hn : arityI t.op = n) (hx : oks xs) (hl : l = flats xs ++ r) (hk : xs.length < n) (hf : ∀ x r', Head r x r' → d < x.depth) : ∀ x r', Head (t :: l) x r' → d + 1 < x.depth := by
  intro x r' ⟨e, ho⟩
  rw [Ex.flat_eq, List.cons_append] at e
  obtain ⟨h1, h2, h3⟩ := (Ex.ok_iff x).1 ho
  obtain ⟨rfl, e2⟩ := List.cons.inj e
  have h4 : x.args.length = n := by omega
  obtain ⟨zs, hz, hr⟩ := seq_prefix xs x.args r r' hx h3 (hl.symm.trans e2) (by omega)
  cases zs with
  | nil => rw [hz] at h4; simp at h4; omega
  | cons z zs =>
    have hm : z ∈ x.args := by rw [hz]; simp
    have := hf z (flats zs ++ r') ⟨by rw [hr, flats, List.append_assoc], h3 z hm⟩
    have := le_depths hm
    rw [Ex.depth_eq]; omega
/-- What end gives. -/
def EndP (l : List Tm) (pos d : Nat) (w : World) (e : Ending) (w' : World) : Prop :=
  Below w.heap.size w w' ∧ ((∃ x r q, Hid (Head (l.drop pos) x r ∧ x.depth ≤ d ∧ q + r.length = l.length) ∧ e = .returned (.int .i64 (q : Nat))) ∨ (Hid (∀ x r, Head (l.drop pos) x r → d < x.depth) ∧ e = .returned (.int .i64 (-1))))
set_option maxRecDepth 100000 in
theorem rend_any (ao : Option Addr) (cap : Nat) (l : List Tm) (hl : l.length ≤ 64) (hok : ∀ t ∈ l, t.okT) : ∀ (d : Nat), d ≤ 16 → ∀ pos : Nat, pos ≤ l.length → ∀ w : World, TmsAt w w.heap.size ao l →
    Calls Tryz.prog 162 #[.slice ao l.length cap, .int .i64 pos, .int .i64 d] w (EndP l pos d w) := by
  intro d
  induction d with
  | zero =>
    intro _ pos hp w hT
    have hN : Hid (∀ x r, Head (l.drop pos) x r → 0 < x.depth) := fun x _ _ => x.depth_pos
    by_cases hlt : pos < l.length
    · have z : decide ((l.length : Int) ≤ (pos : Int)) = false := by simp; omega
      clear hT hok
      go_enter Tryz.func162, Tryz.ntmps162
      go_wp2_with fail
      go_ret
      exact ⟨Below.refl _ _, .inr ⟨hN, rfl⟩⟩
    · have z : decide ((l.length : Int) ≤ (pos : Int)) = true := by simp; omega
      clear hT hok
      go_enter Tryz.func162, Tryz.ntmps162
      go_wp2_with fail
      go_ret
      exact ⟨Below.refl _ _, .inr ⟨hN, rfl⟩⟩
  | succ d ih =>
    intro hd16 pos hp w hT
    by_cases hlt : pos < l.length
    · have z : decide ((l.length : Int) ≤ (pos : Int)) = false := by simp; omega
      obtain ⟨b, off, rfl, _⟩ := hT.form (by omega)
      obtain ⟨c0, c1, c2, c3, c4⟩ := RAt.tm hT hlt
      have hdc : l.drop pos = l[pos] :: l.drop (pos + 1) := List.drop_eq_getElem_cons hlt
      obtain ⟨t, ht⟩ : ∃ t, t = l[pos] := ⟨_, rfl⟩
      have hts : t.v.s.size ≤ maxLen := by rw [ht]; exact (hok _ (List.getElem_mem hlt)).2.1.2.2
      rw [← ht] at c0 c1 c2 c3 c4 hdc
      have hV := fun w => rfields_any t.op t.v.k t.v.n t.c t.v.s w hts
      have hte : (⟨t.op, ⟨t.v.k, t.v.n, t.v.s⟩, t.c⟩ : Tm) = t := rfl
      rw [hte] at hV
      have hA := fun w => rarity_any t.op w
      have hl64 : (pos : Int) < (l.length : Int) := by omega
      have y0 : (((d : Int) + 1) == 0) = false := by rw [beq_eq_false_iff_ne]; omega
      have z' : decide (l.length ≤ pos) = false := by simp; omega
      by_cases h0 : 0 ≤ arityI t.op
      · have y1 : decide (arityI t.op < 0) = false := by simp; omega
        obtain ⟨ar, har⟩ : ∃ ar : Nat, arityI t.op = ar := ⟨(arityI t.op).toNat, by omega⟩
        have har3 : ar ≤ 3 := by have := arity_cases t.op; omega
        rw [har] at hA y1
        cases hfb : fieldsB t
        · have htb : termB t = false := by unfold termB; rw [hfb]; simp
          have hN : Hid (∀ x r, Head (l.drop pos) x r → d + 1 < x.depth) := by unfold Hid; rw [hdc]; exact fun x r h => absurd h (head_bad htb x r)
          rw [hfb] at hV
          have HV := Lib.hid hV
          have HA := Lib.hid hA
          clear hV hA hfb htb hte ht hts hT ih hdc har h0
          go_enter Tryz.func162, Tryz.ntmps162
          go_wp2_with fail
          refine (HA.out _).mono ?_
          rintro e w' ⟨rfl, rfl⟩
          go_wp2_with fail
          refine (HV.out _).mono ?_
          rintro e w' ⟨rfl, hb2⟩
          go_wp2_with fail
          go_ret
          exact ⟨hb2, .inr ⟨hN, rfl⟩⟩
        · have htb : termB t = true := by unfold termB; rw [hfb]; simp [h0]
          rw [hfb] at hV
          have HV := Lib.hid hV
          have HA := Lib.hid hA
          have HT := Lib.hid hT
          have Htb := Lib.hid htb
          have Har := Lib.hid har
          have Hdc := Lib.hid hdc
          have IH := Lib.hid (ih (by omega))
          clear hV hA htb hte ht hts hT ih hdc har h0 hfb
          go_enter Tryz.func162, Tryz.ntmps162
          go_wp2_with fail
          refine (HA.out _).mono ?_
          rintro e w' ⟨rfl, rfl⟩
          go_wp2_with fail
          refine (HV.out _).mono ?_
          rintro e w' ⟨rfl, hb2⟩
          have c0' := (hb2.cell (p := ⟨b, off + pos * 5, none⟩) (World.block_lt_of_cell? _ _ c0)).trans c0
          have Hb2 := Lib.hid hb2
          clear c1 c2 c3 c4 hb2
          go_wp2_with fail
          refine (HA.out _).mono ?_
          rintro e w' ⟨rfl, rfl⟩
          go_wp2_with fail
          go_loopw [1, 8] (fun ev iv wr => ∃ (xs : List Ex) (r : List Tm) (k q : Nat), iv = .int .i64 k ∧ ev = .int .i64 q ∧ k ≤ ar ∧ q ≤ l.length ∧ Hid (k = xs.length ∧ depths xs ≤ d ∧ q + r.length = l.length ∧ l.drop (pos + 1) = flats xs ++ r ∧ oks xs) ∧ Hid (Below w.heap.size w wr)) (fun _ i _ => ar - (intOf i).toNat)
          case atStart => exact ⟨[], l.drop (pos + 1), 0, pos + 1, rfl, rfl, by omega, by omega, ⟨rfl, by simp [depths], by simp; omega, rfl, by simp [oks]⟩, Hb2.out⟩
          case round =>
            obtain ⟨xs, r, k, q, rfl, rfl, hk, hq, hX, hB⟩ := hrel
            by_cases hka : k < ar
            · have h1 : Hid (l.drop q = r) := by
                obtain ⟨h1, h2, h3, h4, h5⟩ := hX.out
                obtain ⟨h6, h7⟩ := drop_suffix h4 (by omega)
                unfold Hid
                rw [show q = l.length - r.length by omega]; exact h6.symm
              have hsz := hB.out.size
              have hd1 : ((d + 1 : Nat) : Int) - 1 = (d : Int) := by omega
              go_wp2_with fail
              refine (IH.out q hq _ (HT.out.later hB.out)).mono ?_
              rintro e w' ⟨hb3, hP⟩
              have hb4 := Lib.hid (hB.out.trans (hb3.mono hsz))
              clear hb3
              rcases hP with ⟨x, r', q', hH, rfl⟩ | ⟨hF, rfl⟩
              · rw [h1.out] at hH
                have hql : q' ≤ l.length := by have := hH.out.2.2; omega
                go_wp2_with fail
                refine ⟨⟨xs ++ [x], r', k + 1, q', by go_num, rfl, by omega, hql, ?_, hb4.out⟩, by simp [intOf]; omega⟩
                obtain ⟨g1, g2, g3, g4, g5⟩ := hX.out
                obtain ⟨⟨g8, g9⟩, g6, g7⟩ := hH.out
                refine ⟨by simp; omega, by rw [depths_app]; simp [depths]; omega, g7, by rw [g4, g8, flats_app]; simp [flats], ?_⟩
                intro y hy
                rcases List.mem_append.1 hy with hy | hy
                · exact g5 y hy
                · rw [List.mem_singleton.1 hy]; exact g9
              · have hN : Hid (∀ x r, Head (l.drop pos) x r → d + 1 < x.depth) := by
                  obtain ⟨g1, g2, g3, g4, g5⟩ := hX.out
                  unfold Hid
                  rw [Hdc.out]
                  rw [h1.out] at hF
                  exact head_deep Har.out g5 g4 (by omega) hF.out
                go_wp2_with fail
                go_ret
                exact ⟨hb4.out, .inr ⟨hN, rfl⟩⟩
            · have hka' : k = ar := by omega
              subst hka'
              clear hka
              go_wp2_with fail
              go_ret
              refine ⟨hB.out, .inl ⟨Ex.node t xs, r, q, ?_, rfl⟩⟩
              obtain ⟨g1, g2, g3, g4, g5⟩ := hX.out
              unfold Hid
              rw [Hdc.out]
              exact ⟨head_node Htb.out (by rw [Har.out, g1]) g5 g4 (by omega), by rw [Ex.depth_eq, node_args _ _ (by omega)]; omega, g3⟩
      · have y1 : decide (arityI t.op < 0) = true := by simp; omega
        have htb : termB t = false := by unfold termB; simp [h0]
        have hN : Hid (∀ x r, Head (l.drop pos) x r → d + 1 < x.depth) := by unfold Hid; rw [hdc]; exact fun x r h => absurd h (head_bad htb x r)
        generalize arityI t.op = ar at *
        have HA := Lib.hid hA
        clear hV hA htb hte ht hts hT ih hdc h0
        go_enter Tryz.func162, Tryz.ntmps162
        go_wp2_with fail
        refine (HA.out _).mono ?_
        rintro e w' ⟨rfl, rfl⟩
        go_wp2_with fail
        go_ret
        exact ⟨Below.refl _ _, .inr ⟨hN, rfl⟩⟩
    · have hd : l.drop pos = [] := List.drop_eq_nil_of_le (by omega)
      have hN : Hid (∀ x r, Head (l.drop pos) x r → d + 1 < x.depth) := by unfold Hid; rw [hd]; exact fun x r h => absurd h (head_nil x r)
      have z : decide ((l.length : Int) ≤ (pos : Int)) = true := by simp; omega
      clear hd hT ih hok
      go_enter Tryz.func162, Tryz.ntmps162
      go_wp2_with fail
      go_ret
      exact ⟨Below.refl _ _, .inr ⟨hN, rfl⟩⟩
theorem rexValid_any (ao : Option Addr) (cap : Nat) (l : List Tm) (hl : l.length ≤ maxLen) (hok : ∀ t ∈ l, t.okT) (w : World) (hT : TmsAt w w.heap.size ao l) :
    Calls Tryz.prog 143 #[.slice ao l.length cap] w (Gives (.bool (validL l)) w) := by
  unfold maxLen at hl
  by_cases h64 : l.length ≤ 64
  · by_cases h1 : 1 ≤ l.length
    · have z1 : decide ((1 : Int) ≤ (l.length : Int)) = true := by simp; omega
      have hM := Lib.hid (rend_any ao cap l h64 hok 16 (by omega) 0 (by omega) w hT)
      have hv : ∀ e w', EndP l 0 16 w e w' → Below w.heap.size w w' ∧ ∃ q : Int, e = .returned (.int .i64 q) ∧ Hid (validL l = (q == (l.length : Int))) := by
        rintro e w' ⟨hb, hP⟩
        refine ⟨hb, ?_⟩
        rcases hP with ⟨x, r, q, hH, rfl⟩ | ⟨hF, rfl⟩
        · refine ⟨q, rfl, ?_⟩
          obtain ⟨h2, h3, h4⟩ := hH.out
          rw [List.drop_zero] at h2
          unfold Hid
          rw [Bool.eq_iff_iff, validL_iff, beq_iff_eq]
          constructor
          · rintro ⟨y, hy, _, _⟩
            obtain ⟨_, rfl⟩ := h2.uniq hy
            simp at h4; omega
          · intro h5
            have hr : r = [] := List.eq_nil_of_length_eq_zero (by omega)
            rw [hr] at h2
            exact ⟨x, h2, h3, h64⟩
        · refine ⟨-1, rfl, ?_⟩
          have hF2 := hF.out
          rw [List.drop_zero] at hF2
          unfold Hid
          rw [Bool.eq_iff_iff, validL_iff, beq_iff_eq]
          constructor
          · rintro ⟨y, hy, h6, _⟩
            have := hF2 _ _ hy
            omega
          · intro h5; omega
      have HV := Lib.hid hv
      clear hv hT hok
      go_enter Tryz.func143, Tryz.ntmps143
      go_wp2_with fail
      refine hM.out.mono ?_
      intro e w' hP
      obtain ⟨hb, q, rfl, hq⟩ := HV.out _ _ hP
      clear hP hM HV
      go_wp2_with fail
      go_ret
      exact ⟨ret_b hq.out.symm, hb⟩
    · have z1 : decide ((1 : Int) ≤ (l.length : Int)) = false := by simp; omega
      have hl0 : l = [] := List.eq_nil_of_length_eq_zero (by omega)
      have hv : validL l = false := by subst hl0; rfl
      rw [hv]
      clear hT hok hl0 hv
      go_enter Tryz.func143, Tryz.ntmps143
      go_wp2_with fail
      go_ret
      exact ⟨rfl, Below.refl _ _⟩
  · have z1 : decide ((1 : Int) ≤ (l.length : Int)) = true := by simp; omega
    rw [validL_long (by omega)]
    clear hT hok
    go_enter Tryz.func143, Tryz.ntmps143
    go_wp2_with fail
    go_ret
    exact ⟨rfl, Below.refl _ _⟩
end Go.Proofs.YtenonljnldbkiaaGreatDoor
/- bushy of the laws: an expression of so many terms that is not deep. -/
namespace Go.Proofs.YtenonljnldbkiaaGreatDoor
open Go.RowKit Go.Proofs.EB
set_option maxHeartbeats 4000000
set_option maxRecDepth 100000
attribute [local go_sem] World.cell?_alloc_some

theorem zeroB_nil : zeroB ⟨0, 0, ⟨#[]⟩⟩ = true := by unfold zeroB; rw [toList_nil]; rfl
/-- A term of an operator, and a term of a column. -/
def opTm (o : Int) : Tm := ⟨o, ⟨0, 0, ⟨#[]⟩⟩, 0⟩
def colTm (c : Int) : Tm := ⟨2, ⟨0, 0, ⟨#[]⟩⟩, c⟩
theorem opTm_ok {o : Int} (h : 3 ≤ o) (h2 : o ≤ 18) : termB (opTm o) = true := by
  unfold opTm
  have h3 : 0 ≤ arityI o := by unfold arityI; repeat' split <;> omega
  rw [termB_op h3 (by omega) (by omega), zeroB_nil]; rfl
theorem colTm_ok {c : Int} (h : 0 ≤ c) : termB (colTm c) = true := by
  unfold colTm
  rw [termB_col, zeroB_nil]; simpa using h
theorem nil_ok : (⟨0, 0, ⟨#[]⟩⟩ : V).ok := ⟨⟨by decide, by decide⟩, ⟨by decide, by decide⟩, by simp [maxLen, ByteArray.size]⟩
/-- A call that gives one expression as a row of terms. -/
def GivesX (p : Ex → Prop) (w : World) (e : Ending) (w' : World) : Prop := ∃ ao cap l x, Hid (l = x.flat ∧ x.ok ∧ p x ∧ ∀ t ∈ l, t.okT) ∧ e = .returned (.slice ao l.length cap) ∧ TmsAt w' w'.heap.size ao l ∧ (ao = none → cap = 0) ∧ Below w.heap.size w w'
end Go.Proofs.YtenonljnldbkiaaGreatDoor
/- The tape's leaf, Expr and SpoilExpr. -/
namespace Go.Proofs.YtenonljnldbkiaaGreatDoor
open Go.RowKit Go.Proofs.EB
set_option maxHeartbeats 4000000
set_option maxRecDepth 100000
attribute [local go_sem] World.cell?_alloc_some

/-- How many terms an expression of the tape has at most. -/
def tsz : Nat → Nat
  | 0 => 1
  | d + 1 => 1 + 3 * tsz d
def ColsB (n : Nat) (l : List Tm) : Prop := ∀ t ∈ l, t.op = 2 → 0 ≤ t.c ∧ t.c < n
/-- A call of the tape that gives an expression. -/
def ExprPost (w : World) (B g d n : Nat) (e : Ending) (w' : World) : Prop :=
  ∃ (ao : Option Addr) (cap : Nat) (l : List Tm) (x : Ex), Hid (l = x.flat ∧ x.ok ∧ x.depth ≤ d + 1 ∧ l.length ≤ tsz d ∧ (∀ t ∈ l, t.okT) ∧ ColsB n l) ∧ e = .returned (.slice ao l.length cap) ∧ TmsAt w' w'.heap.size ao l ∧ (ao = none → cap = 0) ∧ (∀ b o, ao = some ⟨b, o, none⟩ → w.heap.size ≤ b ∧ b < w'.heap.size) ∧ l.length ≤ cap ∧ Took w B g w'
theorem constTm_ok {k n : Int} {s : ByteArray} (h : vB ⟨k, n, s⟩ = true) (hk : k ≠ 0) : termB ⟨1, ⟨k, n, s⟩, 0⟩ = true := by
  rw [termB_const]
  have h1 : validB k n s = true := h
  rw [h1]; simp [hk]
theorem leaf_any (B g d n : Nat) (hn : 1 ≤ n) (hn2 : n ≤ 1000) (w : World) (hT : TapeAt w B g) (hB : B ≤ w.heap.size) :
    Calls Tryz.prog 116 #[.pointer (some ⟨g, 0, none⟩), .int .i64 n] w (ExprPost w B g d n) := by
  have tpos : 1 ≤ tsz d := by cases d <;> simp [tsz]
  have Hp := Lib.hid tpos
  have HT := Lib.hid hT
  clear hT tpos
  go_enter Tryz.func116, Tryz.ntmps116
  go_wp2_with fail
  refine (next_any B g 3 w (by decide) (by decide) HT.out hB).mono ?_
  rintro e w1 ⟨r, rfl, hr0, hr1, hK⟩
  have HK := Lib.hid hK
  clear hr1 hK
  by_cases h0 : 0 < r
  · go_wp2_with fail
    refine (next_any B g n w1 (by omega) (by omega) HK.out.1 HK.out.2.2).mono ?_
    rintro e w2 ⟨c, rfl, hc0, hc1, hK2⟩
    have HK2 := Lib.hid (HK.out.trans hK2)
    have Hc := Lib.hid (show 0 ≤ c ∧ c < n by omega)
    clear hK2 hc0 hc1 hr0 h0
    go_wp2_with fail
    go_ret
    refine ⟨some ⟨w2.heap.size, 0, none⟩, 1, [colTm c], .x0 (colTm c), ⟨rfl, ⟨colTm_ok Hc.out.1, rfl⟩, by simp [Ex.depth], by simpa using Hp.out, ?_, ?_⟩, rfl, rAt_block encTm_len (heap_alloc_new _ _) rfl, by simp, ?_, by simp, HK2.out.below (al1 _ _)⟩
    · intro t ht
      rw [List.mem_singleton.1 ht]
      have := Hc.out
      exact ⟨⟨by show (_ : Int) ≤ 2; decide, by show (2 : Int) ≤ _; decide⟩, nil_ok, ⟨by show _ ≤ c; omega, by show c ≤ _; omega⟩⟩
    · intro t ht _
      rw [List.mem_singleton.1 ht]
      exact Hc.out
    · intro b o h
      simp at h
      have := HK2.out.2.1.size
      simp only [World.size_alloc]
      omega
  · have hr : r = 0 := by omega
    subst hr
    clear h0 hr0
    go_wp2_with fail
    refine (next_any B g 2 w1 (by decide) (by decide) HK.out.1 HK.out.2.2).mono ?_
    rintro e w2 ⟨r, rfl, hr0, hr1, hK2⟩
    have HK2 := Lib.hid (HK.out.trans hK2)
    have hrr : r = 0 ∨ r = 1 := by omega
    clear hK2 hr0 hr1 HK
    have fin : ∀ (kd : Int), kd = 1 ∨ kd = 2 → ∀ (k m : Int) (s : ByteArray) (w3 : World), vB ⟨k, m, s⟩ = true → (⟨k, m, s⟩ : V).ok → Hid (k = kd) → Took w B g w3 →
        ExprPost w B g d n (.returned (.slice (some ⟨w3.heap.size, 0, none⟩) 1 1)) (w3.alloc (.cells #[.int .i64 1, .int .i64 k, .int .i64 m, .string s, .int .i64 0] 144)) := by
      intro kd hkd k m s w3 hv hok hk hK3
      refine ⟨some ⟨w3.heap.size, 0, none⟩, 1, [⟨1, ⟨k, m, s⟩, 0⟩], .x0 ⟨1, ⟨k, m, s⟩, 0⟩, ⟨rfl, ⟨constTm_ok hv (by have := hk.out; omega), rfl⟩, by simp [Ex.depth], by simpa using Hp.out, ?_, ?_⟩, rfl, rAt_block encTm_len (heap_alloc_new _ _) rfl, by simp, ?_, by simp, hK3.below (al1 _ _)⟩
      · intro t ht
        rw [List.mem_singleton.1 ht]
        exact ⟨⟨by show (_ : Int) ≤ 1; decide, by show (1 : Int) ≤ _; decide⟩, hok, ⟨by show (_ : Int) ≤ 0; decide, by show (0 : Int) ≤ _; decide⟩⟩
      · intro t ht h2
        rw [List.mem_singleton.1 ht] at h2
        simp at h2
      · intro b o h
        simp at h
        have := hK3.2.1.size
        simp only [World.size_alloc]
        omega
    have Fin := Lib.hid fin
    clear fin
    rcases hrr with rfl | rfl
    · go_wp2_with fail
      refine (text_anyK B g _ HK2.out.1 HK2.out.2.2).mono ?_
      rintro e w3 ⟨k, m, s, rfl, hv, hok, hk, hK3⟩
      have HK3 := Lib.hid (HK2.out.trans hK3)
      have Hv := Lib.hid hv
      have Hok := Lib.hid hok
      clear hK3 hv hok
      go_wp2_with fail
      go_ret
      exact Fin.out 2 (.inr rfl) k m s w3 Hv.out Hok.out hk HK3.out
    · go_wp2_with fail
      refine (int_anyK B g _ HK2.out.1 HK2.out.2.2).mono ?_
      rintro e w3 ⟨k, m, s, rfl, hv, hok, hk, hK3⟩
      have HK3 := Lib.hid (HK2.out.trans hK3)
      have Hv := Lib.hid hv
      have Hok := Lib.hid hok
      clear hK3 hv hok
      go_wp2_with fail
      go_ret
      exact Fin.out 1 (.inl rfl) k m s w3 Hv.out Hok.out hk HK3.out
theorem own_away {g B : Nat} {w wr w2 : World} {v : Value} {l : List Tm} (h : OwnsTm wr w.heap.size v l) (ha : Away (some g) wr w2) (hg : g < B) (hB : B ≤ w.heap.size) : OwnsTm w2 w.heap.size v l :=
  OwnsR.away h ha (by
    cases hv : v.ownBlock with
    | none => exact .inl rfl
    | some b => right; have := (OwnsR.lt h b hv).1; simp; omega)
theorem tsz_pos (d : Nat) : 1 ≤ tsz d := by cases d <;> simp [tsz]
theorem tape_lt {w : World} {B g : Nat} (h : TapeAt w B g) : g < B := by obtain ⟨_, _, _, _, _, _, _, hg, _⟩ := h; exact hg
theorem expr_any (B g n : Nat) (hn : 1 ≤ n) (hn2 : n ≤ 1000) : ∀ (d : Nat), d ≤ 5 → ∀ z : Int, Hid (z = (d : Int) + 1) → ∀ w : World, TapeAt w B g → B ≤ w.heap.size →
    Calls Tryz.prog 73 #[.pointer (some ⟨g, 0, none⟩), .int .i64 z, .int .i64 n] w (ExprPost w B g d n) := by
  intro d
  induction d with
  | zero =>
    intro _ z hz w hT hB
    have z1 : z ≤ 1 := by have := hz.out; omega
    have HL := Lib.hid (leaf_any B g 0 n hn hn2 w hT hB)
    clear hT
    go_enter Tryz.func73, Tryz.ntmps73
    go_wp2_with fail
    refine HL.out.mono ?_
    rintro e w1 ⟨ao, cap, l, x, hx, rfl, h1, h2, h3, h4, h5⟩
    go_wp2_with fail
    go_ret
    exact ⟨ao, cap, l, x, hx, rfl, h1, h2, h3, h4, h5⟩
  | succ d ih =>
    intro hd z hz w hT hB
    have z1 : 1 < z := by have := hz.out; omega
    have z2 : z ≤ 7 := by have := hz.out; omega
    have IH := Lib.hid (ih (by omega))
    have HT := Lib.hid hT
    have hgB := tape_lt hT
    clear hT ih
    go_enter Tryz.func73, Tryz.ntmps73
    go_wp2_with fail
    refine (next_any B g 4 w (by decide) (by decide) HT.out hB).mono ?_
    rintro e w1 ⟨r, rfl, hr0, hr1, hK⟩
    have HK := Lib.hid hK
    clear hr1 hK
    by_cases h0 : r = 0
    · subst h0
      clear hr0
      go_wp2_with fail
      refine (leaf_any B g (d + 1) n hn hn2 w1 HK.out.1 HK.out.2.2).mono ?_
      rintro e w2 ⟨ao, cap, l, x, hx, rfl, h1, h2, h3, h4, h5⟩
      go_wp2_with fail
      go_ret
      exact ⟨ao, cap, l, x, hx, rfl, h1, h2, fun b o h => by have := h3 b o h; have := HK.out.2.1.size; omega, h4, HK.out.trans h5⟩
    · have y0 : (r == 0) = false := by simpa using h0
      go_wp2_with fail
      refine (next_any B g 16 w1 (by decide) (by decide) HK.out.1 HK.out.2.2).mono ?_
      rintro e w2 ⟨r2, rfl, hr2, hr3, hK⟩
      replace HK := Lib.hid (HK.out.trans hK)
      have hr4 : r2 < 16 := by omega
      clear hr3 hK h0 y0 hr0
      go_wp2_with fail
      refine (rarity_any _ _).mono ?_
      rintro e w3 ⟨rfl, rfl⟩
      obtain ⟨o, ho⟩ : ∃ o, o = 3 + r2 := ⟨_, rfl⟩
      rw [← ho]
      have ho1 : 3 ≤ o := by omega
      have ho2 : o ≤ 18 := by omega
      have hA0 : 0 ≤ arityI o := by unfold arityI; repeat' split <;> omega
      obtain ⟨ar, har⟩ : ∃ ar : Nat, arityI o = ar := ⟨(arityI o).toNat, by omega⟩
      have har3 : ar ≤ 3 := by have := arity_cases o; omega
      have har1 : 1 ≤ ar := by
        rcases Nat.eq_zero_or_pos ar with h | h
        · rcases arity0 (op := o) (by omega) with h | h <;> omega
        · exact h
      rw [har]
      have Har := Lib.hid har
      have hown1 : OwnsTm (w2.alloc (.cells #[.int .i64 o, .int .i64 0, .int .i64 0, .string ⟨#[]⟩, .int .i64 0] 144)) w.heap.size (.slice (some ⟨w2.heap.size, 0, none⟩) 1 1) [opTm o] := ownsR_new encTm_len (heap_alloc_new _ _) HK.out.2.1.size rfl (by simp [maxLen])
      have HK4 := Lib.hid (HK.out.below (al1 w2 (.cells #[.int .i64 o, .int .i64 0, .int .i64 0, .string ⟨#[]⟩, .int .i64 0] 144)))
      have hs4 := HK4.out.2.1.size
      have Hown1 := Lib.hid hown1
      clear har hA0 hr2 hr4 ho hown1
      go_wp2_with fail
      generalize (w2.alloc (.cells #[.int .i64 o, .int .i64 0, .int .i64 0, .string ⟨#[]⟩, .int .i64 0] 144)) = w4 at *
      clear HK HT
      go_loopw [8, 9] (fun v i wr => ∃ (k : Nat) (l : List Tm) (ad : Option Addr) (cp : Nat) (xs : List Ex), i = .int .i64 k ∧ v = .slice ad l.length cp ∧ k ≤ 3 ∧ Hid (l = opTm o :: flats xs ∧ oks xs ∧ depths xs ≤ d + 1 ∧ xs.length + k = ar ∧ (flats xs).length ≤ xs.length * tsz d ∧ (∀ t ∈ l, t.okT) ∧ ColsB n l) ∧ Hid (OwnsTm wr w.heap.size (.slice ad l.length cp) l) ∧ Hid (Took w B g wr) ∧ w.heap.size ≤ wr.heap.size) (fun _ i _ => (intOf i).toNat)
      case atStart =>
        refine ⟨ar, [opTm o], some ⟨w2.heap.size, 0, none⟩, 1, [], rfl, rfl, har3, ⟨rfl, by simp [oks], by simp [depths], by simp, by simp [flats], ?_, ?_⟩, Hown1.out, HK4.out, hs4⟩
        · intro t ht
          rw [List.mem_singleton.1 ht]
          exact ⟨⟨by show _ ≤ o; omega, by show o ≤ _; omega⟩, nil_ok, ⟨by show (_ : Int) ≤ 0; decide, by show (0 : Int) ≤ _; decide⟩⟩
        · intro t ht h2
          rw [List.mem_singleton.1 ht] at h2
          have : o = 2 := h2
          omega
      case round =>
        obtain ⟨k, l, ad, cp, xs, rfl, rfl, hk, hX, hown, hTk, hsz⟩ := hrel
        have htz := Lib.hid (show tsz d ≤ 400 by
          have : ∀ d : Nat, d ≤ 5 → tsz d ≤ 400 := fun d hd => by
            have : ∀ j : Fin 6, tsz j.1 ≤ 400 := by decide
            exact this ⟨d, by omega⟩
          exact this d (by omega))
        by_cases hk0 : 0 < k
        · have hz1 : Hid (z - 1 = (d : Int) + 1) := by have := hz.out; unfold Hid; omega
          go_wp2_with fail
          refine (IH.out _ hz1 wr hTk.out.1 hTk.out.2.2).mono ?_
          rintro e w5 ⟨ao2, cap2, l2, x2, hx2, rfl, hT2, hnil2, _, _, hK2⟩
          have hown2 := own_away hown.out hK2.2.1 hgB hB
          have HK2 := Lib.hid (hTk.out.trans hK2)
          have hs5 : w.heap.size ≤ w5.heap.size := HK2.out.2.1.size
          have hl1 : l.length ≤ 1600 := by
            obtain ⟨e1, _, _, e4, e5, _⟩ := hX.out
            rw [e1]
            have h7 := htz.out
            have h8 : xs.length * tsz d ≤ 3 * tsz d := Nat.mul_le_mul_right _ (by omega)
            simp; omega
          have hl2 : l2.length ≤ 400 := by have := hx2.out.2.2.2.1; have := htz.out; omega
          clear hK2 hown hTk
          go_wp2_with (at_builtin; refine wpList_copyR (enc := encTm) (m := 5) Tryz.underlying55 infoTm rfl (by decide) encTm_len encTm_one w5 rfl (.tmp 32) (.tmp 37) rfl w.heap.size _ l rfl hown2 w5.heap.size ao2 cap2 l2 rfl hT2 hnil2 ?_ ?_ hs5 ?_)
          · omega
          · unfold maxLen; omega
          intro l3 v3 w6 hl3 hown3 haw3 hb3 _ _
          obtain ⟨ao3, cap3, rfl, _, _, _, _, _⟩ := OwnsR.rAt encTm_len hown3
          have HK3 := HK2.out.fresh haw3 (fun b hb => by have := (OwnsR.lt hown2 b hb).1; omega)
          obtain ⟨e1, e2, e3, e4, e5, e6, e7⟩ := hX.out
          obtain ⟨f1, f2, f3, f4, f5, f6⟩ := hx2.out
          go_wp2_with fail
          refine ⟨⟨k - 1, l3, ao3, cap3, xs ++ [x2], by rw [show ((k - 1 : Nat) : Int) = (k : Int) - 1 by omega] <;> rfl, rfl, by omega, ⟨?_, ?_, ?_, ?_, ?_, ?_, ?_⟩, hown3, HK3, HK3.2.1.size⟩, by show ((k : Int) - 1).toNat < ((k : Int)).toNat; omega⟩
          · rw [hl3.out, e1, f1, flats_app]; simp [flats]
          · intro y hy
            rcases List.mem_append.1 hy with hy | hy
            · exact e2 y hy
            · rw [List.mem_singleton.1 hy]; exact f2
          · rw [depths_app]; simp [depths]; omega
          · simp; omega
          · rw [flats_app, List.length_append, List.length_append, Nat.add_mul]
            simp only [flats, List.append_nil, List.length_cons, List.length_nil]
            rw [← f1]; omega
          · intro t ht
            rw [hl3.out] at ht
            rcases List.mem_append.1 ht with ht | ht
            · exact e6 t ht
            · exact f5 t ht
          · intro t ht
            rw [hl3.out] at ht
            rcases List.mem_append.1 ht with ht | ht
            · exact e7 t ht
            · exact f6 t ht
        · have hk1 : k = 0 := by omega
          subst hk1
          clear hk0
          go_wp2_with fail
          go_ret
          obtain ⟨e1, e2, e3, e4, e5, e6, e7⟩ := hX.out
          obtain ⟨ao, cap, heq, hr, hlo, hnil, hle, _⟩ := OwnsR.rAt encTm_len hown.out
          simp only [Value.slice.injEq, true_and] at heq
          obtain ⟨rfl, rfl⟩ := heq
          have h3 : xs.length ≤ 3 := by omega
          refine ⟨ad, cp, l, Ex.node (opTm o) xs, ⟨?_, ?_, ?_, ?_, e6, e7⟩, rfl, hr, hnil, hlo, hle, hTk.out⟩
          · rw [Ex.flat_eq, node_head, node_args _ _ h3, e1]
          · rw [Ex.ok_iff, node_head, node_args _ _ h3]
            exact ⟨opTm_ok ho1 ho2, by show arityI o = _; rw [Har.out]; omega, e2⟩
          · rw [Ex.depth_eq, node_args _ _ h3]; omega
          · rw [e1]
            have h8 : xs.length * tsz d ≤ 3 * tsz d := Nat.mul_le_mul_right _ h3
            simp only [List.length_cons, tsz]; omega
end Go.Proofs.YtenonljnldbkiaaGreatDoor
/- The tape's SpoilExpr. -/
namespace Go.Proofs.YtenonljnldbkiaaGreatDoor
open Go.RowKit Go.Proofs.EB
set_option maxHeartbeats 4000000
set_option maxRecDepth 100000
attribute [local go_sem] World.cell?_alloc_some

theorem OwnsR.marks {α : Type} {enc : α → List Value} {m : Nat} {w : World} {B g cap : Nat} {e : TypeId} {l : List α} (h : OwnsR enc m w B e (.slice (some ⟨g, 0, none⟩) l.length cap) l) : ∀ o, w.frozen? ⟨g, o, none⟩ = false := by
  intro o
  rcases h.2 with ⟨h0, _⟩ | ⟨g', cap', cur, h0, _, hg, _⟩
  · cases h0
  · simp only [Value.slice.injEq, Option.some.injEq, Addr.mk.injEq] at h0
    obtain ⟨⟨rfl, _⟩, _⟩ := h0
    simp [World.frozen?, hg]
/-- One cell of one element is stored. -/
theorem RAt.set1 {α : Type} {enc : α → List Value} {m : Nat} (hm : ∀ a, (enc a).length = m) {w : World} {B b : Nat} {l : List α} (h : RAt enc m w B (some ⟨b, 0, none⟩) l) {i j : Nat} (hi : i < l.length) (hj : j < m) {v : Value} (t' : α)
    (ht : enc t' = (enc l[i]).set j v) : RAt enc m (w.setCell ⟨b, i * m + j, none⟩ v) B (some ⟨b, 0, none⟩) (l.set i t') := by
  rcases h with h0 | ⟨b', off', e, hlt, hc⟩
  · subst h0; simp at hi
  · simp only [Option.some.injEq, Addr.mk.injEq] at e
    obtain ⟨rfl, rfl, _⟩ := e
    refine .inr ⟨b, 0, rfl, hlt, fun i' hi' j' u hu => ?_⟩
    rw [List.length_set] at hi'
    have hj' : j' < m := by have := (List.getElem?_eq_some_iff.1 hu).1; rw [hm] at this; exact this
    have hij : (enc l[i])[j]? = some ((enc l[i])[j]'(by rw [hm]; exact hj)) := List.getElem?_eq_getElem _
    by_cases hii : i' = i
    · subst hii
      rw [List.getElem_set_self, ht] at hu
      by_cases hjj : j' = j
      · subst hjj
        have e1 : u = v := by
          rw [List.getElem?_set_self (by rw [hm]; exact hj)] at hu
          exact (Option.some.inj hu).symm
        subst e1
        have := World.cell?_setCell_same w ⟨b, i' * m + j', none⟩ u (hc i' hi j' _ hij |> fun h => by simpa using h)
        simpa using this
      · rw [List.getElem?_set_ne (fun h => hjj h.symm)] at hu
        rw [World.cell?_setCell_other _ _ _ _ (by intro h; simp only [Addr.mk.injEq, true_and, and_true] at h; omega)]
        exact hc i' hi j' u hu
    · rw [List.getElem_set_ne (fun h => hii h.symm)] at hu
      rw [World.cell?_setCell_other _ _ _ _ (by
        simp only [ne_eq, Addr.mk.injEq, not_and]
        intro _ h
        exfalso
        have h2 : i' * m + j' = i * m + j := by omega
        have h3 : i' = i := by
          have := congrArg (· / m) h2
          simp only [Nat.mul_comm i' m, Nat.mul_comm i m, Nat.mul_add_div (by omega : 0 < m), Nat.div_eq_of_lt hj', Nat.div_eq_of_lt hj] at this
          omega
        exact hii h3)]
      exact hc i' hi' j' u hu
/-- A call of the tape that gives some terms. -/
def TermsPost (w : World) (B g k : Nat) (e : Ending) (w' : World) : Prop :=
  ∃ (ao : Option Addr) (cap : Nat) (l : List Tm), Hid (l.length ≤ k ∧ ∀ t ∈ l, t.okT) ∧ e = .returned (.slice ao l.length cap) ∧ TmsAt w' w'.heap.size ao l ∧ Took w B g w'
theorem okT_set {l : List Tm} {i : Nat} {t' : Tm} (h : ∀ t ∈ l, t.okT) (ht : t'.okT) : ∀ t ∈ l.set i t', t.okT := by
  intro t hm
  rcases List.mem_or_eq_of_mem_set hm with h1 | h1
  · exact h t h1
  · rw [h1]; exact ht
theorem own_tm {w : World} {B b cp : Nat} {l : List Tm} (h : OwnsTm w B (.slice (some ⟨b, 0, none⟩) l.length cp) l) {i : Nat} (hi : i < l.length) :
    TmsAt w w.heap.size (some ⟨b, 0, none⟩) l ∧ w.cell? ⟨b, i * 5, none⟩ = some (.int .i64 l[i].op) ∧ w.cell? ⟨b, i * 5 + 1, none⟩ = some (.int .i64 l[i].v.k) ∧ w.cell? ⟨b, i * 5 + 2, none⟩ = some (.int .i64 l[i].v.n) ∧ w.cell? ⟨b, i * 5 + 3, none⟩ = some (.string l[i].v.s) ∧ w.cell? ⟨b, i * 5 + 4, none⟩ = some (.int .i64 l[i].c) ∧
    w.frozen? ⟨b, i * 5, none⟩ = false ∧ w.frozen? ⟨b, i * 5 + 1, none⟩ = false ∧ w.frozen? ⟨b, i * 5 + 2, none⟩ = false ∧ w.frozen? ⟨b, i * 5 + 3, none⟩ = false ∧ w.frozen? ⟨b, i * 5 + 4, none⟩ = false := by
  obtain ⟨ao, cap, heq, hr, _⟩ := OwnsR.rAt encTm_len h
  simp only [Value.slice.injEq] at heq
  obtain ⟨rfl, _, rfl⟩ := heq
  have hm := OwnsR.marks h
  obtain ⟨c0, c1, c2, c3, c4⟩ := RAt.tm hr hi
  simp only [Nat.zero_add] at c0 c1 c2 c3 c4
  exact ⟨hr, c0, c1, c2, c3, c4, hm _, hm _, hm _, hm _, hm _⟩
theorem rat_size {α : Type} {enc : α → List Value} {m : Nat} {w w' : World} {ao : Option Addr} {l : List α} (h : RAt enc m w' w.heap.size ao l) (hs : w.heap.size ≤ w'.heap.size) : RAt enc m w' w'.heap.size ao l := h.mono hs
theorem size_setCell (w : World) (a : Addr) (v : Value) : (w.setCell a v).heap.size = w.heap.size := by simp [World.setCell]
theorem set_all {w : World} {b : Nat} {l : List Tm} (h : TmsAt w w.heap.size (some ⟨b, 0, none⟩) l) {i : Nat} (hi : i < l.length) (o k n c : Int) (s : ByteArray) :
    TmsAt (((((w.setCell ⟨b, i * 5, none⟩ (.int .i64 o)).setCell ⟨b, i * 5 + 1, none⟩ (.int .i64 k)).setCell ⟨b, i * 5 + 2, none⟩ (.int .i64 n)).setCell ⟨b, i * 5 + 3, none⟩ (.string s)).setCell ⟨b, i * 5 + 4, none⟩ (.int .i64 c)) w.heap.size (some ⟨b, 0, none⟩) (l.set i ⟨o, ⟨k, n, s⟩, c⟩) := by
  have h1 := RAt.set1 encTm_len h hi (j := 0) (by omega) (v := .int .i64 o) ⟨o, l[i].v, l[i].c⟩ rfl
  have h2 := RAt.set1 encTm_len h1 (i := i) (by simpa using hi) (j := 1) (by omega) (v := .int .i64 k) ⟨o, ⟨k, l[i].v.n, l[i].v.s⟩, l[i].c⟩ (by rw [List.getElem_set_self]; rfl)
  rw [List.set_set] at h2
  have h3 := RAt.set1 encTm_len h2 (i := i) (by simpa using hi) (j := 2) (by omega) (v := .int .i64 n) ⟨o, ⟨k, n, l[i].v.s⟩, l[i].c⟩ (by rw [List.getElem_set_self]; rfl)
  rw [List.set_set] at h3
  have h4 := RAt.set1 encTm_len h3 (i := i) (by simpa using hi) (j := 3) (by omega) (v := .string s) ⟨o, ⟨k, n, s⟩, l[i].c⟩ (by rw [List.getElem_set_self]; rfl)
  rw [List.set_set] at h4
  have h5 := RAt.set1 encTm_len h4 (i := i) (by simpa using hi) (j := 4) (by omega) (v := .int .i64 c) ⟨o, ⟨k, n, s⟩, c⟩ (by rw [List.getElem_set_self]; rfl)
  rw [List.set_set] at h5
  exact h5
theorem set_op {w : World} {b : Nat} {l : List Tm} (h : TmsAt w w.heap.size (some ⟨b, 0, none⟩) l) {i : Nat} (hi : i < l.length) (o : Int) :
    TmsAt (w.setCell ⟨b, i * 5, none⟩ (.int .i64 o)) w.heap.size (some ⟨b, 0, none⟩) (l.set i ⟨o, l[i].v, l[i].c⟩) := RAt.set1 encTm_len h hi (j := 0) (by omega) (v := .int .i64 o) ⟨o, l[i].v, l[i].c⟩ rfl
theorem set_col {w : World} {b : Nat} {l : List Tm} (h : TmsAt w w.heap.size (some ⟨b, 0, none⟩) l) {i : Nat} (hi : i < l.length) (c : Int) :
    TmsAt (w.setCell ⟨b, i * 5 + 4, none⟩ (.int .i64 c)) w.heap.size (some ⟨b, 0, none⟩) (l.set i ⟨l[i].op, l[i].v, c⟩) := RAt.set1 encTm_len h hi (j := 4) (by omega) (v := .int .i64 c) ⟨l[i].op, l[i].v, c⟩ rfl
theorem set_val {w : World} {b : Nat} {l : List Tm} (h : TmsAt w w.heap.size (some ⟨b, 0, none⟩) l) {i : Nat} (hi : i < l.length) (k n : Int) (s : ByteArray) :
    TmsAt (((w.setCell ⟨b, i * 5 + 1, none⟩ (.int .i64 k)).setCell ⟨b, i * 5 + 2, none⟩ (.int .i64 n)).setCell ⟨b, i * 5 + 3, none⟩ (.string s)) w.heap.size (some ⟨b, 0, none⟩) (l.set i ⟨l[i].op, ⟨k, n, s⟩, l[i].c⟩) := by
  have h2 := RAt.set1 encTm_len h (i := i) hi (j := 1) (by omega) (v := .int .i64 k) ⟨l[i].op, ⟨k, l[i].v.n, l[i].v.s⟩, l[i].c⟩ rfl
  have h3 := RAt.set1 encTm_len h2 (i := i) (by simpa using hi) (j := 2) (by omega) (v := .int .i64 n) ⟨l[i].op, ⟨k, n, l[i].v.s⟩, l[i].c⟩ (by rw [List.getElem_set_self]; rfl)
  rw [List.set_set] at h3
  have h4 := RAt.set1 encTm_len h3 (i := i) (by simpa using hi) (j := 3) (by omega) (v := .string s) ⟨l[i].op, ⟨k, n, s⟩, l[i].c⟩ (by rw [List.getElem_set_self]; rfl)
  rw [List.set_set] at h4
  exact h4
set_option maxHeartbeats 8000000 in
theorem spoil_any (B g : Nat) (ao : Option Addr) (cap : Nat) (l : List Tm) (hl1 : 1 ≤ l.length) (hl : l.length ≤ 1000) (hnil : ao = none → cap = 0) (hok : ∀ t ∈ l, t.okT) (w : World) (hT : TapeAt w B g) (hB : B ≤ w.heap.size) (hA : TmsAt w w.heap.size ao l) :
    Calls Tryz.prog 72 #[.pointer (some ⟨g, 0, none⟩), .slice ao l.length cap] w (TermsPost w B g (l.length + 1)) := by
  have hgB := tape_lt hT
  have hown0 : OwnsTm (w.alloc (.cells #[] 144)) w.heap.size (.slice (some ⟨w.heap.size, 0, none⟩) ([] : List Tm).length 0) [] := ownsR_new encTm_len (heap_alloc_new _ _) (Nat.le_refl _) rfl (by simp [maxLen])
  have hA1 := hA.later (al1 w (.cells #[] 144))
  have hK0 := Lib.hid (tookBelow hT hB (al1 w (.cells #[] 144)))
  have Hok := Lib.hid hok
  clear hT hA hok
  go_enter Tryz.func72, Tryz.ntmps72
  go_wp2_with (at_builtin; refine wpList_copyR (enc := encTm) (m := 5) Tryz.underlying55 infoTm rfl (by decide) encTm_len encTm_one (w.alloc (.cells #[] 144)) rfl (.tmp 7) (.tmp 8) rfl w.heap.size _ [] rfl hown0 _ ao cap l rfl hA1 hnil ?_ ?_ (by simp) ?_)
  · simp; omega
  · unfold maxLen; simp; omega
  intro l1 v1 w1 hl1' hown1 haw1 hb1 _ hne
  obtain ⟨b, cp, rfl, hbB, hbl⟩ := own_form hown1 hne
  have hl1e : l1 = l := hl1'.out
  subst hl1e
  have HK := Lib.hid (hK0.out.fresh haw1 (fun k hk => by simp [Value.ownBlock] at hk; omega))
  have hcap : l1.length ≤ cp ∧ cp ≤ maxLen := by
    obtain ⟨_, _, heq, _, _, _, h1, h2⟩ := OwnsR.rAt encTm_len hown1
    simp only [Value.slice.injEq] at heq
    omega
  have Hown := Lib.hid hown1
  clear hown1 haw1 hb1 hne hl1' hown0 hA1 hK0
  go_wp2_with fail
  refine (next_any B g l1.length w1 (by omega) (by omega) HK.out.1 HK.out.2.2).mono ?_
  rintro e w2 ⟨i0, rfl, hi0, hi1, hK⟩
  obtain ⟨i, rfl⟩ : ∃ i : Nat, i0 = i := ⟨i0.toNat, by omega⟩
  have hi : i < l1.length := by omega
  have Hown := Lib.hid (own_away Hown.out hK.2.1 hgB hB)
  replace HK := Lib.hid (HK.out.trans hK)
  have Hi := Lib.hid hi
  have hii : (i : Int) < (l1.length : Int) := by omega
  have hBb : B ≤ b := by omega
  clear hK hi0 hi1
  go_wp2_with fail
  refine (next_any B g 7 w2 (by decide) (by decide) HK.out.1 HK.out.2.2).mono ?_
  rintro e w3 ⟨r, rfl, hr0, hr1, hK⟩
  have Hown := Lib.hid (own_away Hown.out hK.2.1 hgB hB)
  replace HK := Lib.hid (HK.out.trans hK)
  have hcase : r = 0 ∨ r = 1 ∨ r = 2 ∨ r = 3 ∨ r = 4 ∨ r = 5 ∨ r = 6 := by omega
  clear hK hr0 hr1
  have Hoki := Lib.hid (Hok.out _ (List.getElem_mem hi))
  rcases hcase with rfl | rfl | rfl | rfl | rfl | rfl | rfl
  · go_wp2_with fail
    refine (next_any B g 21 _ (by decide) (by decide) HK.out.1 HK.out.2.2).mono ?_
    rintro e w4 ⟨x, rfl, hx0, hx1, hK⟩
    have Hown := Lib.hid (own_away Hown.out hK.2.1 hgB hB)
    replace HK := Lib.hid (HK.out.trans hK)
    have Hx := Lib.hid (show 0 ≤ x ∧ x < 21 by omega)
    clear hK hx1
    obtain ⟨hr, c0, c1, c2, c3, c4, f0, f1, f2, f3, f4⟩ := own_tm Hown.out Hi.out
    have hxb : x < 21 := Hx.out.2
    go_wp2_with fail
    go_ret
    refine ⟨some ⟨b, 0, none⟩, cp, l1.set i ⟨x - 1, l1[i].v, l1[i].c⟩, ⟨by simp, okT_set Hok.out ?_⟩, by rw [List.length_set]; rfl, (by have h := set_op hr Hi.out (x - 1); refine h.mono ?_; simp only [size_setCell]; exact Nat.le_refl _), HK.out.setCell (p := ⟨b, _, none⟩) hBb hbB _⟩
    have := Hx.out
    exact ⟨⟨by show _ ≤ x - 1; omega, by show x - 1 ≤ _; omega⟩, Hoki.out.2⟩
  · go_wp2_with fail
    refine (tvalue_any B g _ HK.out.1 HK.out.2.2).mono ?_
    rintro e w4 ⟨k, m, s, rfl, hv, hk, hK⟩
    have Hown := Lib.hid (own_away Hown.out hK.2.1 hgB hB)
    replace HK := Lib.hid (HK.out.trans hK)
    have Hk := Lib.hid hk
    clear hK hk hv
    obtain ⟨hr, c0, c1, c2, c3, c4, f0, f1, f2, f3, f4⟩ := own_tm Hown.out Hi.out
    go_wp2_with fail
    go_ret
    refine ⟨some ⟨b, 0, none⟩, cp, l1.set i ⟨l1[i].op, ⟨k, m, s⟩, l1[i].c⟩, ⟨by simp, okT_set Hok.out ?_⟩, by rw [List.length_set]; rfl, (by have h := set_val hr Hi.out k m s; refine h.mono ?_; simp only [size_setCell]; exact Nat.le_refl _), ((HK.out.setCell (p := ⟨b, _, none⟩) hBb hbB _).setCell (p := ⟨b, _, none⟩) hBb hbB _).setCell (p := ⟨b, _, none⟩) hBb hbB _⟩
    exact ⟨Hoki.out.1, Hk.out, Hoki.out.2.2⟩
  · go_wp2_with fail
    refine (next_any B g 5 _ (by decide) (by decide) HK.out.1 HK.out.2.2).mono ?_
    rintro e w4 ⟨x, rfl, hx0, hx1, hK⟩
    have Hown := Lib.hid (own_away Hown.out hK.2.1 hgB hB)
    replace HK := Lib.hid (HK.out.trans hK)
    have Hx := Lib.hid (show 0 ≤ x ∧ x < 5 by omega)
    clear hK hx1
    obtain ⟨hr, c0, c1, c2, c3, c4, f0, f1, f2, f3, f4⟩ := own_tm Hown.out Hi.out
    have hxb : x < 5 := Hx.out.2
    go_wp2_with fail
    go_ret
    refine ⟨some ⟨b, 0, none⟩, cp, l1.set i ⟨l1[i].op, l1[i].v, x - 1⟩, ⟨by simp, okT_set Hok.out ?_⟩, by rw [List.length_set]; rfl, (by have h := set_col hr Hi.out (x - 1); refine h.mono ?_; simp only [size_setCell]; exact Nat.le_refl _), HK.out.setCell (p := ⟨b, _, none⟩) hBb hbB _⟩
    have := Hx.out
    exact ⟨Hoki.out.1, Hoki.out.2.1, ⟨by show _ ≤ x - 1; omega, by show x - 1 ≤ _; omega⟩⟩
  · obtain ⟨hr, c0, c1, c2, c3, c4, f0, f1, f2, f3, f4⟩ := own_tm Hown.out Hi.out
    by_cases hcp : cp = 1
    · subst hcp
      have hl11 : l1.length = 1 := by omega
      clear c0 c1 c2 c3 c4 f0 f1 f2 f3 f4
      go_wp2_with fail
      go_ret
      exact ⟨_, _, [], ⟨by simp, by intro t ht; cases ht⟩, by first | rfl | (rw [hl11]; rfl), .inl rfl, HK.out⟩
    · have hcp1 : (1 : Int) ≤ (cp : Int) := by omega
      have hcp2 : ¬ cp = 1 := hcp
      clear c0 c1 c2 c3 c4 f0 f1 f2 f3 f4
      go_wp2_with fail
      go_ret
      have hd := RAt.drop hr 1
      refine ⟨some ⟨b, 0 + 1 * 5, none⟩, cp - 1, l1.drop 1, ⟨by simp; omega, fun t ht => Hok.out t (List.mem_of_mem_drop ht)⟩, ?_, hd, HK.out⟩
      rw [List.length_drop]
      first | rfl | (congr 2; simp [Addr.add])
  · obtain ⟨hr, c0, c1, c2, c3, c4, f0, f1, f2, f3, f4⟩ := own_tm Hown.out Hi.out
    generalize l1[i] = ti at *
    have hs3 : w.heap.size ≤ w3.heap.size := HK.out.2.1.size
    have hown3 := Hown.out
    go_wp2_with (at_builtin; refine wpList_appR (enc := encTm) (m := 5) Tryz.underlying55 infoTm rfl (by decide) encTm_len encTm_one _ w3 rfl (.tmp 55) (.tmp 60) rfl w.heap.size _ l1 rfl hown3 [ti] 1 1 #[.int .i64 ti.op, .int .i64 ti.v.k, .int .i64 ti.v.n, .string ti.v.s, .int .i64 ti.c] rfl rfl rfl rfl rfl rfl rfl (by decide) (by omega) (by unfold maxLen; omega) hs3 ?_; intro l3 g3 cap3 w4 hl3 hown4 haw4 hb4 hat4 hlt4)
    go_ret
    have HK4 := HK.out.fresh haw4 (fun k hk => by have := (OwnsR.lt hown3 k hk).1; omega)
    obtain ⟨ao4, cap4, heq, hr4, _⟩ := OwnsR.rAt encTm_len hown4
    rw [heq]
    refine ⟨ao4, cap4, l3, ⟨by rw [hl3.out]; simp, ?_⟩, rfl, hr4, HK4⟩
    intro t ht
    rw [hl3.out] at ht
    rcases List.mem_append.1 ht with ht | ht
    · exact Hok.out t ht
    · rw [List.mem_singleton.1 ht]; exact Hoki.out
  · obtain ⟨hr, c0, c1, c2, c3, c4, f0, f1, f2, f3, f4⟩ := own_tm Hown.out Hi.out
    go_wp2_with fail
    go_ret
    refine ⟨some ⟨b, 0, none⟩, cp, l1.set i ⟨l1[i].op, ⟨1, 1, ⟨#[120]⟩⟩, l1[i].c⟩, ⟨by simp, okT_set Hok.out ?_⟩, by rw [List.length_set]; rfl, (by have h := set_val hr Hi.out 1 1 ⟨#[120]⟩; refine h.mono ?_; simp only [size_setCell]; exact Nat.le_refl _), ((HK.out.setCell (p := ⟨b, _, none⟩) hBb hbB _).setCell (p := ⟨b, _, none⟩) hBb hbB _).setCell (p := ⟨b, _, none⟩) hBb hbB _⟩
    exact ⟨Hoki.out.1, ⟨⟨by show (_ : Int) ≤ 1; decide, by show (1 : Int) ≤ _; decide⟩, ⟨by show (_ : Int) ≤ 1; decide, by show (1 : Int) ≤ _; decide⟩, by simp [maxLen, ByteArray.size]⟩, Hoki.out.2.2⟩
  · go_wp2_with fail
    refine (next_any B g 16 _ (by decide) (by decide) HK.out.1 HK.out.2.2).mono ?_
    rintro e w4 ⟨x, rfl, hx0, hx1, hK⟩
    have Hown := Lib.hid (own_away Hown.out hK.2.1 hgB hB)
    replace HK := Lib.hid (HK.out.trans hK)
    have Hx := Lib.hid (show 0 ≤ x ∧ x < 16 by omega)
    clear hK hx1
    obtain ⟨hr, c0, c1, c2, c3, c4, f0, f1, f2, f3, f4⟩ := own_tm Hown.out Hi.out
    have hxb : x < 16 := Hx.out.2
    go_wp2_with fail
    go_ret
    refine ⟨some ⟨b, 0, none⟩, cp, l1.set i (opTm (3 + x)), ⟨by simp, okT_set Hok.out ?_⟩, by rw [List.length_set]; rfl, (by have h := set_all hr Hi.out (3 + x) 0 0 0 ⟨#[]⟩; refine h.mono ?_; simp only [size_setCell]; exact Nat.le_refl _), ((((HK.out.setCell (p := ⟨b, _, none⟩) hBb hbB _).setCell (p := ⟨b, _, none⟩) hBb hbB _).setCell (p := ⟨b, _, none⟩) hBb hbB _).setCell (p := ⟨b, _, none⟩) hBb hbB _).setCell (p := ⟨b, _, none⟩) hBb hbB _⟩
    have := Hx.out
    exact ⟨⟨by show _ ≤ 3 + x; omega, by show 3 + x ≤ _; omega⟩, nil_ok, ⟨by show (_ : Int) ≤ 0; decide, by show (0 : Int) ≤ _; decide⟩⟩
end Go.Proofs.YtenonljnldbkiaaGreatDoor
/- light of the laws of expressions. -/
namespace Go.Proofs.YtenonljnldbkiaaGreatDoor
open Go.RowKit Go.Proofs.EB
set_option maxHeartbeats 4000000
set_option maxRecDepth 100000
attribute [local go_sem] World.cell?_alloc_some

/-- What light tells. -/
def LightP (l : List Tm) (row : List V) (w : World) (e : Ending) (w' : World) : Prop := ∃ b : Bool, Hid (b = true → l.length ≤ 80 ∧ row.length ≤ 20) ∧ e = .returned (.bool b) ∧ w = w'
end Go.Proofs.YtenonljnldbkiaaGreatDoor
/- Ascending lists without repetitions: sorted and compacted, or inserted one by one; the columns of an expression; evaluation depends on them alone. Plain. -/
namespace Go.Proofs.YtenonljnldbkiaaGreatDoor
open Go.RowKit
/-- Insertion into an ascending list, as the reference does it. -/
def addI : List Int → Int → List Int
  | [], n => [n]
  | x :: l, n => if x < n then x :: addI l n else if x = n then x :: l else n :: x :: l
abbrev Asc (l : List Int) : Prop := l.Pairwise (· < ·)
theorem addI_mem (n m : Int) : ∀ l : List Int, m ∈ addI l n ↔ m ∈ l ∨ m = n
  | [] => by simp [addI]
  | x :: l => by
    unfold addI
    split
    · simp only [List.mem_cons, addI_mem n m l]
      constructor
      · rintro (h | h | h)
        · exact .inl (.inl h)
        · exact .inl (.inr h)
        · exact .inr h
      · rintro ((h | h) | h)
        · exact .inl h
        · exact .inr (.inl h)
        · exact .inr (.inr h)
    · split
      · rename_i h
        subst h
        simp only [List.mem_cons]
        constructor
        · exact .inl
        · rintro (h | h)
          · exact h
          · exact .inl h
      · simp only [List.mem_cons]
        constructor
        · rintro (h | h)
          · exact .inr h
          · exact .inl h
        · rintro (h | h)
          · exact .inr h
          · exact .inl h
theorem addI_asc (n : Int) : ∀ l : List Int, Asc l → Asc (addI l n)
  | [], _ => by simp [addI]
  | x :: l, h => by
    obtain ⟨h1, h2⟩ := List.pairwise_cons.1 h
    unfold addI
    split
    · rename_i hx
      refine List.pairwise_cons.2 ⟨fun y hy => ?_, addI_asc n l h2⟩
      rcases (addI_mem n y l).1 hy with hy | rfl
      · exact h1 y hy
      · exact hx
    · split
      · exact h
      · rename_i h3 h4
        refine List.pairwise_cons.2 ⟨fun y hy => ?_, h⟩
        rcases List.mem_cons.1 hy with rfl | hy
        · omega
        · have := h1 y hy; omega
theorem foldl_addI (cs : List Int) : ∀ l : List Int, Asc l → Asc (cs.foldl addI l) ∧ ∀ m, m ∈ cs.foldl addI l ↔ m ∈ l ∨ m ∈ cs := by
  induction cs with
  | nil => intro l h; exact ⟨h, by simp⟩
  | cons c cs ih =>
    intro l h
    obtain ⟨h1, h2⟩ := ih (addI l c) (addI_asc c l h)
    refine ⟨h1, fun m => ?_⟩
    rw [List.foldl_cons, h2, addI_mem]
    simp only [List.mem_cons]
    constructor
    · rintro ((h | h) | h)
      · exact .inl h
      · exact .inr (.inl h)
      · exact .inr (.inr h)
    · rintro (h | h | h)
      · exact .inl (.inl h)
      · exact .inl (.inr h)
      · exact .inr h
/-- Two ascending lists with the same members are one. -/
theorem asc_ext : ∀ (a b : List Int), Asc a → Asc b → (∀ m, m ∈ a ↔ m ∈ b) → a = b
  | [], [], _, _, _ => rfl
  | [], y :: b, _, _, h => by have := (h y).2 (by simp); cases this
  | x :: a, [], _, _, h => by have := (h x).1 (by simp); cases this
  | x :: a, y :: b, ha, hb, h => by
    obtain ⟨a1, a2⟩ := List.pairwise_cons.1 ha
    obtain ⟨b1, b2⟩ := List.pairwise_cons.1 hb
    have hxy : x = y := by
      rcases List.mem_cons.1 ((h x).1 (by simp)) with h1 | h1
      · exact h1
      · rcases List.mem_cons.1 ((h y).2 (by simp)) with h2 | h2
        · exact h2.symm
        · have := b1 x h1; have := a1 y h2; omega
    subst hxy
    congr 1
    refine asc_ext a b a2 b2 fun m => ?_
    constructor
    · intro hm
      rcases List.mem_cons.1 ((h m).1 (by simp [hm])) with h1 | h1
      · have := a1 m hm; omega
      · exact h1
    · intro hm
      rcases List.mem_cons.1 ((h m).2 (by simp [hm])) with h1 | h1
      · have := b1 m hm; omega
      · exact h1
/-- What Compact keeps of an ascending list with repetitions. -/
theorem compactUpTo_asc (d : Array Int) (hd : ∀ i j, i < j → j < d.size → d[i]! ≤ d[j]!) : ∀ m, m ≤ d.size → Asc (Lib.compactUpTo d m) ∧ (∀ x, x ∈ Lib.compactUpTo d m ↔ ∃ j, j < m ∧ d[j]! = x) := by
  intro m
  induction m with
  | zero => intro _; simp [Lib.compactUpTo]
  | succ m ih =>
    intro hm
    obtain ⟨h1, h2⟩ := ih (by omega)
    rw [Lib.compactUpTo_succ]
    by_cases hk : Lib.keeps d m = true
    · rw [if_pos hk]
      refine ⟨?_, fun x => ?_⟩
      · refine List.pairwise_append.2 ⟨h1, by simp, fun x hx y hy => ?_⟩
        rw [List.mem_singleton.1 hy]
        obtain ⟨j, hj, rfl⟩ := (h2 x).1 hx
        have hm0 : m ≠ 0 := by omega
        have hne : d[m]! ≠ d[m - 1]! := by
          unfold Lib.keeps at hk
          simp only [decide_eq_true_eq] at hk
          rcases hk with hk | hk
          · omega
          · exact hk
        have hle := hd (m - 1) m (by omega) (by omega)
        have hle2 : d[j]! ≤ d[m - 1]! := by
          by_cases e : j = m - 1
          · rw [e]; omega
          · exact hd j (m - 1) (by omega) (by omega)
        omega
      · rw [List.mem_append, h2]
        simp only [List.mem_singleton]
        constructor
        · rintro (⟨j, hj, rfl⟩ | rfl)
          · exact ⟨j, by omega, rfl⟩
          · exact ⟨m, by omega, rfl⟩
        · rintro ⟨j, hj, rfl⟩
          by_cases e : j = m
          · right; rw [e]
          · exact .inl ⟨j, by omega, rfl⟩
    · rw [if_neg hk, List.append_nil]
      refine ⟨h1, fun x => ?_⟩
      rw [h2]
      constructor
      · rintro ⟨j, hj, rfl⟩; exact ⟨j, by omega, rfl⟩
      · rintro ⟨j, hj, rfl⟩
        by_cases e : j = m
        · subst e
          have hk2 : j ≠ 0 ∧ d[j]! = d[j - 1]! := by
            unfold Lib.keeps at hk
            simp only [decide_eq_true_eq, not_or, Decidable.not_not] at hk
            exact hk
          exact ⟨j - 1, by omega, hk2.2.symm⟩
        · exact ⟨j, by omega, rfl⟩
theorem compact_sort (cs : List Int) : Lib.compact (cs.mergeSort fun x y => decide (x ≤ y)) = cs.foldl addI [] := by
  have hs : (cs.mergeSort fun x y => decide (x ≤ y)).Pairwise (fun x y => decide (x ≤ y) = true) := List.pairwise_mergeSort (by intro a b c h1 h2; simp at h1 h2 ⊢; omega) (by intro a b; simp; omega) cs
  generalize hl : (cs.mergeSort fun x y => decide (x ≤ y)) = l at hs
  have hmem : ∀ m, m ∈ l ↔ m ∈ cs := by intro m; rw [← hl]; exact List.mem_mergeSort
  obtain ⟨f1, f2⟩ := foldl_addI cs [] (by simp)
  have hd : ∀ i j, i < j → j < l.toArray.size → l.toArray[i]! ≤ l.toArray[j]! := by
    intro i j hij hj
    have hj' : j < l.length := by simpa using hj
    have := List.pairwise_iff_getElem.1 hs i j (by omega) hj' hij
    simp at this
    simp [getElem!_pos, hj', show i < l.length by omega]
    exact this
  obtain ⟨g1, g2⟩ := compactUpTo_asc l.toArray hd l.length (by simp)
  refine asc_ext _ _ g1 f1 fun m => ?_
  unfold Lib.compact
  rw [g2, f2]
  simp only [List.not_mem_nil, false_or]
  rw [← hmem m]
  constructor
  · rintro ⟨j, hj, rfl⟩
    simp [getElem!_pos, hj]
  · intro hm
    obtain ⟨j, hj, rfl⟩ := List.mem_iff_getElem.1 hm
    exact ⟨j, hj, by simp [getElem!_pos, hj]⟩
/-- The columns of a list of terms, in their order. -/
def colsO (l : List Tm) : List Int := (l.filter fun t => t.op == 2).map (·.c)
theorem colsO_snoc (l : List Tm) (t : Tm) : colsO (l ++ [t]) = if t.op = 2 then colsO l ++ [t.c] else colsO l := by
  unfold colsO
  rw [List.filter_append, List.map_append]
  by_cases h : t.op = 2
  · rw [if_pos h]; simp [h]
  · rw [if_neg h]; simp [h]
theorem colsO_mem {l : List Tm} {c : Int} : c ∈ colsO l ↔ ∃ t ∈ l, t.op = 2 ∧ t.c = c := by
  unfold colsO
  simp only [List.mem_map, List.mem_filter, beq_iff_eq]
  constructor
  · rintro ⟨t, ⟨h1, h2⟩, h3⟩; exact ⟨t, h1, h2, h3⟩
  · rintro ⟨t, h1, h2, h3⟩; exact ⟨t, ⟨h1, h2⟩, h3⟩
/-- The value depends on the columns alone. -/
theorem fold_cols (cmp : V → V → Int) (a b : List V) : ∀ x : Ex, (∀ t ∈ x.flat, t.op = 2 → colV a t.c = colV b t.c) → x.fold (evT cmp a) = x.fold (evT cmp b) := by
  intro x
  induction x using Ex.ind with
  | h x ih =>
    intro h
    rw [Ex.fold_eq, Ex.fold_eq]
    have e : x.args.map (Ex.fold (evT cmp a)) = x.args.map (Ex.fold (evT cmp b)) := by
      refine List.map_congr_left fun y hy => ih y hy fun t ht h2 => h t ?_ h2
      rw [Ex.flat_eq]
      refine List.mem_cons_of_mem _ ?_
      have : ∀ l : List Ex, y ∈ l → t ∈ flats l := by
        intro l
        induction l with
        | nil => intro h; cases h
        | cons z l il =>
          intro h
          simp only [flats, List.mem_append]
          rcases List.mem_cons.1 h with rfl | h
          · exact .inl ht
          · exact .inr (il h)
      exact this x.args hy
    rw [e]
    unfold evT
    by_cases h1 : x.head.op = 1
    · rw [if_pos h1, if_pos h1]
    · rw [if_neg h1, if_neg h1]
      by_cases h2 : x.head.op = 2
      · rw [if_pos h2, if_pos h2]
        exact h _ (by rw [Ex.flat_eq]; simp) h2
      · rw [if_neg h2, if_neg h2]
end Go.Proofs.YtenonljnldbkiaaGreatDoor
/- Add of the reference: an insertion into an ascending row of ints. -/
namespace Go.Proofs.YtenonljnldbkiaaGreatDoor
open Go.RowKit Go.Proofs.EB
set_option maxHeartbeats 8000000
set_option maxRecDepth 100000
attribute [local go_sem] World.cell?_alloc_some
theorem infoI : (Tryz.prog.info? 3).map (fun i => (i.zero, i.size, i.bytes)) = some (some (.int .i64 0), 1, 8) := by kernel_rfl
theorem addI_split (n : Int) : ∀ (l : List Int) (k : Nat), (∀ j (h : j < l.length), j < k → l[j] < n) → k ≤ l.length → (∀ h : k < l.length, ¬ l[k] < n) → addI l n = if l[k]? = some n then l else l.take k ++ n :: l.drop k
  | [], k, _, hk, _ => by
    have : k = 0 := by simpa using hk
    subst this
    simp [addI]
  | x :: l, 0, _, _, h2 => by
    have h := h2 (by simp)
    simp only [List.getElem_cons_zero] at h
    unfold addI
    rw [if_neg h]
    simp
  | x :: l, k + 1, h1, hk, h2 => by
    have h := h1 0 (by simp) (by omega)
    simp only [List.getElem_cons_zero] at h
    have ih := addI_split n l k (fun j hj hjk => by have := h1 (j + 1) (by simp; omega) (by omega); simpa using this) (by simpa using hk) (fun hl => by have := h2 (by simp; omega); simpa using this)
    unfold addI
    rw [if_pos h, ih]
    simp only [List.getElem?_cons_succ, List.take_succ_cons, List.drop_succ_cons, List.cons_append]
    split <;> rfl
/-- A row of ints as Add gives and takes it. -/
def GaveI (w : World) (l : List Int) (e : Ending) (w' : World) : Prop := ∃ b off cap, e = .returned (.slice (some ⟨b, off, none⟩) l.length cap) ∧ RAt encInt 1 w' w'.heap.size (some ⟨b, off, none⟩) l ∧ l.length ≤ cap ∧ Below w.heap.size w w'
theorem own_empty (w : World) (B : Nat) (hB : B ≤ w.heap.size) : OwnsR encInt 1 (w.alloc (.cells #[] 3)) B 3 (.slice (some ⟨w.heap.size, 0, none⟩) 0 0) [] :=
  ownsR_new (l := []) encInt_len (heap_alloc_new w _) hB rfl (by simp)
theorem rat_one (w : World) (n : Int) : RAt encInt 1 (w.alloc (.cells #[.int .i64 n] 3)) (w.alloc (.cells #[.int .i64 n] 3)).heap.size (some ⟨w.heap.size, 0, none⟩) [n] :=
  rAt_block encInt_len (heap_alloc_new w _) rfl
theorem rAdd_nil (n : Int) (w : World) : Calls Tryz.prog 66 #[.slice none 0 0, .int .i64 n] w (GaveI w [n]) := by
  have a1 : ∀ (w : World) (o : Obj), Below w.heap.size w (w.alloc o) := fun w o => (Below.refl _ _).alloc (Nat.le_refl _) _
  have hEA : OwnsR encInt 1 ((w.alloc (.cells #[] 3)).alloc (.cells #[.int .i64 n] 3)) w.heap.size 3 (.slice (some ⟨w.heap.size, 0, none⟩) 0 0) [] := (own_empty w _ (Nat.le_refl _)).below (a1 _ _)
  have hNA := (rat_one (w.alloc (.cells #[] 3)) n).mono (B' := w.heap.size + 2) (by simp)
  have hEB := own_empty (w.alloc (.cells #[.int .i64 n] 3)) w.heap.size (by simp)
  have hNB := ((rat_one w n).later (a1 _ (.cells #[] 3))).mono (B' := w.heap.size + 2) (by simp)
  rw [show (w.alloc (.cells #[] 3)).heap.size = w.heap.size + 1 by simp] at hNA
  rw [show (w.alloc (.cells #[.int .i64 n] 3)).heap.size = w.heap.size + 1 by simp] at hEB
  have hbA : Below w.heap.size w ((w.alloc (.cells #[] 3)).alloc (.cells #[.int .i64 n] 3)) := (a1 _ _).trans ((a1 _ _).mono (by simp))
  have hbB : Below w.heap.size w ((w.alloc (.cells #[.int .i64 n] 3)).alloc (.cells #[] 3)) := (a1 _ _).trans ((a1 _ _).mono (by simp))
  clear a1
  go_enter Tryz.func66, Tryz.ntmps66
  go_wp2_with fail
  go_loopw [5] (fun i wr => i = .int .i64 0 ∧ wr = w) (fun _ _ => 0)
  case atStart => exact ⟨rfl, rfl⟩
  case round =>
    obtain ⟨rfl, rfl⟩ := hrel
    go_wp2_with fail
    go_region_law ((with_reducible refine at_slot 40 ?_); refine step_copyR Tryz.underlying36 infoI rfl (by decide) encInt_len encInt_one _ rfl (.tmp 37) (.tmp 39) rfl wr.heap.size _ [] rfl (by first | exact hEA | exact hEB) (wr.heap.size + 2) _ 1 [n] rfl (by first | exact hNA | exact hNB) (by simp) (by simp [maxLen]) (by simp <;> omega) ?_; intro l3 v3 w3 hl3 hown3 haw3 hb3 hat3; have hw3 : Below wr.heap.size wr w3 := (by first | exact hbA.trans hb3 | exact hbB.trans hb3 | exact hbA.drew.trans hb3 | exact hbB.drew.trans hb3); obtain ⟨ao3, cap3, rfl, hr3, _, hn3, hc3, _⟩ := OwnsR.rAt encInt_len hown3; have e3 : l3 = [n] := hl3.out; subst e3; obtain ⟨b3, o3, rfl, _⟩ := hr3.form (by simp); have hc4 : 1 ≤ cap3 := hc3)
    all_goals
      go_wp2_with fail
      go_ret
      exact ⟨_, _, _, rfl, by first | exact hr3 | exact hr3.later (Below.refl _ _), hc3, by first | exact hw3 | exact hw3.drew⟩
theorem keepA {w w2 : World} {n : Int} (h : Away (some w.heap.size) (((w.alloc (.cells #[] 3)).alloc (.cells #[.int .i64 n] 3)).drew) w2) : RAt encInt 1 w2 (w.heap.size + 2) (some ⟨w.heap.size + 1, 0, none⟩) [n] := by
  have hN := (rat_one (w.alloc (.cells #[] 3)) n).mono (B' := w.heap.size + 2) (by simp)
  rw [show (w.alloc (.cells #[] 3)).heap.size = w.heap.size + 1 by simp] at hN
  refine RAt.away (w := ((w.alloc (.cells #[] 3)).alloc (.cells #[.int .i64 n] 3)).drew) (by exact hN) h (by show w.heap.size + 2 ≤ ((w.alloc (.cells #[] 3)).alloc (.cells #[.int .i64 n] 3)).heap.size; simp) ?_
  intro b o e
  simp only [Option.some.injEq, Addr.mk.injEq] at e
  obtain ⟨rfl, _, _⟩ := e
  simp
theorem keepB {w w2 : World} {n : Int} (h : Away (some (w.heap.size + 1)) (((w.alloc (.cells #[.int .i64 n] 3)).alloc (.cells #[] 3)).drew) w2) : RAt encInt 1 w2 (w.heap.size + 2) (some ⟨w.heap.size, 0, none⟩) [n] := by
  have hN := ((rat_one w n).later ((Below.refl _ _).alloc (Nat.le_refl _) (.cells #[] 3))).mono (B' := w.heap.size + 2) (by simp)
  refine RAt.away (w := ((w.alloc (.cells #[.int .i64 n] 3)).alloc (.cells #[] 3)).drew) (by exact hN) h (by show w.heap.size + 2 ≤ ((w.alloc (.cells #[.int .i64 n] 3)).alloc (.cells #[] 3)).heap.size; simp) ?_
  intro b o e
  simp only [Option.some.injEq, Addr.mk.injEq] at e
  obtain ⟨rfl, _, _⟩ := e
  simp
theorem rAdd_some (n : Int) (b off cap : Nat) (l : List Int) (hl : l.length ≤ 1000000) (hc : l.length ≤ cap) (w : World) (hR : RAt encInt 1 w w.heap.size (some ⟨b, off, none⟩) l) :
    Calls Tryz.prog 66 #[.slice (some ⟨b, off, none⟩) l.length cap, .int .i64 n] w (GaveI w (addI l n)) := by
  have HR := Lib.hid hR
  have Hcap := Lib.hid hc
  clear hR hc
  obtain ⟨N, hN⟩ : ∃ N, N = l.length := ⟨_, rfl⟩
  rw [← hN] at hl ⊢
  have a1 : ∀ (w : World) (o : Obj), Below w.heap.size w (w.alloc o) := fun w o => (Below.refl _ _).alloc (Nat.le_refl _) _
  have A1 := Lib.hid a1
  clear a1
  have HN := Lib.hid hN
  clear hN
  go_enter Tryz.func66, Tryz.ntmps66
  go_wp2_with fail
  go_loopw [5] (fun i wr => ∃ k : Nat, k ≤ N ∧ i = .int .i64 k ∧ wr = w ∧ Hid (∀ j (h : j < l.length), j < k → l[j] < n)) (fun i _ => N - (intOf i).toNat)
  case atStart => exact ⟨0, by omega, rfl, rfl, fun j _ h => absurd h (by omega)⟩
  case round =>
    obtain ⟨k, hk, rfl, rfl, hX⟩ := hrel
    by_cases hlt : k < N
    · have hkl : k < l.length := by have := HN.out; omega
      have c0 := RAt.int HR.out hkl
      have hbl : b < wr.heap.size := World.block_lt_of_cell? wr _ c0
      obtain ⟨x, hx⟩ : ∃ x, x = l[k] := ⟨_, rfl⟩
      rw [← hx] at c0
      have Hx := Lib.hid hx
      clear hx
      have hlt2 : k + 1 ≤ N := hlt
      by_cases hxn : x < n
      · go_wp2_with fail
        refine ⟨⟨k + 1, hlt2, by go_num, by first | rfl | trivial, ?_⟩, by simp [intOf]; omega⟩
        intro j hj hjk
        by_cases hje : j < k
        · exact hX.out j hj hje
        · have : j = k := by omega
          subst this
          rw [← Hx.out]; exact hxn
      · have hge : n ≤ x := by omega
        by_cases hxe : x = n
        · have hres : addI l n = l := by
            rw [addI_split n l k hX.out (by omega) (fun _ => by rw [← Hx.out]; exact hxn), if_pos (by rw [List.getElem?_eq_getElem hkl, ← Hx.out, hxe])]
          have Hres := Lib.hid hres
          have yx : (x == n) = true := by simpa using hxe
          clear hres hxe hxn
          go_wp2_with fail
          go_ret
          refine ⟨b, off, cap, ?_, by rw [Hres.out]; exact HR.out, by rw [Hres.out]; exact Hcap.out, Below.refl _ _⟩
          rw [Hres.out, ← HN.out]; rfl
        · have yx : (x == n) = false := by simpa using hxe
          have hres : addI l n = l.take k ++ n :: l.drop k := by
            rw [addI_split n l k hX.out (by omega) (fun _ => by rw [← Hx.out]; exact hxn), if_neg (by rw [List.getElem?_eq_getElem hkl, ← Hx.out]; simpa using hxe)]
          have hpq : l[k]? = some x := by rw [List.getElem?_eq_getElem hkl, ← Hx.out]
          obtain ⟨p, hp⟩ : ∃ p, p = l.take k := ⟨_, rfl⟩
          obtain ⟨q, hq⟩ : ∃ q, q = l.drop k := ⟨_, rfl⟩
          have hpl : p.length = k := by rw [hp, List.length_take]; have := HN.out; omega
          have hql : N = k + q.length := by rw [hq, List.length_drop]; have := HN.out; omega
          have hRp : RAt encInt 1 wr wr.heap.size (some ⟨b, off, none⟩) p := by rw [hp]; exact HR.out.take k
          have hRq : RAt encInt 1 wr wr.heap.size (some ⟨b, off + k, none⟩) q := by rw [hq]; have := HR.out.drop k; simpa using this
          rw [← hp, ← hq] at hres
          have Hres := Lib.hid hres
          have Rq := Lib.hid hRq
          have hkc : k ≤ cap := by have := Hcap.out; have := HN.out; omega
          have hNc : N ≤ cap := by have := Hcap.out; have := HN.out; omega
          clear hres hRq hp hq
          subst hpl hql
          have hcc : ¬ cap = p.length := by omega
          have hle : (p.length : Int) ≤ (p.length : Int) + (q.length : Int) := by omega
          have hE1 := own_empty wr wr.heap.size (Nat.le_refl _)
          have hEA : OwnsR encInt 1 ((wr.alloc (.cells #[] 3)).alloc (.cells #[.int .i64 n] 3)) wr.heap.size 3 (.slice (some ⟨wr.heap.size, 0, none⟩) 0 0) [] := hE1.below (A1.out _ _)
          have hNA := (rat_one (wr.alloc (.cells #[] 3)) n).mono (B' := wr.heap.size + 2) (by simp)
          have hEB := own_empty (wr.alloc (.cells #[.int .i64 n] 3)) wr.heap.size (by simp)
          have hNB := ((rat_one wr n).later (A1.out _ (.cells #[] 3))).mono (B' := wr.heap.size + 2) (by simp)
          rw [show (wr.alloc (.cells #[] 3)).heap.size = wr.heap.size + 1 by simp] at hNA
          rw [show (wr.alloc (.cells #[.int .i64 n] 3)).heap.size = wr.heap.size + 1 by simp] at hEB
          have hb1 := A1.out wr (.cells #[] 3)
          have hbA : Below wr.heap.size wr ((wr.alloc (.cells #[] 3)).alloc (.cells #[.int .i64 n] 3)) := (A1.out _ _).trans ((A1.out _ _).mono (by simp))
          have hbB : Below wr.heap.size wr ((wr.alloc (.cells #[.int .i64 n] 3)).alloc (.cells #[] 3)) := (A1.out _ _).trans ((A1.out _ _).mono (by simp))
          have Rp1 := hRp.below hb1
          have RpA := hRp.below hbA
          have RpB := hRp.below hbB
          clear hRp
          go_wp2_with fail
          go_region_law (first
            | ((with_reducible refine at_slot 37 ?_); refine step_copyR Tryz.underlying36 infoI rfl (by decide) encInt_len encInt_one _ rfl (.tmp 33) (.tmp 36) rfl wr.heap.size _ [] rfl (by first | exact hE1 | exact hEA | exact hEB) wr.heap.size ⟨b, off, none⟩ _ p rfl (by first | exact Rp1 | exact RpA | exact RpB) (by simp; omega) (by simp [maxLen]; omega) (by simp <;> omega) ?_; intro l2 v2 w2 hl2 hown2 haw2 hb2 hat2; have e2 : l2 = p := hl2.out; subst e2; have hB2 : Below wr.heap.size wr w2 := (by first | exact hb1.trans hb2 | exact hb1.drew.trans hb2 | exact hbA.trans hb2 | exact hbA.drew.trans hb2 | exact hbB.trans hb2 | exact hbB.drew.trans hb2); have hs2 := hB2.size; have hown2' := OwnsR.below hown2 (A1.out w2 (.cells #[.int .i64 n] 3)); have hN2' := rat_one w2 n; have hB2' := hB2.trans ((A1.out w2 (.cells #[.int .i64 n] 3)).mono hs2); have hs2' := hB2'.size; (first | (have hN2 := keepA haw2) | (have hN2 := keepB haw2) | (have hN2 := hN2')))
            | ((with_reducible refine at_slot 40 ?_); refine step_copyR Tryz.underlying36 infoI rfl (by decide) encInt_len encInt_one _ rfl (.tmp 37) (.tmp 39) rfl wr.heap.size v2 l2 rfl (by first | exact hown2 | exact hown2') _ _ _ [n] rfl (by first | exact hN2' | exact hN2) (by simp; omega) (by simp [maxLen]; omega) (by first | exact hs2 | exact hs2') ?_; intro l3 v3 w3 hl3 hown3 haw3 hb3 hat3; have hB3 : Below wr.heap.size wr w3 := (by first | exact hB2.trans hb3 | exact hB2'.trans hb3); have hs3 := hB3.size)
            | ((with_reducible refine at_slot 44 ?_); refine step_copyR Tryz.underlying36 infoI rfl (by decide) encInt_len encInt_one _ rfl (.tmp 40) (.tmp 43) rfl wr.heap.size v3 l3 rfl hown3 wr.heap.size _ _ q rfl (by first | exact Rq.out.below hB3 | exact .inl rfl) (by rw [hl3.out]; simp; omega) (by rw [hl3.out]; simp [maxLen]; omega) hs3 ?_; intro l4 v4 w4 hl4 hown4 haw4 hb4 hat4; have hB4 := hB3.trans hb4))
          all_goals
           obtain ⟨ao4, cap4, rfl, hr4, _, _, hc4, _⟩ := OwnsR.rAt encInt_len hown4
           have e4 : l4 = addI l n := by rw [hl4.out, hl3.out, Hres.out]; simp
           obtain ⟨b4, o4, rfl, _⟩ := hr4.form (by rw [hl4.out, hl3.out]; simp <;> omega)
           go_wp2_with fail
           go_ret
           refine ⟨b4, o4, cap4, ?_, by rw [← e4]; exact hr4, by rw [← e4]; exact hc4, hB4⟩
           rw [← e4]; rfl
    · have hke : N = k := by omega
      have hres : addI l n = l.take k ++ n :: l.drop k := by
        rw [addI_split n l k hX.out (by have := HN.out; omega) (fun h => absurd h (by have := HN.out; omega)), if_neg (by rw [List.getElem?_eq_none (by have := HN.out; omega)]; simp)]
      obtain ⟨p, hp⟩ : ∃ p, p = l.take k := ⟨_, rfl⟩
      obtain ⟨q, hq⟩ : ∃ q, q = l.drop k := ⟨_, rfl⟩
      have hpl : p.length = k := by rw [hp, List.length_take]; have := HN.out; omega
      have hql : N = k + q.length := by rw [hq, List.length_drop]; have := HN.out; omega
      have hRp : RAt encInt 1 wr wr.heap.size (some ⟨b, off, none⟩) p := by rw [hp]; exact HR.out.take k
      have hRq : RAt encInt 1 wr wr.heap.size (some ⟨b, off + k, none⟩) q := by rw [hq]; have := HR.out.drop k; simpa using this
      rw [← hp, ← hq] at hres
      have Hres := Lib.hid hres
      have hq0 : q = [] := by rw [hq]; exact List.drop_eq_nil_of_le (by have := HN.out; omega)
      have Rq := Lib.hid hRq
      have hkc : k ≤ cap := by have := Hcap.out; have := HN.out; omega
      have hNc : N ≤ cap := by have := Hcap.out; have := HN.out; omega
      clear hres hRq hp hq hql hlt hk hkc
      subst hke
      subst hpl
      subst hq0
      have hE1 := own_empty wr wr.heap.size (Nat.le_refl _)
      have hEA : OwnsR encInt 1 ((wr.alloc (.cells #[] 3)).alloc (.cells #[.int .i64 n] 3)) wr.heap.size 3 (.slice (some ⟨wr.heap.size, 0, none⟩) 0 0) [] := hE1.below (A1.out _ _)
      have hNA := (rat_one (wr.alloc (.cells #[] 3)) n).mono (B' := wr.heap.size + 2) (by simp)
      have hEB := own_empty (wr.alloc (.cells #[.int .i64 n] 3)) wr.heap.size (by simp)
      have hNB := ((rat_one wr n).later (A1.out _ (.cells #[] 3))).mono (B' := wr.heap.size + 2) (by simp)
      rw [show (wr.alloc (.cells #[] 3)).heap.size = wr.heap.size + 1 by simp] at hNA
      rw [show (wr.alloc (.cells #[.int .i64 n] 3)).heap.size = wr.heap.size + 1 by simp] at hEB
      have hb1 := A1.out wr (.cells #[] 3)
      have hbA : Below wr.heap.size wr ((wr.alloc (.cells #[] 3)).alloc (.cells #[.int .i64 n] 3)) := (A1.out _ _).trans ((A1.out _ _).mono (by simp))
      have hbB : Below wr.heap.size wr ((wr.alloc (.cells #[.int .i64 n] 3)).alloc (.cells #[] 3)) := (A1.out _ _).trans ((A1.out _ _).mono (by simp))
      have Rp1 := hRp.below hb1
      have RpA := hRp.below hbA
      have RpB := hRp.below hbB
      clear hRp
      have hcc2 : p.length ≤ cap := by have := Hcap.out; have := HN.out; omega
      clear hcc2
      rcases (show cap = p.length ∨ ¬ cap = p.length by omega) with rfl | hcc
      all_goals
       go_wp2_with fail
       go_region_law (first
        | ((with_reducible refine at_slot 37 ?_); refine step_copyR Tryz.underlying36 infoI rfl (by decide) encInt_len encInt_one _ rfl (.tmp 33) (.tmp 36) rfl wr.heap.size _ [] rfl (by first | exact hE1 | exact hEA | exact hEB) wr.heap.size ⟨b, off, none⟩ _ p rfl (by first | exact Rp1 | exact RpA | exact RpB) (by simp; omega) (by simp [maxLen]; omega) (by simp <;> omega) ?_; intro l2 v2 w2 hl2 hown2 haw2 hb2 hat2; have e2 : l2 = p := hl2.out; subst e2; have hB2 : Below wr.heap.size wr w2 := (by first | exact hb1.trans hb2 | exact hb1.drew.trans hb2 | exact hbA.trans hb2 | exact hbA.drew.trans hb2 | exact hbB.trans hb2 | exact hbB.drew.trans hb2); have hs2 := hB2.size; have hown2' := OwnsR.below hown2 (A1.out w2 (.cells #[.int .i64 n] 3)); have hN2' := rat_one w2 n; have hB2' := hB2.trans ((A1.out w2 (.cells #[.int .i64 n] 3)).mono hs2); have hs2' := hB2'.size; (first | (have hN2 := keepA haw2) | (have hN2 := keepB haw2) | (have hN2 := hN2')))
        | ((with_reducible refine at_slot 40 ?_); refine step_copyR Tryz.underlying36 infoI rfl (by decide) encInt_len encInt_one _ rfl (.tmp 37) (.tmp 39) rfl wr.heap.size v2 l2 rfl (by first | exact hown2 | exact hown2') _ _ _ [n] rfl (by first | exact hN2' | exact hN2) (by simp; omega) (by simp [maxLen]; omega) (by first | exact hs2 | exact hs2') ?_; intro l3 v3 w3 hl3 hown3 haw3 hb3 hat3; have hB3 : Below wr.heap.size wr w3 := (by first | exact hB2.trans hb3 | exact hB2'.trans hb3); have hs3 := hB3.size)
        | ((with_reducible refine at_slot 44 ?_); refine step_copyR Tryz.underlying36 infoI rfl (by decide) encInt_len encInt_one _ rfl (.tmp 40) (.tmp 43) rfl wr.heap.size v3 l3 rfl hown3 wr.heap.size _ _ [] rfl (by first | exact Rq.out.below hB3 | exact .inl rfl) (by rw [hl3.out]; simp; omega) (by rw [hl3.out]; simp [maxLen]; omega) hs3 ?_; intro l4 v4 w4 hl4 hown4 haw4 hb4 hat4; have hB4 := hB3.trans hb4))
      all_goals
       obtain ⟨ao4, cap4, rfl, hr4, _, _, hc4, _⟩ := OwnsR.rAt encInt_len hown4
       have e4 : l4 = addI l n := by rw [hl4.out, hl3.out, Hres.out]; simp
       obtain ⟨b4, o4, rfl, _⟩ := hr4.form (by rw [hl4.out, hl3.out]; simp <;> omega)
       go_wp2_with fail
       go_ret
       refine ⟨b4, o4, cap4, ?_, by rw [← e4]; exact hr4, by rw [← e4]; exact hc4, hB4⟩
       rw [← e4]; rfl
end Go.Proofs.YtenonljnldbkiaaGreatDoor
/- Substitute of package expr. -/
namespace Go.Proofs.YtenonljnldbkiaaGreatDoor
open Go.RowKit Go.Proofs.EB
set_option maxHeartbeats 4000000
set_option maxRecDepth 100000
attribute [local go_sem] World.cell?_alloc_some

/-- A slice of terms as an element of a slice. -/
structure Sl where
  ao : Option Addr
  cap : Nat
  l : List Tm
def encSl (s : Sl) : List Value := [.slice s.ao s.l.length s.cap]
theorem encSl_len (s : Sl) : (encSl s).length = 1 := rfl
theorem encSl_one (s : Sl) : ∀ u ∈ encSl s, u.oneCell' = true := by intro u hu; simp [encSl] at hu; subst hu; rfl
/-- A slice of slices of terms that reads. -/
structure ItemsIn (w : World) (io : Option Addr) (its : List Sl) : Prop where
  row : RAt encSl 1 w w.heap.size io its
  each : ∀ s ∈ its, TmsAt w w.heap.size s.ao s.l
theorem ItemsIn.later {w w' : World} {io : Option Addr} {its : List Sl} (h : ItemsIn w io its) (hb : Below w.heap.size w w') : ItemsIn w' io its := ⟨h.row.later hb, fun s hs => (h.each s hs).later hb⟩
/-- What holds of the elements whatever the world. -/
def SlOk (its : List Sl) : Prop := ∀ s ∈ its, s.l.length ≤ maxLen ∧ (s.ao = none → s.cap = 0) ∧ ∀ t ∈ s.l, t.okT
theorem ItemsIn.at {w : World} {b off : Nat} {its : List Sl} (h : ItemsIn w (some ⟨b, off, none⟩) its) {i : Nat} (hi : i < its.length) : w.cell? ⟨b, off + i, none⟩ = some (.slice its[i].ao its[i].l.length its[i].cap) := by
  have := RAt.cell h.row hi (j := 0) (u := .slice its[i].ao its[i].l.length its[i].cap) rfl
  simpa using this
/-- The index of the first that is not valid, or -1. -/
def IdxP (its : List Sl) (w : World) (e : Ending) (w' : World) : Prop := ∃ z : Int, Hid ((0 ≤ z) ↔ ∃ s ∈ its, validL s.l = false) ∧ e = .returned (.int .i64 z) ∧ Below w.heap.size w w'
/-- Substitution from the left, onto what is there. -/
def subA (its : List (List Tm)) : List Tm → List Tm → Option (List Tm)
  | out, [] => some out
  | out, t :: l => if t.op = 2 then (match its[t.c.toNat]? with | some s => subA its (out ++ s) l | none => none) else subA its (out ++ [t]) l
/-- Substitute, plain: the terms and the error. -/
def substR (its : List (List Tm)) (e : List Tm) : List Tm × Int :=
  if validL e = false ∨ (∃ s ∈ its, validL s = false) then ([], 1) else match subA its [] e with | none => ([], 3) | some out => if validL out = true then (out, 0) else ([], 8)
theorem flat_terms : ∀ x : Ex, x.ok → ∀ t ∈ x.flat, termB t = true := by
  intro x
  induction x using Ex.ind with
  | h x ih =>
    intro ho t ht
    obtain ⟨h1, _, h3⟩ := (Ex.ok_iff x).1 ho
    rw [Ex.flat_eq] at ht
    rcases List.mem_cons.1 ht with rfl | ht
    · exact h1
    · have : ∀ l : List Ex, (∀ a ∈ l, a.ok ∧ ∀ t ∈ a.flat, termB t = true) → ∀ t ∈ flats l, termB t = true := by
        intro l
        induction l with
        | nil => intro _ t h; cases h
        | cons a l il =>
          intro h t ht
          simp only [flats, List.mem_append] at ht
          rcases ht with ht | ht
          · exact (h a (by simp)).2 t ht
          · exact il (fun b hb => h b (by simp [hb])) t ht
      exact this x.args (fun a ha => ⟨h3 a ha, ih a ha (h3 a ha)⟩) t ht
theorem valid_terms {l : List Tm} (h : validL l = true) : ∀ t ∈ l, termB t = true := by
  obtain ⟨x, _, h2, _⟩ := validL_get h
  have e : l = x.flat := by simpa using h2.1
  rw [e]; exact flat_terms x h2.2
/-- What a call of Substitute leaves. -/
def SubP (R : List Tm × Int) (w : World) (e : Ending) (w' : World) : Prop := ∃ ao cap l c, Hid (R = (l, c) ∧ ∀ t ∈ l, t.okT) ∧ e = .returned (.tuple #[.slice ao l.length cap, .int .i64 c]) ∧ TmsAt w' w'.heap.size ao l ∧ (ao = none → cap = 0) ∧ (∀ b o, ao = some ⟨b, o, none⟩ → w.heap.size ≤ b) ∧ Below w.heap.size w w'
end Go.Proofs.YtenonljnldbkiaaGreatDoor
/- Operands of the reference: the slices of an expression's operands. -/
namespace Go.Proofs.YtenonljnldbkiaaGreatDoor
open Go.RowKit Go.Proofs.EB
set_option maxHeartbeats 4000000
set_option maxRecDepth 100000
attribute [local go_sem] World.cell?_alloc_some
theorem infoSl : (Tryz.prog.info? 55).map (fun i => (i.zero, i.size, i.bytes)) = some (some (.slice none 0 0), 1, 24) := by kernel_rfl
/-- What Operands gives for an expression: the slices of its operands, one after the other. -/
def OpsP (x : Ex) (w : World) (e : Ending) (w' : World) : Prop :=
  ∃ (io : Option Addr) (icap : Nat) (its : List Sl), e = .returned (.slice io its.length icap) ∧ Hid (its.map (·.l) = x.args.map Ex.flat ∧ ∀ s ∈ its, s.l.length ≤ s.cap) ∧ ItemsIn w' io its ∧ Below w.heap.size w w'
theorem flats_mem {a : Ex} {t : Tm} : ∀ {l : List Ex}, a ∈ l → t ∈ a.flat → t ∈ flats l
  | [], h, _ => by cases h
  | x :: l, h, ht => by
    simp only [flats, List.mem_append]
    rcases List.mem_cons.1 h with rfl | h
    · exact .inl ht
    · exact .inr (flats_mem h ht)
theorem flats_mem_len {a : Ex} : ∀ {l : List Ex}, a ∈ l → a.flat.length ≤ (flats l).length
  | [], h => by cases h
  | x :: l, h => by
    simp only [flats, List.length_append]
    rcases List.mem_cons.1 h with rfl | h
    · omega
    · have := flats_mem_len h; omega
theorem flats_nil {zs : List Ex} (h : flats zs = []) : zs = [] := by
  have := flats_len zs
  rw [h] at this
  exact List.eq_nil_of_length_eq_zero (by simpa using this)
theorem roperands_any (ao : Option Addr) (cap : Nat) (l : List Tm) (x : Ex) (hH : Hid (Head l x [] ∧ x.depth ≤ 17)) (hl : l.length ≤ 64) (hcap : l.length ≤ cap) (hok : ∀ t ∈ l, t.okT) (w : World) (hT : TmsAt w w.heap.size ao l) :
    Calls Tryz.prog 163 #[.slice ao l.length cap] w (OpsP x w) := by
  have hpos : 1 ≤ l.length := by rw [hH.out.1.1]; have := x.flat_pos; simp; omega
  obtain ⟨b, off, rfl, hbB⟩ := hT.form (by omega)
  have HT := Lib.hid hT
  have Hok := Lib.hid hok
  have hd1 : Hid (l.drop 1 = flats x.args) := by
    have h1 := hH.out.1.1
    rw [Ex.flat_eq] at h1
    unfold Hid
    rw [h1]; simp
  clear hT hok
  go_enter Tryz.func163, Tryz.ntmps163
  go_wp2_with fail
  go_loopw [3, 4] (fun ov av wr => ∃ (p : Nat) (its : List Sl) (ad : Option Addr) (cp : Nat) (zs : List Ex), av = .int .i64 p ∧ ov = .slice ad its.length cp ∧ p ≤ l.length ∧ its.length ≤ p ∧
    Hid ((∃ xs, x.args = xs ++ zs ∧ its.map (·.l) = xs.map Ex.flat) ∧ l.drop p = flats zs ∧ (∀ s ∈ its, s.l.length ≤ s.cap ∧ TmsAt w w.heap.size s.ao s.l)) ∧ Hid (OwnsR encSl 1 wr w.heap.size 55 (.slice ad its.length cp) its) ∧ Hid (Below w.heap.size w wr)) (fun _ av _ => l.length - (intOf av).toNat)
  case atStart => exact ⟨1, [], none, 0, x.args, rfl, rfl, hpos, by simp, ⟨⟨[], rfl, rfl⟩, hd1.out, by simp⟩, OwnsR.nil, Below.refl _ _⟩
  case round =>
    obtain ⟨p, its, ad, cp, zs, rfl, rfl, hp, hip, hX, hown, hB⟩ := hrel
    by_cases hlt : p < l.length
    · cases zs with
      | nil =>
        exfalso
        have h1 := congrArg List.length hX.out.2.1
        simp [flats] at h1
        omega
      | cons z zs' =>
        have hzH : Hid (Head (l.drop p) z (flats zs') ∧ z.depth ≤ 16) := by
          obtain ⟨⟨xs, hxs, _⟩, h2, _⟩ := hX.out
          have hm : z ∈ x.args := by rw [hxs]; simp
          have h3 := ((Ex.ok_iff x).1 hH.out.1.2).2.2 z hm
          have h4 := le_depths hm
          have h5 := hH.out.2
          rw [Ex.depth_eq] at h5
          exact ⟨⟨by rw [h2]; rfl, h3⟩, by omega⟩
        go_wp2_with fail
        refine (rend_any (some ⟨b, off, none⟩) cap l hl Hok.out 16 (by omega) p hp wr (HT.out.later hB.out)).mono ?_
        rintro e w1 ⟨hb1, hP⟩
        rcases hP with ⟨y, r, q, hY, rfl⟩ | ⟨hF, rfl⟩
        · have hyz : Hid (y = z ∧ r = flats zs') := hY.out.1.uniq hzH.out.1
          have hq : p < q ∧ q ≤ l.length := by
            have h1 := hY.out
            have h2 := congrArg List.length h1.1.1
            have h3 := y.flat_pos
            simp at h2
            omega
          obtain ⟨hq1, hq2⟩ := hq
          have hqc : q ≤ cap := by omega
          have hown1 := OwnsR.below hown.out hb1
          have HB1 := Lib.hid (bt hB.out hb1)
          have hsz1 : w.heap.size ≤ w1.heap.size := HB1.out.size
          obtain ⟨t, ht⟩ : ∃ t : List Tm, t = (l.drop p).take (q - p) := ⟨_, rfl⟩
          have htl : t.length = q - p := by rw [ht, List.length_take, List.length_drop]; omega
          have hCt : (#[Value.slice (some ⟨b, off + p * 5, none⟩) (q - p) (cap - p)] : Array Value).toList = cellsL encSl [⟨some ⟨b, off + p * 5, none⟩, cap - p, t⟩] := by
            simp [cellsL, encSl, htl]
          have hnx : Hid (t = z.flat ∧ l.drop q = flats zs' ∧ TmsAt w w.heap.size (some ⟨b, off + p * 5, none⟩) t) := by
            obtain ⟨⟨⟨h1, _⟩, _, h3⟩, h4, h5⟩ := And.intro hY.out hyz.out
            subst h4
            have h6 : y.flat.length = q - p := by
              have h2 := congrArg List.length h1
              simp at h2
              omega
            refine ⟨by rw [ht, h1, ← h6, List.take_left' rfl], ?_, by rw [ht]; exact (HT.out.drop p).take _⟩
            have h7 : l.drop q = (l.drop p).drop (q - p) := by rw [List.drop_drop]; congr 1; omega
            rw [h7, h1, ← h6, List.drop_left' rfl, h5]
          have Htl := Lib.hid htl
          have HCt := Lib.hid hCt
          clear hb1 hown ht htl hCt
          go_wp2_with (at_builtin; refine wpList_appR (enc := encSl) (m := 1) Tryz.underlying199 infoSl rfl (by decide) encSl_len encSl_one _ w1 rfl (.tmp 13) (.tmp 18) rfl w.heap.size _ its rfl hown1 [⟨some ⟨b, off + p * 5, none⟩, cap - p, t⟩] 1 1 #[Value.slice (some ⟨b, off + p * 5, none⟩) (q - p) (cap - p)] rfl rfl rfl rfl rfl HCt.out rfl (by decide) (by omega) (by unfold maxLen; omega) hsz1 ?_; intro v3 g3 cap3 w10 hv3 hown10 haw10 hb10 hat10 hlt10)
          refine ⟨⟨q, v3, _, _, zs', rfl, rfl, hq2, ?_, ?_, hown10, HB1.out.trans hb10⟩, by simp [intOf]; omega⟩
          · have h1 := congrArg List.length hv3.out
            simp at h1
            omega
          · obtain ⟨⟨xs, h1, h2⟩, _, h4⟩ := hX.out
            obtain ⟨h5, h6, h7⟩ := hnx.out
            refine ⟨⟨xs ++ [z], by rw [h1]; simp, by rw [hv3.out]; simp [h2, h5]⟩, h6, ?_⟩
            intro s hs
            rw [hv3.out] at hs
            rcases List.mem_append.1 hs with hs | hs
            · exact h4 s hs
            · rw [List.mem_singleton.1 hs]
              exact ⟨by show t.length ≤ cap - p; have := Htl.out; omega, h7⟩
        · exfalso
          have := hF.out z _ hzH.out.1
          have := hzH.out.2
          omega
    · have hpe : p = l.length := by omega
      subst hpe
      obtain ⟨aoV, capV, heq, hrV, _, _, _, _⟩ := OwnsR.rAt encSl_len hown.out
      simp only [Value.slice.injEq, true_and] at heq
      obtain ⟨rfl, rfl⟩ := heq
      have hfin : OpsP x w (.returned (.slice ad its.length cp)) wr := by
        obtain ⟨⟨xs, h1, h2⟩, h3, h4⟩ := hX.out
        rw [List.drop_length] at h3
        have h5 := flats_nil h3.symm
        subst h5
        rw [List.append_nil] at h1
        exact ⟨ad, cp, its, rfl, ⟨by rw [h1]; exact h2, fun s hs => (h4 s hs).1⟩, ⟨hrV, fun s hs => (h4 s hs).2.later hB.out⟩, hB.out⟩
      have Hfin := Lib.hid hfin
      clear hfin hrV hown hlt
      go_wp2_with fail
      go_ret
      exact Hfin.out
end Go.Proofs.YtenonljnldbkiaaGreatDoor
/- typed, typeOf and Type of the reference. -/
namespace Go.Proofs.YtenonljnldbkiaaGreatDoor
open Go.RowKit Go.Proofs.EB
set_option maxHeartbeats 8000000
set_option maxRecDepth 100000
attribute [local go_sem] World.cell?_alloc_some
theorem rtyped1 (op a : Int) (b off cap : Nat) (w : World) (ho : op = 3 ∨ op = 9 ∨ op = 13 ∨ op = 16) (ha : a = 1 ∨ a = 2) (c0 : w.cell? ⟨b, off, none⟩ = some (.int .i64 a)) :
    Calls Tryz.prog 164 #[.int .i64 op, .slice (some ⟨b, off, none⟩) 1 cap] w (Gives (.int .i64 (typI op [a])) w) := by
  have hbl : b < w.heap.size := World.block_lt_of_cell? w _ c0
  rcases ho with rfl | rfl | rfl | rfl <;> rcases ha with rfl | rfl
  all_goals
    go_enter Tryz.func164, Tryz.ntmps164
    go_wp2_with fail
    go_ret
    exact ⟨rfl, Below.refl _ _⟩
theorem rtyped2a (op a a' : Int) (b off cap : Nat) (w : World) (ho : op = 4 ∨ op = 5 ∨ op = 6 ∨ op = 7 ∨ op = 8 ∨ op = 10 ∨ op = 14 ∨ op = 15) (ha : a = 1 ∨ a = 2) (ha' : a' = 1 ∨ a' = 2) (c0 : w.cell? ⟨b, off, none⟩ = some (.int .i64 a)) (c1 : w.cell? ⟨b, off + 1, none⟩ = some (.int .i64 a')) :
    Calls Tryz.prog 164 #[.int .i64 op, .slice (some ⟨b, off, none⟩) 2 cap] w (Gives (.int .i64 (typI op [a, a'])) w) := by
  have hbl : b < w.heap.size := World.block_lt_of_cell? w _ c0
  rcases ho with rfl | rfl | rfl | rfl | rfl | rfl | rfl | rfl <;> rcases ha with rfl | rfl <;> rcases ha' with rfl | rfl
  all_goals
    go_enter Tryz.func164, Tryz.ntmps164
    go_wp2_with fail
    go_ret
    exact ⟨rfl, Below.refl _ _⟩
theorem rtyped2b (op a a' : Int) (b off cap : Nat) (w : World) (ho : op = 11 ∨ op = 12 ∨ op = 17) (ha : a = 1 ∨ a = 2) (ha' : a' = 1 ∨ a' = 2) (c0 : w.cell? ⟨b, off, none⟩ = some (.int .i64 a)) (c1 : w.cell? ⟨b, off + 1, none⟩ = some (.int .i64 a')) :
    Calls Tryz.prog 164 #[.int .i64 op, .slice (some ⟨b, off, none⟩) 2 cap] w (Gives (.int .i64 (typI op [a, a'])) w) := by
  have hbl : b < w.heap.size := World.block_lt_of_cell? w _ c0
  rcases ho with rfl | rfl | rfl <;> rcases ha with rfl | rfl <;> rcases ha' with rfl | rfl
  all_goals
    go_enter Tryz.func164, Tryz.ntmps164
    go_wp2_with fail
    go_quiet (fail)
    go_wp2_with fail
    go_ret
    exact ⟨rfl, ⟨rfl, rfl, rfl, Nat.le_refl _, fun _ _ => rfl⟩⟩
theorem rtyped3 (a a' a2 : Int) (b off cap : Nat) (w : World) (ha : a = 1 ∨ a = 2) (ha' : a' = 1 ∨ a' = 2) (ha2 : a2 = 1 ∨ a2 = 2) (c0 : w.cell? ⟨b, off, none⟩ = some (.int .i64 a)) (c1 : w.cell? ⟨b, off + 1, none⟩ = some (.int .i64 a')) (c2 : w.cell? ⟨b, off + 2, none⟩ = some (.int .i64 a2)) :
    Calls Tryz.prog 164 #[.int .i64 18, .slice (some ⟨b, off, none⟩) 3 cap] w (Gives (.int .i64 (typI 18 [a, a', a2])) w) := by
  have hbl : b < w.heap.size := World.block_lt_of_cell? w _ c0
  rcases ha with rfl | rfl <;> rcases ha' with rfl | rfl <;> rcases ha2 with rfl | rfl
  all_goals
    go_enter Tryz.func164, Tryz.ntmps164
    go_wp2_with fail
    go_quiet (fail)
    go_wp2_with fail
    go_ret
    exact ⟨rfl, ⟨rfl, rfl, rfl, Nat.le_refl _, fun _ _ => rfl⟩⟩
theorem rtyped_any (op : Int) (ao : Option Addr) (cap : Nat) (ts : List Int) (hl : arityI op = ts.length) (h0 : 0 < ts.length) (hv : ∀ k ∈ ts, k = 1 ∨ k = 2) (w : World) (hR : RAt encInt 1 w w.heap.size ao ts) :
    Calls Tryz.prog 164 #[.int .i64 op, .slice ao ts.length cap] w (Gives (.int .i64 (typI op ts)) w) := by
  obtain ⟨b, off, rfl, _⟩ := hR.form h0
  have h3 := arity_cases op
  rcases ts with _ | ⟨u, _ | ⟨v, _ | ⟨x, _ | ⟨y, l⟩⟩⟩⟩
  · simp at h0
  · have c0 := RAt.int hR (i := 0) (by simp)
    simp only [Nat.add_zero, List.getElem_cons_zero] at c0
    exact rtyped1 op u b off cap w (arity_1 (by simpa using hl)) (hv u (by simp)) c0
  · have c0 := RAt.int hR (i := 0) (by simp)
    have c1 := RAt.int hR (i := 1) (by simp)
    simp only [Nat.add_zero, List.getElem_cons_zero, List.getElem_cons_succ] at c0 c1
    have ho := arity_2 (op := op) (by simpa using hl)
    by_cases hb : op = 11 ∨ op = 12 ∨ op = 17
    · exact rtyped2b op u v b off cap w hb (hv u (by simp)) (hv v (by simp)) c0 c1
    · exact rtyped2a op u v b off cap w (by omega) (hv u (by simp)) (hv v (by simp)) c0 c1
  · have c0 := RAt.int hR (i := 0) (by simp)
    have c1 := RAt.int hR (i := 1) (by simp)
    have c2 := RAt.int hR (i := 2) (by simp)
    simp only [Nat.add_zero, List.getElem_cons_zero, List.getElem_cons_succ] at c0 c1 c2
    obtain rfl := arity_3 (op := op) (by simpa using hl)
    exact rtyped3 u v x b off cap w (hv u (by simp)) (hv v (by simp)) (hv x (by simp)) c0 c1 c2
  · simp only [List.length_cons] at hl; omega
theorem rtypeOf_any (to_ : Option Addr) (tcap : Nat) (types : List Int) (hTy : ∀ k ∈ types, k = 1 ∨ k = 2) (htl : types.length ≤ maxLen) : ∀ x : Ex, x.ok → x.depth ≤ 16 → ∀ (ao : Option Addr) (cap : Nat) (l : List Tm), Hid (l = x.flat) → l.length ≤ 64 → l.length ≤ cap → (∀ t ∈ l, t.okT) → ∀ w : World, TmsAt w w.heap.size ao l → RAt encInt 1 w w.heap.size to_ types →
    Calls Tryz.prog 144 #[.slice ao l.length cap, .slice to_ types.length tcap] w (TyRes (x.fold (tyT types)) w) := by
  intro x
  induction x using Ex.ind with
  | h x ih =>
    intro hxo hxd ao cap l hl h64 hcap hok w hT hR
    have hpos : 0 < l.length := by rw [hl.out]; exact x.flat_pos
    obtain ⟨b, off, rfl, _⟩ := hT.form hpos
    obtain ⟨c0, c1, c2, c3, c4⟩ := RAt.tm hT hpos
    have h0 : l[0] = x.head := by
      have h1 : l = x.head :: flats x.args := hl.out.trans (Ex.flat_eq x)
      subst h1; rfl
    rw [h0] at c0 c1 c2 c3 c4
    simp only [Nat.zero_mul, Nat.add_zero] at c0 c1 c2 c3 c4
    obtain ⟨hx1, hx2, hx3⟩ := (Ex.ok_iff x).1 hxo
    have hfe := Ex.fold_eq (tyT types) x
    have hbl : b < w.heap.size := World.block_lt_of_cell? w _ c0
    unfold maxLen at htl
    by_cases h1 : x.head.op = 1
    · have he : Hid (x.fold (tyT types) = (x.head.v.k, 0)) := by unfold Hid; rw [hfe]; simp [tyT, h1]
      rw [h1] at c0
      generalize x.head.v.k = k at *
      clear hT hR hok hl ih hfe hx1 hx2 hx3 hxo hxd h0 h1 c2 c3 c4 hTy
      go_enter Tryz.func144, Tryz.ntmps144
      go_wp2_with fail
      go_ret2
      exact ⟨_, _, he.out, rfl, Below.refl _ _⟩
    · have y1 : (x.head.op == 1) = false := by simpa using h1
      by_cases h2 : x.head.op = 2
      · have he : Hid (x.fold (tyT types) = match types[x.head.c.toNat]? with | some k => (k, 0) | none => (0, 3)) := by unfold Hid; rw [hfe]; simp [tyT, h2]; first | done | rfl
        have htc : 0 ≤ x.head.c := by
          unfold termB fieldsB at hx1
          rw [if_neg h1, if_pos h2] at hx1
          simp at hx1; exact hx1.2.2
        rw [h2] at c0
        obtain ⟨m, hm⟩ : ∃ m : Nat, x.head.c = m := ⟨x.head.c.toNat, by omega⟩
        rw [hm] at c4 he
        rw [Int.toNat_natCast] at he
        by_cases hlt : m < types.length
        · obtain ⟨b2, off2, rfl, _⟩ := hR.form (by omega)
          have d0 := RAt.int hR hlt
          have hbl2 : b2 < w.heap.size := World.block_lt_of_cell? w _ d0
          rw [List.getElem?_eq_getElem hlt] at he
          generalize types[m] = k at *
          clear hT hR hok hl ih hfe hx1 hx2 hx3 hxo hxd h0 h1 h2 c1 c2 c3 y1 htc hm hTy
          go_enter Tryz.func144, Tryz.ntmps144
          go_wp2_with fail
          go_ret2
          exact ⟨_, _, he.out, rfl, Below.refl _ _⟩
        · rw [List.getElem?_eq_none (by omega)] at he
          clear hT hR hok hl ih hfe hx1 hx2 hx3 hxo hxd h0 h1 h2 c1 c2 c3 y1 htc hm hTy
          go_enter Tryz.func144, Tryz.ntmps144
          go_wp2_with fail
          go_ret2
          exact ⟨_, _, he.out, rfl, Below.refl _ _⟩
      · have y2 : (x.head.op == 2) = false := by simpa using h2
        have he : Hid (x.fold (tyT types) = tyOp x.head.op (x.args.map (Ex.fold (tyT types)))) := by unfold Hid; rw [hfe]; simp [tyT, h1, h2]
        have hO := fun w hT => roperands_any (some ⟨b, off, none⟩) cap l x ⟨⟨by rw [List.append_nil]; exact hl.out, hxo⟩, by omega⟩ h64 hcap hok w hT
        have hap : 0 < x.args.length := by
          rcases Nat.eq_zero_or_pos x.args.length with h | h
          · rcases arity0 (op := x.head.op) (by rw [hx2, h]; rfl) with h' | h' <;> omega
          · exact h
        have hap3 := x.args_le
        have IH := Lib.hid ih
        have HO := Lib.hid hO
        have HT := Lib.hid hT
        have HR := Lib.hid hR
        have Hx2 := Lib.hid hx2
        have HTy := Lib.hid hTy
        have Hsub := Lib.hid (show ∀ a ∈ x.args, a.ok ∧ a.depth ≤ 16 ∧ a.flat.length ≤ 64 ∧ ∀ t ∈ a.flat, t.okT by
          intro a ha
          have h3 := le_depths ha
          rw [Ex.depth_eq] at hxd
          have h4 : ∀ t ∈ a.flat, t ∈ l := by
            intro t ht
            rw [hl.out, Ex.flat_eq]
            refine List.mem_cons_of_mem _ ?_
            exact flats_mem ha ht
          have h5 : a.flat.length ≤ l.length := by
            rw [hl.out, Ex.flat_eq x]
            have := flats_mem_len ha
            simp only [List.length_cons]; omega
          exact ⟨hx3 a ha, by omega, by omega, fun t ht => hok t (h4 t ht)⟩)
        generalize x.head.op = op at *
        clear hT hR hok hl ih hO hfe hx1 hx2 hx3 hxo hxd h0 h1 h2 c1 c2 c3 c4 hTy
        go_enter Tryz.func144, Tryz.ntmps144
        go_wp2_with fail
        refine (HO.out _ HT.out).mono ?_
        rintro e w1 ⟨io, icap, its, rfl, hits, hI, hb1⟩
        have hil : its.length = x.args.length := by have := congrArg List.length hits.out.1; simpa using this
        have HI := Lib.hid hI
        have HB := Lib.hid hb1
        have hil1 : its.length ≤ 3 := by omega
        have hil0 : 0 < its.length := by omega
        have Hil := Lib.hid hil
        clear hb1 hI hil
        go_wp2_with fail
        go_loopw [6, 8] (fun v i wr => ∃ (k : Nat) (ts : List Int) (ad : Option Addr) (cp : Nat), i = .int .i64 k ∧ v = .slice ad ts.length cp ∧ k ≤ its.length ∧ ts.length ≤ 3 ∧ Hid (ts = (x.args.take k).map (fun a => (a.fold (tyT types)).1) ∧ ∀ a ∈ x.args.take k, (a.fold (tyT types)).2 = 0) ∧ Hid (OwnsR encInt 1 wr w1.heap.size 3 (.slice ad ts.length cp) ts) ∧ Hid (Below w1.heap.size w1 wr)) (fun _ i _ => its.length - (intOf i).toNat)
        case atStart => exact ⟨0, [], none, 0, rfl, rfl, by omega, by simp, by simp [Hid], OwnsR.nil, Below.refl _ _⟩
        case round =>
          obtain ⟨k, ts, ad, cp, rfl, rfl, hk, hvl, hV, hown, hB⟩ := hrel
          have hsz := hB.out.size
          by_cases hlt : k < its.length
          · obtain ⟨bi, oi, rfl, _⟩ := HI.out.row.form hil0
            have d0 := (HI.out.later hB.out).at hlt
            have hka : k < x.args.length := by have := Hil.out; omega
            have hs1 : its[k].l = (x.args[k]).flat := by
              have h1 := congrArg (fun z => z[k]?) hits.out.1
              simpa [List.getElem?_map, List.getElem?_eq_getElem hlt, List.getElem?_eq_getElem hka] using h1
            have hmem := List.getElem_mem hka
            obtain ⟨g1, g2, g3, g4⟩ := Hsub.out _ hmem
            have hE := IH.out x.args[k] hmem g1 g2 its[k].ao its[k].cap its[k].l hs1 (by rw [hs1]; exact g3) (hits.out.2 _ (List.getElem_mem hlt)) (by rw [hs1]; exact g4) wr ((HI.out.each _ (List.getElem_mem hlt)).later hB.out) (HR.out.later (bt HB.out hB.out))
            have htk : x.args.take (k + 1) = x.args.take k ++ [x.args[k]] := by rw [List.take_succ_eq_append_getElem hka]
            have hspl : x.args = x.args.take k ++ x.args[k] :: x.args.drop (k + 1) := by rw [List.getElem_cons_drop hka, List.take_append_drop]
            have Hspl := Lib.hid (congrArg (List.map (Ex.fold (tyT types))) hspl)
            have Htk := Lib.hid htk
            have HE := Lib.hid hE
            have hbl' : bi < wr.heap.size := World.block_lt_of_cell? wr _ d0
            have hlt2 : k + 1 ≤ its.length := hlt
            clear hE htk hs1 hmem g1 g2 g3 g4 hspl
            generalize its[k] = s at *
            generalize x.args[k] = xk at *
            go_wp2_with fail
            refine HE.out.mono ?_
            rintro e w9 ⟨vk, vm, hv, rfl, hb⟩
            have hown9 := OwnsR.below hown.out hb
            have HB9 := Lib.hid (bt hB.out hb)
            have hsz9 : w1.heap.size ≤ w9.heap.size := HB9.out.size
            clear hb hown
            by_cases hm0 : vm = 0
            · have ym : (vm != 0) = false := by simpa using hm0
              have Hm0 := Lib.hid hm0
              clear hm0
              go_wp2_with (at_builtin; refine wpList_appR (enc := encInt) (m := 1) Tryz.underlying36 infoInt rfl (by decide) encInt_len encInt_one _ w9 rfl (.tmp 59) (.tmp 61) rfl w1.heap.size _ ts rfl hown9 [vk] 1 1 #[.int .i64 vk] rfl rfl rfl rfl rfl rfl rfl (by decide) (by omega) (by unfold maxLen; omega) hsz9 ?_; intro v3 g3 cap3 w10 hv3 hown10 haw10 hb10 hat10 hlt10)
              refine ⟨⟨k + 1, v3, _, _, by go_num, rfl, hlt2, ?_, ?_, hown10, HB9.out.trans hb10⟩, by simp [intOf]; omega⟩
              · rw [hv3.out]
                have h1 := congrArg List.length hV.out.1
                simp at h1 ⊢
                omega
              · refine ⟨?_, ?_⟩
                · rw [hv3.out, Htk.out, List.map_append, ← hV.out.1, List.map_singleton, hv.out]
                · intro a ha
                  rw [Htk.out] at ha
                  rcases List.mem_append.1 ha with ha | ha
                  · exact hV.out.2 a ha
                  · rw [List.mem_singleton.1 ha, hv.out]; exact Hm0.out
            · have ym : (vm != 0) = true := by simpa using hm0
              have hres : Hid (x.fold (tyT types) = (0, vm)) := by
                unfold Hid
                rw [he.out, Hspl.out, List.map_append, List.map_cons, tyOp_err (by
                  intro q hq
                  obtain ⟨a, ha, rfl⟩ := List.mem_map.1 hq
                  exact hV.out.2 a ha) (by rw [hv.out]; exact hm0), hv.out]
              clear hm0
              go_wp2_with fail
              go_ret2
              exact ⟨_, _, hres.out, rfl, bt HB.out HB9.out⟩
          · have hke : k = its.length := by omega
            subst hke
            obtain ⟨aoV, capV, heq, hrV, _, _, _, _⟩ := OwnsR.rAt encInt_len hown.out
            simp only [Value.slice.injEq, true_and] at heq
            obtain ⟨rfl, rfl⟩ := heq
            have htake : x.args.take its.length = x.args := List.take_of_length_le (by have := Hil.out; omega)
            have hts : ts = (x.args.map (Ex.fold (tyT types))).map (·.1) := by rw [hV.out.1, htake, List.map_map]; rfl
            have hz : ∀ q ∈ x.args.map (Ex.fold (tyT types)), q.2 = 0 := by
              intro q hq
              obtain ⟨a, ha, rfl⟩ := List.mem_map.1 hq
              exact hV.out.2 a (by rw [htake]; exact ha)
            have htl2 : ts.length = x.args.length := by rw [hts]; simp
            have hgood : ∀ k ∈ ts, k = 1 ∨ k = 2 := by
              intro k hk
              rw [hts] at hk
              obtain ⟨q, hq, rfl⟩ := List.mem_map.1 hk
              have h2 := hz q hq
              obtain ⟨a, ha, rfl⟩ := List.mem_map.1 hq
              rcases foldT_good types HTy.out a (Hsub.out a ha).1 with h3 | h3
              · exact h3.2
              · exact absurd h2 h3.2
            have hres : x.fold (tyT types) = if typI op ts = 0 then (0, 5) else (typI op ts, 0) := by rw [he.out, tyOp_ok hz, ← hts]
            have hA := rtyped_any op ad cp ts (by rw [Hx2.out, htl2]) (by omega) hgood wr hrV
            have c0' : wr.cell? ⟨b, off, none⟩ = some (.int .i64 op) := ((bt HB.out hB.out).cell (p := ⟨b, off, none⟩) hbl).trans c0
            have HB2 := Lib.hid (bt HB.out hB.out)
            have hbw : b < wr.heap.size := World.block_lt_of_cell? wr _ c0'
            generalize typI op ts = ty at *
            have Hres := Lib.hid hres
            have HA := Lib.hid hA
            clear hA hts hz htl2 hgood hrV hown hlt c0 hV hres htake
            go_wp2_with fail
            refine HA.out.mono ?_
            rintro e w12 ⟨rfl, hb⟩
            have HB3 := Lib.hid (bt HB2.out hb)
            clear hb
            by_cases hty : ty = 0
            · have yt : (ty == 0) = true := by simpa using hty
              have hr2 := Hres.out
              rw [if_pos hty] at hr2
              have Hr2 := Lib.hid hr2
              clear hty hr2
              go_wp2_with fail
              go_ret2
              exact ⟨_, _, Hr2.out, rfl, HB3.out⟩
            · have yt : (ty == 0) = false := by simpa using hty
              have hr2 := Hres.out
              rw [if_neg hty] at hr2
              have Hr2 := Lib.hid hr2
              clear hty hr2
              go_wp2_with fail
              go_ret2
              exact ⟨_, _, Hr2.out, rfl, HB3.out⟩
theorem rexType_any (ao to_ : Option Addr) (cap tcap : Nat) (l : List Tm) (types : List Int) (hl : l.length ≤ maxLen) (hcap : l.length ≤ cap) (hok : ∀ t ∈ l, t.okT) (htl : types.length ≤ maxLen) (w : World) (hT : TmsAt w w.heap.size ao l) (hR : RAt encInt 1 w w.heap.size to_ types) :
    Calls Tryz.prog 104 #[.slice ao l.length cap, .slice to_ types.length tcap] w (TyRes (tyL types l) w) := by
  have hV := rexValid_any ao cap l hl hok w hT
  cases hvl : validL l
  · have hres : Hid (tyL types l = (0, 1)) := by unfold Hid tyL; rw [if_pos (.inl hvl)]
    rw [hvl] at hV
    have HV := Lib.hid hV
    clear hV hvl hok hT hR
    go_enter Tryz.func104, Tryz.ntmps104
    go_wp2_with fail
    refine HV.out.mono ?_
    rintro e w1 ⟨rfl, hb⟩
    have HB := Lib.hid hb
    clear hb
    go_wp2_with fail
    go_ret2
    exact ⟨_, _, hres.out, rfl, HB.out⟩
  · obtain ⟨x, hx, hH, hd, h64⟩ := validL_get hvl
    have hres := Lib.hid (show tyL types l = if types.any noTy = true then (0, 1) else x.fold (tyT types) by unfold tyL; rw [hvl, hx]; simp)
    have hE := fun hTy w hT hR => rtypeOf_any to_ tcap types hTy htl x hH.2 hd ao cap l (by have := hH.1; rwa [List.append_nil] at this) h64 hcap hok w hT hR
    rw [hvl] at hV
    have HV := Lib.hid hV
    have HE := Lib.hid hE
    have HT := Lib.hid hT
    have HR := Lib.hid hR
    unfold maxLen at htl
    clear hV hE hT hR hvl hok hx hH hd h64
    go_enter Tryz.func104, Tryz.ntmps104
    go_wp2_with fail
    refine HV.out.mono ?_
    rintro e w1 ⟨rfl, hb⟩
    have HB := Lib.hid hb
    clear hb
    go_wp2_with fail
    go_loopw [6] (fun i wr => ∃ k : Nat, k ≤ types.length ∧ i = .int .i64 k ∧ Hid (Below w.heap.size w wr ∧ ∀ j (h : j < types.length), j < k → noTy types[j] = false)) (fun i _ => types.length - (intOf i).toNat)
    case atStart => exact ⟨0, by omega, rfl, HB.out, fun j _ h => absurd h (by omega)⟩
    case round =>
      obtain ⟨k, hk, rfl, hX⟩ := hrel
      by_cases hlt : k < types.length
      · obtain ⟨b, off, rfl, _⟩ := HR.out.form (by omega)
        have c0 := RAt.int (HR.out.later hX.out.1) hlt
        have Hmem := Lib.hid (List.getElem_mem hlt)
        have Hj := Lib.hid (show ∀ j (h : j < types.length), j = k → noTy types[j] = noTy types[k] from fun j h e => by subst e; rfl)
        have hlt2 : k + 1 ≤ types.length := hlt
        generalize types[k] = s at *
        have hway : ((s != 1) = false ∧ noTy s = false) ∨ ((s != 1) = true ∧ (s != 2) = false ∧ noTy s = false) ∨ ((s != 1) = true ∧ (s != 2) = true ∧ noTy s = true) := by
          unfold noTy
          cases (s != 1) <;> cases (s != 2) <;> simp
        have Hw := Lib.hid hway
        clear hway
        rcases Hw.out with ⟨y1, hn⟩ | ⟨y1, y2, hn⟩ | ⟨y1, y2, hn⟩
        · have Hn := Lib.hid hn
          clear hn Hw
          go_wp2_with fail
          refine ⟨⟨k + 1, hlt2, by go_num, hX.out.1, fun j hj hjk => ?_⟩, by simp [intOf]; omega⟩
          by_cases hje : j < k
          · exact hX.out.2 j hj hje
          · exact (Hj.out j hj (by omega)).trans Hn.out
        · have Hn := Lib.hid hn
          clear hn Hw
          go_wp2_with fail
          refine ⟨⟨k + 1, hlt2, by go_num, hX.out.1, fun j hj hjk => ?_⟩, by simp [intOf]; omega⟩
          by_cases hje : j < k
          · exact hX.out.2 j hj hje
          · exact (Hj.out j hj (by omega)).trans Hn.out
        · have hany : types.any noTy = true := List.any_eq_true.2 ⟨s, Hmem.out, hn⟩
          have hr2 := hres.out
          rw [if_pos hany] at hr2
          have Hr2 := Lib.hid hr2
          clear hn Hw hany hr2
          go_wp2_with fail
          go_ret2
          exact ⟨_, _, Hr2.out, rfl, hX.out.1⟩
      · have hke : k = types.length := by omega
        have hany : types.any noTy = false := by
          rw [List.any_eq_false]
          intro s hs
          obtain ⟨j, hj, rfl⟩ := List.mem_iff_getElem.1 hs
          rw [hX.out.2 j hj (by omega)]; simp
        have hr2 := hres.out
        rw [if_neg (by rw [hany]; simp)] at hr2
        have Hr2 := Lib.hid hr2
        have Hg := Lib.hid (noTy_good hany)
        clear hany hr2 hke
        go_wp2_with fail
        refine (HE.out Hg.out _ (HT.out.later hX.out.1) (HR.out.later hX.out.1)).mono ?_
        rintro e w2 ⟨k1, m1, hv, rfl, hb⟩
        have HB2 := Lib.hid (bt hX.out.1 hb)
        clear hb
        go_wp2_with fail
        go_ret2
        exact ⟨_, _, Hr2.out.trans hv.out, rfl, HB2.out⟩
end Go.Proofs.YtenonljnldbkiaaGreatDoor
