/- Arity, fields, end and Valid of the reference of expressions. -/
import Derived.Test.YtmikeifkmjhioaaGreatDoorYb
namespace Go.Proofs.YtmikeifkmjhioaaGreatDoor
open Go.RowKit Go.Proofs.EB
set_option maxHeartbeats 1000000
attribute [local go_sem] World.cell?_alloc_some

theorem rarity_any (op : Int) (w : World) : Calls Tryz.prog 22 #[.int .i64 op] w fun e w' => e = .returned (.int .i64 (arityI op)) ∧ w = w' := by
  go_enter Tryz.func22, Tryz.ntmps22
  go_wp2
  all_goals go_ret
  all_goals (simp only [beq_iff_eq, beq_eq_false_iff_ne, ne_eq] at *; refine ⟨?_, by simp⟩; congr 2; unfold arityI; repeat' split)
  all_goals first | rfl | omega

theorem fieldsB_const (k n c : Int) (s : ByteArray) : fieldsB ⟨1, ⟨k, n, s⟩, c⟩ = (validB k n s && !(k == 0) && c == 0) := by
  unfold fieldsB vB; simp
theorem fieldsB_col (k n c : Int) (s : ByteArray) : fieldsB ⟨2, ⟨k, n, s⟩, c⟩ = (zeroB ⟨k, n, s⟩ && decide (0 ≤ c)) := by
  unfold fieldsB; simp
theorem fieldsB_op {o k n c : Int} {s : ByteArray} (h1 : o ≠ 1) (h2 : o ≠ 2) : fieldsB ⟨o, ⟨k, n, s⟩, c⟩ = (zeroB ⟨k, n, s⟩ && c == 0) := by
  unfold fieldsB; simp [h1, h2]
theorem rfields_any (o k n c : Int) (s : ByteArray) (w : World) (hs : s.size ≤ maxLen) :
    Calls Tryz.prog 84 #[.agg #[.int .i64 o, .int .i64 k, .int .i64 n, .string s, .int .i64 c]] w (Gives (.bool (fieldsB ⟨o, ⟨k, n, s⟩, c⟩)) w) := by
  have hb1 : Below w.heap.size w (w.alloc (.cells #[.int .i64 o, .int .i64 k, .int .i64 n, .string s, .int .i64 c] 48)) := (Below.refl _ _).alloc (Nat.le_refl _) _
  have hbq := (Lib.hid hb1)
  clear hb1
  by_cases h1 : o = 1
  · subst h1
    rw [fieldsB_const]
    have hV := fun w => rvalid_b k n s w hs
    generalize validB k n s = vb at *
    have HV := Lib.hid hV
    clear hV
    cases vb
    · go_enter Tryz.func84, Tryz.ntmps84
      go_wp2_with fail
      refine (HV.out _).mono ?_
      rintro e w' ⟨rfl, hb2⟩
      go_wp2_with fail
      go_ret
      exact ⟨rfl, hbq.out.trans (hb2.mono hbq.out.size)⟩
    · by_cases hk : k = 0
      · subst hk
        go_enter Tryz.func84, Tryz.ntmps84
        go_wp2_with fail
        refine (HV.out _).mono ?_
        rintro e w' ⟨rfl, hb2⟩
        have hc0 := hb2.cell (p := ⟨w.heap.size, 1, none⟩) (by simp)
        go_wp2_with fail
        go_ret
        exact ⟨rfl, hbq.out.trans (hb2.mono hbq.out.size)⟩
      · have z1 : (k != 0) = true := by simpa using hk
        have z2 : (k == 0) = false := by simpa using hk
        rw [z2]
        clear hk
        go_enter Tryz.func84, Tryz.ntmps84
        go_wp2_with fail
        refine (HV.out _).mono ?_
        rintro e w' ⟨rfl, hb2⟩
        have hc0 := hb2.cell (p := ⟨w.heap.size, 1, none⟩) (by simp)
        have hc1 := hb2.cell (p := ⟨w.heap.size, 4, none⟩) (by simp)
        go_wp2_with fail
        go_ret
        exact ⟨rfl, hbq.out.trans (hb2.mono hbq.out.size)⟩
  · have y1 : (o == 1) = false := by simpa using h1
    have hg := guardV
    have heq : ∀ w, (binOp .eql 31 (.agg #[.int .i64 k, .int .i64 n, .string s]) (.agg #[.int .i64 0, .int .i64 0, .string ⟨#[]⟩])).run Tryz.prog w = .ok (.bool (zeroB ⟨k, n, s⟩)) w := fun w => by rw [eqlV, zeroB_eq]
    by_cases h2 : o = 2
    · subst h2
      rw [fieldsB_col]
      generalize zeroB ⟨k, n, s⟩ = zb at *
      cases zb
      all_goals
        go_enter Tryz.func84, Tryz.ntmps84
        go_wp2_with fail
        go_ret
        exact ⟨rfl, hbq.out⟩
    · have y2 : (o == 2) = false := by simpa using h2
      rw [fieldsB_op h1 h2]
      generalize zeroB ⟨k, n, s⟩ = zb at *
      clear h1 h2
      cases zb
      all_goals
        go_enter Tryz.func84, Tryz.ntmps84
        go_wp2_with fail
        go_ret
        exact ⟨rfl, hbq.out⟩

/-- If an operand does not read at a depth, the whole does not at one more. -/
theorem head_deep {t : Tm} {l r : List Tm} {xs : List Ex} {n d : Nat} (hn : arityI t.op = n) (hx : oks xs) (hl : l = flats xs ++ r) (hk : xs.length < n) (hf : ∀ x r', Head r x r' → d < x.depth) : ∀ x r', Head (t :: l) x r' → d + 1 < x.depth := by
  intro x r' ⟨e, ho⟩
  rw [Ex.flat_eq, List.cons_append] at e
  obtain ⟨h1, h2, h3⟩ := (Ex.ok_iff x).1 ho
  obtain ⟨rfl, e2⟩ := List.cons.inj e
  have h4 : x.args.length = n := by omega
  obtain ⟨zs, hz, hr⟩ := seq_prefix xs x.args r r' hx h3 (hl.symm.trans e2) (by omega)
  cases zs with
  | nil => rw [hz] at h4; simp at h4; omega
  | cons z zs =>
    have hm : z ∈ x.args := by rw [hz]; simp
    have := hf z (flats zs ++ r') ⟨by rw [hr, flats, List.append_assoc], h3 z hm⟩
    have := le_depths hm
    rw [Ex.depth_eq]; omega
/-- What end gives. -/
def EndP (l : List Tm) (pos d : Nat) (w : World) (e : Ending) (w' : World) : Prop :=
  Below w.heap.size w w' ∧ ((∃ x r q, Hid (Head (l.drop pos) x r ∧ x.depth ≤ d ∧ q + r.length = l.length) ∧ e = .returned (.int .i64 (q : Nat))) ∨ (Hid (∀ x r, Head (l.drop pos) x r → d < x.depth) ∧ e = .returned (.int .i64 (-1))))
set_option maxRecDepth 100000 in
theorem rend_any (ao : Option Addr) (cap : Nat) (l : List Tm) (hl : l.length ≤ 64) (hok : ∀ t ∈ l, t.okT) : ∀ (d : Nat), d ≤ 16 → ∀ pos : Nat, pos ≤ l.length → ∀ w : World, TmsAt w w.heap.size ao l →
    Calls Tryz.prog 49 #[.slice ao l.length cap, .int .i64 pos, .int .i64 d] w (EndP l pos d w) := by
  intro d
  induction d with
  | zero =>
    intro _ pos hp w hT
    have hN : Hid (∀ x r, Head (l.drop pos) x r → 0 < x.depth) := fun x _ _ => x.depth_pos
    by_cases hlt : pos < l.length
    · have z : decide ((l.length : Int) ≤ (pos : Int)) = false := by simp; omega
      clear hT hok
      go_enter Tryz.func49, Tryz.ntmps49
      go_wp2_with fail
      go_ret
      exact ⟨Below.refl _ _, .inr ⟨hN, rfl⟩⟩
    · have z : decide ((l.length : Int) ≤ (pos : Int)) = true := by simp; omega
      clear hT hok
      go_enter Tryz.func49, Tryz.ntmps49
      go_wp2_with fail
      go_ret
      exact ⟨Below.refl _ _, .inr ⟨hN, rfl⟩⟩
  | succ d ih =>
    intro hd16 pos hp w hT
    by_cases hlt : pos < l.length
    · have z : decide ((l.length : Int) ≤ (pos : Int)) = false := by simp; omega
      obtain ⟨b, off, rfl, _⟩ := hT.form (by omega)
      obtain ⟨c0, c1, c2, c3, c4⟩ := RAt.tm hT hlt
      have hdc : l.drop pos = l[pos] :: l.drop (pos + 1) := List.drop_eq_getElem_cons hlt
      obtain ⟨t, ht⟩ : ∃ t, t = l[pos] := ⟨_, rfl⟩
      have hts : t.v.s.size ≤ maxLen := by rw [ht]; exact (hok _ (List.getElem_mem hlt)).2.1.2.2
      rw [← ht] at c0 c1 c2 c3 c4 hdc
      have hV := fun w => rfields_any t.op t.v.k t.v.n t.c t.v.s w hts
      have hte : (⟨t.op, ⟨t.v.k, t.v.n, t.v.s⟩, t.c⟩ : Tm) = t := rfl
      rw [hte] at hV
      have hA := fun w => rarity_any t.op w
      have hl64 : (pos : Int) < (l.length : Int) := by omega
      have y0 : (((d : Int) + 1) == 0) = false := by rw [beq_eq_false_iff_ne]; omega
      have z' : decide (l.length ≤ pos) = false := by simp; omega
      by_cases h0 : 0 ≤ arityI t.op
      · have y1 : decide (arityI t.op < 0) = false := by simp; omega
        obtain ⟨ar, har⟩ : ∃ ar : Nat, arityI t.op = ar := ⟨(arityI t.op).toNat, by omega⟩
        have har3 : ar ≤ 3 := by have := arity_cases t.op; omega
        rw [har] at hA y1
        cases hfb : fieldsB t
        · have htb : termB t = false := by unfold termB; rw [hfb]; simp
          have hN : Hid (∀ x r, Head (l.drop pos) x r → d + 1 < x.depth) := by unfold Hid; rw [hdc]; exact fun x r h => absurd h (head_bad htb x r)
          rw [hfb] at hV
          have HV := Lib.hid hV
          have HA := Lib.hid hA
          clear hV hA hfb htb hte ht hts hT ih hdc har h0
          go_enter Tryz.func49, Tryz.ntmps49
          go_wp2_with fail
          refine (HA.out _).mono ?_
          rintro e w' ⟨rfl, rfl⟩
          go_wp2_with fail
          refine (HV.out _).mono ?_
          rintro e w' ⟨rfl, hb2⟩
          go_wp2_with fail
          go_ret
          exact ⟨hb2, .inr ⟨hN, rfl⟩⟩
        · have htb : termB t = true := by unfold termB; rw [hfb]; simp [h0]
          rw [hfb] at hV
          have HV := Lib.hid hV
          have HA := Lib.hid hA
          have HT := Lib.hid hT
          have Htb := Lib.hid htb
          have Har := Lib.hid har
          have Hdc := Lib.hid hdc
          have IH := Lib.hid (ih (by omega))
          clear hV hA htb hte ht hts hT ih hdc har h0 hfb
          go_enter Tryz.func49, Tryz.ntmps49
          go_wp2_with fail
          refine (HA.out _).mono ?_
          rintro e w' ⟨rfl, rfl⟩
          go_wp2_with fail
          refine (HV.out _).mono ?_
          rintro e w' ⟨rfl, hb2⟩
          have c0' := (hb2.cell (p := ⟨b, off + pos * 5, none⟩) (World.block_lt_of_cell? _ _ c0)).trans c0
          have Hb2 := Lib.hid hb2
          clear c1 c2 c3 c4 hb2
          go_wp2_with fail
          refine (HA.out _).mono ?_
          rintro e w' ⟨rfl, rfl⟩
          go_wp2_with fail
          go_loopw [1, 8] (fun ev iv wr => ∃ (xs : List Ex) (r : List Tm) (k q : Nat), iv = .int .i64 k ∧ ev = .int .i64 q ∧ k ≤ ar ∧ q ≤ l.length ∧ Hid (k = xs.length ∧ depths xs ≤ d ∧ q + r.length = l.length ∧ l.drop (pos + 1) = flats xs ++ r ∧ oks xs) ∧ Hid (Below w.heap.size w wr)) (fun _ i _ => ar - (intOf i).toNat)
          case atStart => exact ⟨[], l.drop (pos + 1), 0, pos + 1, rfl, rfl, by omega, by omega, ⟨rfl, by simp [depths], by simp; omega, rfl, by simp [oks]⟩, Hb2.out⟩
          case round =>
            obtain ⟨xs, r, k, q, rfl, rfl, hk, hq, hX, hB⟩ := hrel
            by_cases hka : k < ar
            · have h1 : Hid (l.drop q = r) := by
                obtain ⟨h1, h2, h3, h4, h5⟩ := hX.out
                obtain ⟨h6, h7⟩ := drop_suffix h4 (by omega)
                unfold Hid
                rw [show q = l.length - r.length by omega]; exact h6.symm
              have hsz := hB.out.size
              have hd1 : ((d + 1 : Nat) : Int) - 1 = (d : Int) := by omega
              go_wp2_with fail
              refine (IH.out q hq _ (HT.out.later hB.out)).mono ?_
              rintro e w' ⟨hb3, hP⟩
              have hb4 := Lib.hid (hB.out.trans (hb3.mono hsz))
              clear hb3
              rcases hP with ⟨x, r', q', hH, rfl⟩ | ⟨hF, rfl⟩
              · rw [h1.out] at hH
                have hql : q' ≤ l.length := by have := hH.out.2.2; omega
                go_wp2_with fail
                refine ⟨⟨xs ++ [x], r', k + 1, q', by go_num, rfl, by omega, hql, ?_, hb4.out⟩, by simp [intOf]; omega⟩
                obtain ⟨g1, g2, g3, g4, g5⟩ := hX.out
                obtain ⟨⟨g8, g9⟩, g6, g7⟩ := hH.out
                refine ⟨by simp; omega, by rw [depths_app]; simp [depths]; omega, g7, by rw [g4, g8, flats_app]; simp [flats], ?_⟩
                intro y hy
                rcases List.mem_append.1 hy with hy | hy
                · exact g5 y hy
                · rw [List.mem_singleton.1 hy]; exact g9
              · have hN : Hid (∀ x r, Head (l.drop pos) x r → d + 1 < x.depth) := by
                  obtain ⟨g1, g2, g3, g4, g5⟩ := hX.out
                  unfold Hid
                  rw [Hdc.out]
                  rw [h1.out] at hF
                  exact head_deep Har.out g5 g4 (by omega) hF.out
                go_wp2_with fail
                go_ret
                exact ⟨hb4.out, .inr ⟨hN, rfl⟩⟩
            · have hka' : k = ar := by omega
              subst hka'
              clear hka
              go_wp2_with fail
              go_ret
              refine ⟨hB.out, .inl ⟨Ex.node t xs, r, q, ?_, rfl⟩⟩
              obtain ⟨g1, g2, g3, g4, g5⟩ := hX.out
              unfold Hid
              rw [Hdc.out]
              exact ⟨head_node Htb.out (by rw [Har.out, g1]) g5 g4 (by omega), by rw [Ex.depth_eq, node_args _ _ (by omega)]; omega, g3⟩
      · have y1 : decide (arityI t.op < 0) = true := by simp; omega
        have htb : termB t = false := by unfold termB; simp [h0]
        have hN : Hid (∀ x r, Head (l.drop pos) x r → d + 1 < x.depth) := by unfold Hid; rw [hdc]; exact fun x r h => absurd h (head_bad htb x r)
        generalize arityI t.op = ar at *
        have HA := Lib.hid hA
        clear hV hA htb hte ht hts hT ih hdc h0
        go_enter Tryz.func49, Tryz.ntmps49
        go_wp2_with fail
        refine (HA.out _).mono ?_
        rintro e w' ⟨rfl, rfl⟩
        go_wp2_with fail
        go_ret
        exact ⟨Below.refl _ _, .inr ⟨hN, rfl⟩⟩
    · have hd : l.drop pos = [] := List.drop_eq_nil_of_le (by omega)
      have hN : Hid (∀ x r, Head (l.drop pos) x r → d + 1 < x.depth) := by unfold Hid; rw [hd]; exact fun x r h => absurd h (head_nil x r)
      have z : decide ((l.length : Int) ≤ (pos : Int)) = true := by simp; omega
      clear hd hT ih hok
      go_enter Tryz.func49, Tryz.ntmps49
      go_wp2_with fail
      go_ret
      exact ⟨Below.refl _ _, .inr ⟨hN, rfl⟩⟩
theorem rexValid_any (ao : Option Addr) (cap : Nat) (l : List Tm) (hl : l.length ≤ maxLen) (hok : ∀ t ∈ l, t.okT) (w : World) (hT : TmsAt w w.heap.size ao l) :
    Calls Tryz.prog 25 #[.slice ao l.length cap] w (Gives (.bool (validL l)) w) := by
  unfold maxLen at hl
  by_cases h64 : l.length ≤ 64
  · by_cases h1 : 1 ≤ l.length
    · have z1 : decide ((1 : Int) ≤ (l.length : Int)) = true := by simp; omega
      have hM := Lib.hid (rend_any ao cap l h64 hok 16 (by omega) 0 (by omega) w hT)
      have hv : ∀ e w', EndP l 0 16 w e w' → Below w.heap.size w w' ∧ ∃ q : Int, e = .returned (.int .i64 q) ∧ Hid (validL l = (q == (l.length : Int))) := by
        rintro e w' ⟨hb, hP⟩
        refine ⟨hb, ?_⟩
        rcases hP with ⟨x, r, q, hH, rfl⟩ | ⟨hF, rfl⟩
        · refine ⟨q, rfl, ?_⟩
          obtain ⟨h2, h3, h4⟩ := hH.out
          rw [List.drop_zero] at h2
          unfold Hid
          rw [Bool.eq_iff_iff, validL_iff, beq_iff_eq]
          constructor
          · rintro ⟨y, hy, _, _⟩
            obtain ⟨_, rfl⟩ := h2.uniq hy
            simp at h4; omega
          · intro h5
            have hr : r = [] := List.eq_nil_of_length_eq_zero (by omega)
            rw [hr] at h2
            exact ⟨x, h2, h3, h64⟩
        · refine ⟨-1, rfl, ?_⟩
          have hF2 := hF.out
          rw [List.drop_zero] at hF2
          unfold Hid
          rw [Bool.eq_iff_iff, validL_iff, beq_iff_eq]
          constructor
          · rintro ⟨y, hy, h6, _⟩
            have := hF2 _ _ hy
            omega
          · intro h5; omega
      have HV := Lib.hid hv
      clear hv hT hok
      go_enter Tryz.func25, Tryz.ntmps25
      go_wp2_with fail
      refine hM.out.mono ?_
      intro e w' hP
      obtain ⟨hb, q, rfl, hq⟩ := HV.out _ _ hP
      clear hP hM HV
      go_wp2_with fail
      go_ret
      exact ⟨ret_b hq.out.symm, hb⟩
    · have z1 : decide ((1 : Int) ≤ (l.length : Int)) = false := by simp; omega
      have hl0 : l = [] := List.eq_nil_of_length_eq_zero (by omega)
      have hv : validL l = false := by subst hl0; rfl
      rw [hv]
      clear hT hok hl0 hv
      go_enter Tryz.func25, Tryz.ntmps25
      go_wp2_with fail
      go_ret
      exact ⟨rfl, Below.refl _ _⟩
  · have z1 : decide ((1 : Int) ≤ (l.length : Int)) = true := by simp; omega
    rw [validL_long (by omega)]
    clear hT hok
    go_enter Tryz.func25, Tryz.ntmps25
    go_wp2_with fail
    go_ret
    exact ⟨rfl, Below.refl _ _⟩
end Go.Proofs.YtmikeifkmjhioaaGreatDoor
