/- validTerm, measure and Valid of package expr. -/
import Derived.Test.YtmikeifkmjhioaaGreatDoorYa
namespace Go.Proofs.YtmikeifkmjhioaaGreatDoor
open Go.RowKit Go.Proofs.EB
set_option maxHeartbeats 1000000
attribute [local go_sem] World.cell?_alloc_some

theorem eqlTm (o k n c o' k' n' c' : Int) (s s' : ByteArray) (w : World) : (binOp .eql 48 (.agg #[.int .i64 o, .int .i64 k, .int .i64 n, .string s, .int .i64 c]) (.agg #[.int .i64 o', .int .i64 k', .int .i64 n', .string s', .int .i64 c'])).run Tryz.prog w = .ok (.bool (o == o' && ((k == k' && (n == n' && s.toList == s'.toList)) && c == c'))) w := by
  have hS : Tryz.prog.underlying 48 = some (.struct (Tryz.prog.fieldsOf 48)) := by kernel_rfl
  have hp : Tryz.prog.stoodInHeld 48 = false := by kernel_rfl
  rw [run_eql_struct, show (10000 : Nat) = 9998 + 1 + 1 from rfl, run_equalIn_agg w (9998 + 1) 48 _ _ hS hp]
  simp only [Program.fieldsOf, Tryz.underlying48]
  have u3 := Tryz.underlying3
  have a3 := Tryz.isAgg3
  have z3 := Tryz.sizeOf3
  have u2 := Tryz.underlying2
  have a2 := Tryz.isAgg2
  have z2 := Tryz.sizeOf2
  have u9 := Tryz.underlying9
  have a9 := Tryz.isAgg9
  have z9 := Tryz.sizeOf9
  have u34 := Tryz.underlying31
  have a34 := Tryz.isAgg31
  have z34 := Tryz.sizeOf31
  go_simp
  by_cases h1 : o = o' <;> by_cases h2 : k = k' <;> by_cases h3 : n = n' <;> by_cases h4 : s.toList = s'.toList <;> by_cases h5 : c = c' <;> simp [h1, h2, h3, h4, h5]
theorem guardTm : Tryz.prog.eqGuardType Tryz.prog.depth 48 = false := by kernel_rfl
theorem structTm : Tryz.prog.underlying 48 = some (.struct (Tryz.prog.fieldsOf 48)) := by kernel_rfl
theorem stoodTm : Tryz.prog.stoodInHeld 48 = false := by kernel_rfl
theorem toList_nil : (ByteArray.toList ⟨#[]⟩ : List UInt8) = [] := by rw [ByteArray.toList_eq]
theorem isEmpty_eq (l : List UInt8) : (l == []) = l.isEmpty := by cases l <;> rfl
/-- What a call leaves that gives one value and makes memory. -/
def Gives (v : Value) (w : World) (e : Ending) (w' : World) : Prop := e = .returned v ∧ Below w.heap.size w w'
theorem zeroB_eq (k n : Int) (s : ByteArray) : (k == 0 && (n == 0 && s.toList == (⟨#[]⟩ : ByteArray).toList)) = zeroB ⟨k, n, s⟩ := by
  rw [toList_nil, isEmpty_eq, ← Bool.and_assoc]; rfl
theorem termB_const (k n c : Int) (s : ByteArray) : termB ⟨1, ⟨k, n, s⟩, c⟩ = (validB k n s && !(k == 0) && c == 0) := by
  unfold termB fieldsB vB; simp [arityI]
theorem termB_col (k n c : Int) (s : ByteArray) : termB ⟨2, ⟨k, n, s⟩, c⟩ = (zeroB ⟨k, n, s⟩ && decide (0 ≤ c)) := by
  unfold termB fieldsB; simp [arityI]
theorem termB_op {o k n c : Int} {s : ByteArray} (h0 : 0 ≤ arityI o) (h1 : o ≠ 1) (h2 : o ≠ 2) : termB ⟨o, ⟨k, n, s⟩, c⟩ = (zeroB ⟨k, n, s⟩ && c == 0) := by
  unfold termB fieldsB; simp [h0, h1, h2]
theorem ret_b {a b : Bool} (h : a = b) : Ending.returned (.bool a) = .returned (.bool b) := by rw [h]
theorem validTerm_any (o k n c : Int) (s : ByteArray) (w : World) (hs : s.size ≤ maxLen) (hO : Ops w) :
    Calls Tryz.prog 70 #[.agg #[.int .i64 o, .int .i64 k, .int .i64 n, .string s, .int .i64 c]] w (Gives (.bool (termB ⟨o, ⟨k, n, s⟩, c⟩)) w) := by
  have hb1 : Below w.heap.size w (w.alloc (.cells #[.int .i64 o, .int .i64 k, .int .i64 n, .string s, .int .i64 c] 48)) := (Below.refl _ _).alloc (Nat.le_refl _) _
  have hA := Lib.hid (arity_any o _ (hO.below hb1))
  have hbq := (Lib.hid hb1)
  clear hb1 hO
  by_cases h0 : arityI o < 0
  · have z0 : decide (arityI o < 0) = true := by simpa using h0
    have ht : termB ⟨o, ⟨k, n, s⟩, c⟩ = false := by unfold termB; simp; intro h; omega
    rw [ht]
    clear ht
    go_enter Tryz.func70, Tryz.ntmps70
    go_wp2_with fail
    refine hA.out.mono ?_
    rintro e w' ⟨rfl, rfl⟩
    go_wp2_with fail
    go_ret
    exact ⟨rfl, hbq.out⟩
  · have z0 : decide (arityI o < 0) = false := by simpa using h0
    by_cases h1 : o = 1
    · subst h1
      rw [termB_const]
      have hV := fun w => valid_b k n s w hs
      generalize validB k n s = vb at *
      have HV := Lib.hid hV
      clear hV h0
      cases vb
      · go_enter Tryz.func70, Tryz.ntmps70
        go_wp2_with fail
        refine hA.out.mono ?_
        rintro e w' ⟨rfl, rfl⟩
        go_wp2_with fail
        refine (HV.out _).mono ?_
        rintro e w' ⟨rfl, hb2⟩
        go_wp2_with fail
        go_ret
        exact ⟨rfl, hbq.out.trans (hb2.mono hbq.out.size)⟩
      · by_cases hk : k = 0
        · subst hk
          go_enter Tryz.func70, Tryz.ntmps70
          go_wp2_with fail
          refine hA.out.mono ?_
          rintro e w' ⟨rfl, rfl⟩
          go_wp2_with fail
          refine (HV.out _).mono ?_
          rintro e w' ⟨rfl, hb2⟩
          have hc0 := hb2.cell (p := ⟨w.heap.size, 1, none⟩) (by simp)
          go_wp2_with fail
          go_ret
          exact ⟨rfl, hbq.out.trans (hb2.mono hbq.out.size)⟩
        · have z1 : (k != 0) = true := by simpa using hk
          have z2 : (k == 0) = false := by simpa using hk
          rw [z2]
          clear hk
          go_enter Tryz.func70, Tryz.ntmps70
          go_wp2_with fail
          refine hA.out.mono ?_
          rintro e w' ⟨rfl, rfl⟩
          go_wp2_with fail
          refine (HV.out _).mono ?_
          rintro e w' ⟨rfl, hb2⟩
          have hc0 := hb2.cell (p := ⟨w.heap.size, 1, none⟩) (by simp)
          have hc1 := hb2.cell (p := ⟨w.heap.size, 4, none⟩) (by simp)
          go_wp2_with fail
          go_ret
          exact ⟨rfl, hbq.out.trans (hb2.mono hbq.out.size)⟩
    · have y1 : (o == 1) = false := by simpa using h1
      by_cases h2 : o = 2
      · subst h2
        rw [termB_col]
        have heq : ∀ w, (binOp .eql 31 (.agg #[.int .i64 k, .int .i64 n, .string s]) (.agg #[.int .i64 0, .int .i64 0, .string ⟨#[]⟩])).run Tryz.prog w = .ok (.bool (zeroB ⟨k, n, s⟩)) w := fun w => by rw [eqlV, zeroB_eq]
        generalize zeroB ⟨k, n, s⟩ = zb at *
        have hg := guardV
        clear h0
        cases zb
        all_goals
          go_enter Tryz.func70, Tryz.ntmps70
          go_wp2_with fail
          refine hA.out.mono ?_
          rintro e w' ⟨rfl, rfl⟩
          go_wp2_with fail
          go_ret
          exact ⟨rfl, hbq.out⟩
      · have y2 : (o == 2) = false := by simpa using h2
        rw [termB_op (by omega) h1 h2]
        have heq : ∀ w, (binOp .eql 48 (.agg #[.int .i64 o, .int .i64 k, .int .i64 n, .string s, .int .i64 c]) (.agg #[.int .i64 o, .int .i64 0, .int .i64 0, .string ⟨#[]⟩, .int .i64 0])).run Tryz.prog w = .ok (.bool (zeroB ⟨k, n, s⟩ && c == 0)) w := fun w => by rw [eqlTm, zeroB_eq, beq_self_eq_true, Bool.true_and]
        generalize (zeroB ⟨k, n, s⟩ && c == 0) = zb at *
        have hg := guardTm
        clear h0 h1 h2
        go_enter Tryz.func70, Tryz.ntmps70
        go_wp2_with fail
        refine hA.out.mono ?_
        rintro e w' ⟨rfl, rfl⟩
        go_wp2_with fail
        go_ret
        exact ⟨rfl, hbq.out⟩

theorem drop_suffix {l a r : List Tm} {p : Nat} (h : l.drop p = a ++ r) (hp : p ≤ l.length) : r = l.drop (l.length - r.length) ∧ l.length = p + a.length + r.length := by
  have h1 := congrArg List.length h
  rw [List.length_drop, List.length_append] at h1
  have h2 : l.length - r.length = p + a.length := by omega
  refine ⟨?_, by omega⟩
  rw [h2, ← List.drop_drop, h, List.drop_left]
/-- What measure gives. -/
def MeasP (l : List Tm) (pos : Nat) (w : World) (e : Ending) (w' : World) : Prop :=
  Below w.heap.size w w' ∧ ((∃ x r d q, Hid (Head (l.drop pos) x r) ∧ Hid (d = x.depth ∧ q + r.length = l.length) ∧ e = .returned (.tuple #[.int .i64 (d : Nat), .int .i64 (q : Nat)])) ∨ (Hid (∀ x r, ¬ Head (l.drop pos) x r) ∧ e = .returned (.tuple #[.int .i64 0, .int .i64 (pos : Nat)])))
theorem head_len {l r : List Tm} {x : Ex} (h : Head l x r) : x.depth ≤ l.length ∧ 0 < x.depth ∧ r.length < l.length := by
  have h1 := x.depth_le
  have h2 := x.depth_pos
  have h3 := congrArg List.length h.1
  rw [List.length_append] at h3
  have := x.flat_pos
  omega
set_option maxRecDepth 100000 in
theorem measure_any (ao : Option Addr) (cap : Nat) (l : List Tm) (hl : l.length ≤ 64) (hok : ∀ t ∈ l, t.okT) : ∀ (n pos : Nat), l.length - pos ≤ n → pos ≤ l.length → ∀ w : World, Ops w → TmsAt w w.heap.size ao l →
    Calls Tryz.prog 41 #[.slice ao l.length cap, .int .i64 pos] w (MeasP l pos w) := by
  intro n
  induction n with
  | zero =>
    intro pos hn hp w hO hT
    have hd : l.drop pos = [] := List.drop_eq_nil_of_le (by omega)
    have hN : Hid (∀ x r, ¬ Head (l.drop pos) x r) := by unfold Hid; rw [hd]; exact head_nil
    have z : decide ((l.length : Int) ≤ (pos : Int)) = true := by simp; omega
    clear hd hO hT
    go_enter Tryz.func41, Tryz.ntmps41
    go_wp2_with fail
    go_ret2
    exact ⟨Below.refl _ _, .inr ⟨hN, rfl⟩⟩
  | succ n ih =>
    intro pos hn hp w hO hT
    by_cases hlt : pos < l.length
    · have z : decide ((l.length : Int) ≤ (pos : Int)) = false := by simp; omega
      obtain ⟨b, off, rfl, _⟩ := hT.form (by omega)
      obtain ⟨c0, c1, c2, c3, c4⟩ := RAt.tm hT hlt
      have hdc : l.drop pos = l[pos] :: l.drop (pos + 1) := List.drop_eq_getElem_cons hlt
      obtain ⟨t, ht⟩ : ∃ t, t = l[pos] := ⟨_, rfl⟩
      have hts : t.v.s.size ≤ maxLen := by rw [ht]; exact (hok _ (List.getElem_mem hlt)).2.1.2.2
      rw [← ht] at c0 c1 c2 c3 c4 hdc
      have hV := fun w hO => validTerm_any t.op t.v.k t.v.n t.c t.v.s w hts hO
      have hte : (⟨t.op, ⟨t.v.k, t.v.n, t.v.s⟩, t.c⟩ : Tm) = t := rfl
      rw [hte] at hV
      cases htb : termB t
      · have hN : Hid (∀ x r, ¬ Head (l.drop pos) x r) := by unfold Hid; rw [hdc]; exact head_bad htb
        rw [htb] at hV
        have HV := Lib.hid hV
        have HO := Lib.hid hO
        clear hV hdc htb hte ht hts hT hO hn ih
        generalize t.op = tp at *
        generalize t.v.k = tk at *
        generalize t.v.n = tn at *
        generalize t.v.s = ts at *
        generalize t.c = tc at *
        have hl64 : (pos : Int) < (l.length : Int) := by omega
        go_enter Tryz.func41, Tryz.ntmps41
        go_wp2_with fail
        refine (HV.out _ HO.out).mono ?_
        rintro e w' ⟨rfl, hb2⟩
        go_wp2_with fail
        go_ret2
        exact ⟨hb2, .inr ⟨hN, rfl⟩⟩
      · rw [htb] at hV
        have h0 : 0 ≤ arityI t.op := by unfold termB at htb; simp at htb; exact htb.1
        obtain ⟨ar, har⟩ : ∃ ar : Nat, arityI t.op = ar := ⟨(arityI t.op).toNat, by omega⟩
        have har3 : ar ≤ 3 := by have := arity_cases t.op; omega
        have hA := fun w hO => arity_any t.op w hO
        rw [har] at hA
        have HA := Lib.hid hA
        have HV := Lib.hid hV
        have HO := Lib.hid hO
        have HT := Lib.hid hT
        have Htb := Lib.hid htb
        have Har := Lib.hid har
        have Hdc := Lib.hid hdc
        have Hn := Lib.hid hn
        have IH := Lib.hid ih
        clear hV hA htb hte ht hts hT hO hn ih hdc har h0
        have hl64 : (pos : Int) < (l.length : Int) := by omega
        go_enter Tryz.func41, Tryz.ntmps41
        go_wp2_with fail
        refine (HV.out _ HO.out).mono ?_
        rintro e w' ⟨rfl, hb2⟩
        have c0' := (hb2.cell (p := ⟨b, off + pos * 5, none⟩) (World.block_lt_of_cell? w _ c0)).trans c0
        have Hb2 := Lib.hid hb2
        clear c1 c2 c3 c4 hb2
        go_wp2_with fail
        refine (HA.out _ (HO.out.below Hb2.out)).mono ?_
        rintro e w' ⟨rfl, rfl⟩
        go_wp2_with fail
        go_loopw [4, 5, 28] (fun dv ev iv wr => ∃ (xs : List Ex) (r : List Tm) (k d q : Nat), iv = .int .i64 k ∧ dv = .int .i64 d ∧ ev = .int .i64 q ∧ k ≤ ar ∧ d ≤ 64 ∧ q ≤ l.length ∧ Hid (k = xs.length ∧ d = depths xs ∧ q + r.length = l.length ∧ l.drop (pos + 1) = flats xs ++ r ∧ oks xs) ∧ Hid (Below w.heap.size w wr)) (fun _ _ i _ => ar - (intOf i).toNat)
        case atStart => exact ⟨[], l.drop (pos + 1), 0, 0, pos + 1, rfl, rfl, rfl, by omega, by omega, by omega, ⟨rfl, rfl, by simp; omega, rfl, by simp [oks]⟩, Hb2.out⟩
        case round =>
          obtain ⟨xs, r, k, d, q, rfl, rfl, rfl, hk, hd, hq, hX, hB⟩ := hrel
          by_cases hka : k < ar
          · have h1 : Hid (l.length - q ≤ n ∧ l.drop q = r) := by
              obtain ⟨h1, h2, h3, h4, h5⟩ := hX.out
              obtain ⟨h6, h7⟩ := drop_suffix h4 (by omega)
              have h8 := Hn.out
              exact ⟨by omega, by rw [show q = l.length - r.length by omega]; exact h6.symm⟩
            have hsz := hB.out.size
            go_wp2_with fail
            refine (IH.out q h1.out.1 hq _ (HO.out.below hB.out) (HT.out.later hB.out)).mono ?_
            rintro e w' ⟨hb3, hP⟩
            have hb4 := Lib.hid (hB.out.trans (hb3.mono hsz))
            clear hb3
            rcases hP with ⟨x, r', dx, q', hH, hq', rfl⟩ | ⟨hF, rfl⟩
            · rw [h1.out.2] at hH
              have hlen := head_len hH.out
              have hrl : r.length ≤ 64 ∧ q' ≤ l.length := by have := hX.out.2.2.1; have := hq'.out; omega
              have y1 : ((dx : Int) == 0) = false := by have := hq'.out.1; rw [beq_eq_false_iff_ne]; omega
              have hdx : dx ≤ 64 := by have := hq'.out.1; omega
              clear hlen
              go_wp2_with fail
              refine ⟨⟨xs ++ [x], r', k + 1, max d dx, q', by go_num, ?_, rfl, by omega, by omega, hrl.2, ?_, hb4.out⟩, by simp [intOf]; omega⟩
              · congr 1; split <;> omega
              · obtain ⟨g1, g2, g3, g4, g5⟩ := hX.out
                obtain ⟨g6, g7⟩ := hq'.out
                obtain ⟨g8, g9⟩ := hH.out
                refine ⟨by simp; omega, by rw [depths_app, g2, g6]; simp [depths], g7, by rw [g4, g8, flats_app]; simp [flats], ?_⟩
                intro y hy
                rcases List.mem_append.1 hy with hy | hy
                · exact g5 y hy
                · rw [List.mem_singleton.1 hy]; exact g9
            · have hN : Hid (∀ x r, ¬ Head (l.drop pos) x r) := by
                obtain ⟨g1, g2, g3, g4, g5⟩ := hX.out
                unfold Hid
                rw [Hdc.out]
                rw [h1.out.2] at hF
                exact head_fail Har.out g5 g4 (by omega) hF.out
              go_wp2_with fail
              go_ret2
              exact ⟨hb4.out, .inr ⟨hN, rfl⟩⟩
          · have hka' : k = ar := by omega
            subst hka'
            clear hka
            go_wp2_with fail
            go_ret2
            refine ⟨hB.out, .inl ⟨Ex.node t xs, r, d + 1, q, ?_, ?_, ?_⟩⟩
            · obtain ⟨g1, g2, g3, g4, g5⟩ := hX.out
              unfold Hid
              rw [Hdc.out]
              exact head_node Htb.out (by rw [Har.out, g1]) g5 g4 (by omega)
            · obtain ⟨g1, g2, g3, g4, g5⟩ := hX.out
              exact ⟨by rw [Ex.depth_eq, node_args _ _ (by omega), g2], g3⟩
            · simp
    · have hd : l.drop pos = [] := List.drop_eq_nil_of_le (by omega)
      have hN : Hid (∀ x r, ¬ Head (l.drop pos) x r) := by unfold Hid; rw [hd]; exact head_nil
      have z : decide ((l.length : Int) ≤ (pos : Int)) = true := by simp; omega
      clear hd hO hT ih
      go_enter Tryz.func41, Tryz.ntmps41
      go_wp2_with fail
      go_ret2
      exact ⟨Below.refl _ _, .inr ⟨hN, rfl⟩⟩
theorem measP_head {l : List Tm} {w w' : World} {e : Ending} (h : MeasP l 0 w e w') : Below w.heap.size w w' ∧ ∃ d q : Nat, e = .returned (.tuple #[.int .i64 (d : Nat), .int .i64 (q : Nat)]) ∧ (l.length ≤ 64 → validL l = (decide (0 < d) && decide (d ≤ 16) && decide (q = l.length))) := by
  obtain ⟨hb, h⟩ := h
  refine ⟨hb, ?_⟩
  rcases h with ⟨x, r, d, q, hH, hq, rfl⟩ | ⟨hF, rfl⟩
  · refine ⟨d, q, rfl, fun hl => ?_⟩
    obtain ⟨rfl, hq2⟩ := hq.out
    have hH2 := hH.out
    rw [List.drop_zero] at hH2
    have hp := (head_len hH2).2.1
    rw [Bool.eq_iff_iff]
    simp only [Bool.and_eq_true, decide_eq_true_eq]
    rw [validL_iff]
    constructor
    · rintro ⟨y, hy, hd, _⟩
      obtain ⟨rfl, rfl⟩ := hH2.uniq hy
      exact ⟨⟨hp, hd⟩, by simpa using hq2⟩
    · rintro ⟨⟨_, hd⟩, hq3⟩
      have hr : r = [] := List.eq_nil_of_length_eq_zero (by omega)
      rw [hr] at hH2
      exact ⟨x, hH2, hd, hl⟩
  · refine ⟨0, 0, rfl, fun hl => ?_⟩
    have hF2 := hF.out
    rw [List.drop_zero] at hF2
    cases hv : validL l
    · simp
    · obtain ⟨x, hx, _⟩ := validL_iff.1 hv
      exact absurd hx (hF2 _ _)
theorem validL_long {l : List Tm} (h : 64 < l.length) : validL l = false := by
  cases hv : validL l
  · rfl
  · obtain ⟨_, _, _, h2⟩ := validL_iff.1 hv; omega
theorem exValid_any (ao : Option Addr) (cap : Nat) (l : List Tm) (hl : l.length ≤ maxLen) (hok : ∀ t ∈ l, t.okT) (w : World) (hO : Ops w) (hT : TmsAt w w.heap.size ao l) :
    Calls Tryz.prog 17 #[.slice ao l.length cap] w (Gives (.bool (validL l)) w) := by
  unfold maxLen at hl
  by_cases h64 : l.length ≤ 64
  · have hM := Lib.hid (measure_any ao cap l h64 hok l.length 0 (by omega) (by omega) w hO hT)
    have Hl := Lib.hid h64
    clear hO hT
    go_enter Tryz.func17, Tryz.ntmps17
    go_wp2_with fail
    refine hM.out.mono ?_
    intro e w' hP
    obtain ⟨hb, d, q, rfl, hv⟩ := measP_head hP
    have Hv := Lib.hid (hv h64)
    clear hP hv hM
    by_cases h1 : 0 < d
    · by_cases h2 : d ≤ 16
      · have z1 : decide ((d : Int) ≤ 16) = true := by simp; omega
        go_wp2_with fail
        go_ret
        exact ⟨ret_b (by rw [Hv.out, Bool.eq_iff_iff]; simp [h1, h2]; omega), hb⟩
      · have z1 : decide ((d : Int) ≤ 16) = false := by simp; omega
        go_wp2_with fail
        go_ret
        exact ⟨ret_b (by rw [Hv.out]; simp [h2]), hb⟩
    · have z1 : decide ((0 : Int) < (d : Int)) = false := by simp; omega
      go_wp2_with fail
      go_ret
      exact ⟨ret_b (by rw [Hv.out]; simp [h1]), hb⟩
  · rw [validL_long (by omega)]
    clear hO hT
    go_enter Tryz.func17, Tryz.ntmps17
    go_wp2_with fail
    go_ret
    exact ⟨rfl, Below.refl _ _⟩
end Go.Proofs.YtmikeifkmjhioaaGreatDoor
