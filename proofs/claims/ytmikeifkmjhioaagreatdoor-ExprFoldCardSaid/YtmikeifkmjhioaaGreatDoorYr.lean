/- The tape's leaf, Expr and SpoilExpr. -/
import Derived.Test.YtmikeifkmjhioaaGreatDoorYq
namespace Go.Proofs.YtmikeifkmjhioaaGreatDoor
open Go.RowKit Go.Proofs.EB
set_option maxHeartbeats 4000000
set_option maxRecDepth 100000
attribute [local go_sem] World.cell?_alloc_some

/-- How many terms an expression of the tape has at most. -/
def tsz : Nat → Nat
  | 0 => 1
  | d + 1 => 1 + 3 * tsz d
def ColsB (n : Nat) (l : List Tm) : Prop := ∀ t ∈ l, t.op = 2 → 0 ≤ t.c ∧ t.c < n
/-- A call of the tape that gives an expression. -/
def ExprPost (w : World) (B g d n : Nat) (e : Ending) (w' : World) : Prop :=
  ∃ (ao : Option Addr) (cap : Nat) (l : List Tm) (x : Ex), Hid (l = x.flat ∧ x.ok ∧ x.depth ≤ d + 1 ∧ l.length ≤ tsz d ∧ (∀ t ∈ l, t.okT) ∧ ColsB n l) ∧ e = .returned (.slice ao l.length cap) ∧ TmsAt w' w'.heap.size ao l ∧ (ao = none → cap = 0) ∧ (∀ b o, ao = some ⟨b, o, none⟩ → w.heap.size ≤ b ∧ b < w'.heap.size) ∧ l.length ≤ cap ∧ Took w B g w'
theorem constTm_ok {k n : Int} {s : ByteArray} (h : vB ⟨k, n, s⟩ = true) (hk : k ≠ 0) : termB ⟨1, ⟨k, n, s⟩, 0⟩ = true := by
  rw [termB_const]
  have h1 : validB k n s = true := h
  rw [h1]; simp [hk]
theorem leaf_any (B g d n : Nat) (hn : 1 ≤ n) (hn2 : n ≤ 1000) (w : World) (hT : TapeAt w B g) (hB : B ≤ w.heap.size) :
    Calls Tryz.prog 21 #[.pointer (some ⟨g, 0, none⟩), .int .i64 n] w (ExprPost w B g d n) := by
  have tpos : 1 ≤ tsz d := by cases d <;> simp [tsz]
  have Hp := Lib.hid tpos
  have HT := Lib.hid hT
  clear hT tpos
  go_enter Tryz.func21, Tryz.ntmps21
  go_wp2_with fail
  refine (next_any B g 3 w (by decide) (by decide) HT.out hB).mono ?_
  rintro e w1 ⟨r, rfl, hr0, hr1, hK⟩
  have HK := Lib.hid hK
  clear hr1 hK
  by_cases h0 : 0 < r
  · go_wp2_with fail
    refine (next_any B g n w1 (by omega) (by omega) HK.out.1 HK.out.2.2).mono ?_
    rintro e w2 ⟨c, rfl, hc0, hc1, hK2⟩
    have HK2 := Lib.hid (HK.out.trans hK2)
    have Hc := Lib.hid (show 0 ≤ c ∧ c < n by omega)
    clear hK2 hc0 hc1 hr0 h0
    go_wp2_with fail
    go_ret
    refine ⟨some ⟨w2.heap.size, 0, none⟩, 1, [colTm c], .x0 (colTm c), ⟨rfl, ⟨colTm_ok Hc.out.1, rfl⟩, by simp [Ex.depth], by simpa using Hp.out, ?_, ?_⟩, rfl, rAt_block encTm_len (heap_alloc_new _ _) rfl, by simp, ?_, by simp, HK2.out.below (al1 _ _)⟩
    · intro t ht
      rw [List.mem_singleton.1 ht]
      have := Hc.out
      exact ⟨⟨by show (_ : Int) ≤ 2; decide, by show (2 : Int) ≤ _; decide⟩, nil_ok, ⟨by show _ ≤ c; omega, by show c ≤ _; omega⟩⟩
    · intro t ht _
      rw [List.mem_singleton.1 ht]
      exact Hc.out
    · intro b o h
      simp at h
      have := HK2.out.2.1.size
      simp only [World.size_alloc]
      omega
  · have hr : r = 0 := by omega
    subst hr
    clear h0 hr0
    go_wp2_with fail
    refine (next_any B g 2 w1 (by decide) (by decide) HK.out.1 HK.out.2.2).mono ?_
    rintro e w2 ⟨r, rfl, hr0, hr1, hK2⟩
    have HK2 := Lib.hid (HK.out.trans hK2)
    have hrr : r = 0 ∨ r = 1 := by omega
    clear hK2 hr0 hr1 HK
    have fin : ∀ (kd : Int), kd = 1 ∨ kd = 2 → ∀ (k m : Int) (s : ByteArray) (w3 : World), vB ⟨k, m, s⟩ = true → (⟨k, m, s⟩ : V).ok → Hid (k = kd) → Took w B g w3 →
        ExprPost w B g d n (.returned (.slice (some ⟨w3.heap.size, 0, none⟩) 1 1)) (w3.alloc (.cells #[.int .i64 1, .int .i64 k, .int .i64 m, .string s, .int .i64 0] 48)) := by
      intro kd hkd k m s w3 hv hok hk hK3
      refine ⟨some ⟨w3.heap.size, 0, none⟩, 1, [⟨1, ⟨k, m, s⟩, 0⟩], .x0 ⟨1, ⟨k, m, s⟩, 0⟩, ⟨rfl, ⟨constTm_ok hv (by have := hk.out; omega), rfl⟩, by simp [Ex.depth], by simpa using Hp.out, ?_, ?_⟩, rfl, rAt_block encTm_len (heap_alloc_new _ _) rfl, by simp, ?_, by simp, hK3.below (al1 _ _)⟩
      · intro t ht
        rw [List.mem_singleton.1 ht]
        exact ⟨⟨by show (_ : Int) ≤ 1; decide, by show (1 : Int) ≤ _; decide⟩, hok, ⟨by show (_ : Int) ≤ 0; decide, by show (0 : Int) ≤ _; decide⟩⟩
      · intro t ht h2
        rw [List.mem_singleton.1 ht] at h2
        simp at h2
      · intro b o h
        simp at h
        have := hK3.2.1.size
        simp only [World.size_alloc]
        omega
    have Fin := Lib.hid fin
    clear fin
    rcases hrr with rfl | rfl
    · go_wp2_with fail
      refine (text_anyK B g _ HK2.out.1 HK2.out.2.2).mono ?_
      rintro e w3 ⟨k, m, s, rfl, hv, hok, hk, hK3⟩
      have HK3 := Lib.hid (HK2.out.trans hK3)
      have Hv := Lib.hid hv
      have Hok := Lib.hid hok
      clear hK3 hv hok
      go_wp2_with fail
      go_ret
      exact Fin.out 2 (.inr rfl) k m s w3 Hv.out Hok.out hk HK3.out
    · go_wp2_with fail
      refine (int_anyK B g _ HK2.out.1 HK2.out.2.2).mono ?_
      rintro e w3 ⟨k, m, s, rfl, hv, hok, hk, hK3⟩
      have HK3 := Lib.hid (HK2.out.trans hK3)
      have Hv := Lib.hid hv
      have Hok := Lib.hid hok
      clear hK3 hv hok
      go_wp2_with fail
      go_ret
      exact Fin.out 1 (.inl rfl) k m s w3 Hv.out Hok.out hk HK3.out
theorem own_away {g B : Nat} {w wr w2 : World} {v : Value} {l : List Tm} (h : OwnsTm wr w.heap.size v l) (ha : Away (some g) wr w2) (hg : g < B) (hB : B ≤ w.heap.size) : OwnsTm w2 w.heap.size v l :=
  OwnsR.away h ha (by
    cases hv : v.ownBlock with
    | none => exact .inl rfl
    | some b => right; have := (OwnsR.lt h b hv).1; simp; omega)
theorem tsz_pos (d : Nat) : 1 ≤ tsz d := by cases d <;> simp [tsz]
theorem tape_lt {w : World} {B g : Nat} (h : TapeAt w B g) : g < B := by obtain ⟨_, _, _, _, _, _, _, hg, _⟩ := h; exact hg
theorem expr_any (B g n : Nat) (hn : 1 ≤ n) (hn2 : n ≤ 1000) : ∀ (d : Nat), d ≤ 5 → ∀ z : Int, Hid (z = (d : Int) + 1) → ∀ w : World, TapeAt w B g → B ≤ w.heap.size →
    Calls Tryz.prog 7 #[.pointer (some ⟨g, 0, none⟩), .int .i64 z, .int .i64 n] w (ExprPost w B g d n) := by
  intro d
  induction d with
  | zero =>
    intro _ z hz w hT hB
    have z1 : z ≤ 1 := by have := hz.out; omega
    have HL := Lib.hid (leaf_any B g 0 n hn hn2 w hT hB)
    clear hT
    go_enter Tryz.func7, Tryz.ntmps7
    go_wp2_with fail
    refine HL.out.mono ?_
    rintro e w1 ⟨ao, cap, l, x, hx, rfl, h1, h2, h3, h4, h5⟩
    go_wp2_with fail
    go_ret
    exact ⟨ao, cap, l, x, hx, rfl, h1, h2, h3, h4, h5⟩
  | succ d ih =>
    intro hd z hz w hT hB
    have z1 : 1 < z := by have := hz.out; omega
    have z2 : z ≤ 7 := by have := hz.out; omega
    have IH := Lib.hid (ih (by omega))
    have HT := Lib.hid hT
    have hgB := tape_lt hT
    clear hT ih
    go_enter Tryz.func7, Tryz.ntmps7
    go_wp2_with fail
    refine (next_any B g 4 w (by decide) (by decide) HT.out hB).mono ?_
    rintro e w1 ⟨r, rfl, hr0, hr1, hK⟩
    have HK := Lib.hid hK
    clear hr1 hK
    by_cases h0 : r = 0
    · subst h0
      clear hr0
      go_wp2_with fail
      refine (leaf_any B g (d + 1) n hn hn2 w1 HK.out.1 HK.out.2.2).mono ?_
      rintro e w2 ⟨ao, cap, l, x, hx, rfl, h1, h2, h3, h4, h5⟩
      go_wp2_with fail
      go_ret
      exact ⟨ao, cap, l, x, hx, rfl, h1, h2, fun b o h => by have := h3 b o h; have := HK.out.2.1.size; omega, h4, HK.out.trans h5⟩
    · have y0 : (r == 0) = false := by simpa using h0
      go_wp2_with fail
      refine (next_any B g 16 w1 (by decide) (by decide) HK.out.1 HK.out.2.2).mono ?_
      rintro e w2 ⟨r2, rfl, hr2, hr3, hK⟩
      replace HK := Lib.hid (HK.out.trans hK)
      have hr4 : r2 < 16 := by omega
      clear hr3 hK h0 y0 hr0
      go_wp2_with fail
      refine (rarity_any _ _).mono ?_
      rintro e w3 ⟨rfl, rfl⟩
      obtain ⟨o, ho⟩ : ∃ o, o = 3 + r2 := ⟨_, rfl⟩
      rw [← ho]
      have ho1 : 3 ≤ o := by omega
      have ho2 : o ≤ 18 := by omega
      have hA0 : 0 ≤ arityI o := by unfold arityI; repeat' split <;> omega
      obtain ⟨ar, har⟩ : ∃ ar : Nat, arityI o = ar := ⟨(arityI o).toNat, by omega⟩
      have har3 : ar ≤ 3 := by have := arity_cases o; omega
      have har1 : 1 ≤ ar := by
        rcases Nat.eq_zero_or_pos ar with h | h
        · rcases arity0 (op := o) (by omega) with h | h <;> omega
        · exact h
      rw [har]
      have Har := Lib.hid har
      have hown1 : OwnsTm (w2.alloc (.cells #[.int .i64 o, .int .i64 0, .int .i64 0, .string ⟨#[]⟩, .int .i64 0] 48)) w.heap.size (.slice (some ⟨w2.heap.size, 0, none⟩) 1 1) [opTm o] := ownsR_new encTm_len (heap_alloc_new _ _) HK.out.2.1.size rfl (by simp [maxLen])
      have HK4 := Lib.hid (HK.out.below (al1 w2 (.cells #[.int .i64 o, .int .i64 0, .int .i64 0, .string ⟨#[]⟩, .int .i64 0] 48)))
      have hs4 := HK4.out.2.1.size
      have Hown1 := Lib.hid hown1
      clear har hA0 hr2 hr4 ho hown1
      go_wp2_with fail
      generalize (w2.alloc (.cells #[.int .i64 o, .int .i64 0, .int .i64 0, .string ⟨#[]⟩, .int .i64 0] 48)) = w4 at *
      clear HK HT
      go_loopw [8, 9] (fun v i wr => ∃ (k : Nat) (l : List Tm) (ad : Option Addr) (cp : Nat) (xs : List Ex), i = .int .i64 k ∧ v = .slice ad l.length cp ∧ k ≤ 3 ∧ Hid (l = opTm o :: flats xs ∧ oks xs ∧ depths xs ≤ d + 1 ∧ xs.length + k = ar ∧ (flats xs).length ≤ xs.length * tsz d ∧ (∀ t ∈ l, t.okT) ∧ ColsB n l) ∧ Hid (OwnsTm wr w.heap.size (.slice ad l.length cp) l) ∧ Hid (Took w B g wr) ∧ w.heap.size ≤ wr.heap.size) (fun _ i _ => (intOf i).toNat)
      case atStart =>
        refine ⟨ar, [opTm o], some ⟨w2.heap.size, 0, none⟩, 1, [], rfl, rfl, har3, ⟨rfl, by simp [oks], by simp [depths], by simp, by simp [flats], ?_, ?_⟩, Hown1.out, HK4.out, hs4⟩
        · intro t ht
          rw [List.mem_singleton.1 ht]
          exact ⟨⟨by show _ ≤ o; omega, by show o ≤ _; omega⟩, nil_ok, ⟨by show (_ : Int) ≤ 0; decide, by show (0 : Int) ≤ _; decide⟩⟩
        · intro t ht h2
          rw [List.mem_singleton.1 ht] at h2
          have : o = 2 := h2
          omega
      case round =>
        obtain ⟨k, l, ad, cp, xs, rfl, rfl, hk, hX, hown, hTk, hsz⟩ := hrel
        have htz := Lib.hid (show tsz d ≤ 400 by
          have : ∀ d : Nat, d ≤ 5 → tsz d ≤ 400 := fun d hd => by
            have : ∀ j : Fin 6, tsz j.1 ≤ 400 := by decide
            exact this ⟨d, by omega⟩
          exact this d (by omega))
        by_cases hk0 : 0 < k
        · have hz1 : Hid (z - 1 = (d : Int) + 1) := by have := hz.out; unfold Hid; omega
          go_wp2_with fail
          refine (IH.out _ hz1 wr hTk.out.1 hTk.out.2.2).mono ?_
          rintro e w5 ⟨ao2, cap2, l2, x2, hx2, rfl, hT2, hnil2, _, _, hK2⟩
          have hown2 := own_away hown.out hK2.2.1 hgB hB
          have HK2 := Lib.hid (hTk.out.trans hK2)
          have hs5 : w.heap.size ≤ w5.heap.size := HK2.out.2.1.size
          have hl1 : l.length ≤ 1600 := by
            obtain ⟨e1, _, _, e4, e5, _⟩ := hX.out
            rw [e1]
            have h7 := htz.out
            have h8 : xs.length * tsz d ≤ 3 * tsz d := Nat.mul_le_mul_right _ (by omega)
            simp; omega
          have hl2 : l2.length ≤ 400 := by have := hx2.out.2.2.2.1; have := htz.out; omega
          clear hK2 hown hTk
          go_wp2_with (at_builtin; refine wpList_copyR (enc := encTm) (m := 5) Tryz.underlying23 infoTm rfl (by decide) encTm_len encTm_one w5 rfl (.tmp 32) (.tmp 37) rfl w.heap.size _ l rfl hown2 w5.heap.size ao2 cap2 l2 rfl hT2 hnil2 ?_ ?_ hs5 ?_)
          · omega
          · unfold maxLen; omega
          intro l3 v3 w6 hl3 hown3 haw3 hb3 _ _
          obtain ⟨ao3, cap3, rfl, _, _, _, _, _⟩ := OwnsR.rAt encTm_len hown3
          have HK3 := HK2.out.fresh haw3 (fun b hb => by have := (OwnsR.lt hown2 b hb).1; omega)
          obtain ⟨e1, e2, e3, e4, e5, e6, e7⟩ := hX.out
          obtain ⟨f1, f2, f3, f4, f5, f6⟩ := hx2.out
          go_wp2_with fail
          refine ⟨⟨k - 1, l3, ao3, cap3, xs ++ [x2], by rw [show ((k - 1 : Nat) : Int) = (k : Int) - 1 by omega] <;> rfl, rfl, by omega, ⟨?_, ?_, ?_, ?_, ?_, ?_, ?_⟩, hown3, HK3, HK3.2.1.size⟩, by show ((k : Int) - 1).toNat < ((k : Int)).toNat; omega⟩
          · rw [hl3.out, e1, f1, flats_app]; simp [flats]
          · intro y hy
            rcases List.mem_append.1 hy with hy | hy
            · exact e2 y hy
            · rw [List.mem_singleton.1 hy]; exact f2
          · rw [depths_app]; simp [depths]; omega
          · simp; omega
          · rw [flats_app, List.length_append, List.length_append, Nat.add_mul]
            simp only [flats, List.append_nil, List.length_cons, List.length_nil]
            rw [← f1]; omega
          · intro t ht
            rw [hl3.out] at ht
            rcases List.mem_append.1 ht with ht | ht
            · exact e6 t ht
            · exact f5 t ht
          · intro t ht
            rw [hl3.out] at ht
            rcases List.mem_append.1 ht with ht | ht
            · exact e7 t ht
            · exact f6 t ht
        · have hk1 : k = 0 := by omega
          subst hk1
          clear hk0
          go_wp2_with fail
          go_ret
          obtain ⟨e1, e2, e3, e4, e5, e6, e7⟩ := hX.out
          obtain ⟨ao, cap, heq, hr, hlo, hnil, hle, _⟩ := OwnsR.rAt encTm_len hown.out
          simp only [Value.slice.injEq, true_and] at heq
          obtain ⟨rfl, rfl⟩ := heq
          have h3 : xs.length ≤ 3 := by omega
          refine ⟨ad, cp, l, Ex.node (opTm o) xs, ⟨?_, ?_, ?_, ?_, e6, e7⟩, rfl, hr, hnil, hlo, hle, hTk.out⟩
          · rw [Ex.flat_eq, node_head, node_args _ _ h3, e1]
          · rw [Ex.ok_iff, node_head, node_args _ _ h3]
            exact ⟨opTm_ok ho1 ho2, by show arityI o = _; rw [Har.out]; omega, e2⟩
          · rw [Ex.depth_eq, node_args _ _ h3]; omega
          · rw [e1]
            have h8 : xs.length * tsz d ≤ 3 * tsz d := Nat.mul_le_mul_right _ h3
            simp only [List.length_cons, tsz]; omega
end Go.Proofs.YtmikeifkmjhioaaGreatDoor
