/- Typed, TypedRow and TypedExpr of the tape. -/
import Derived.Test.YtmikeifkmjhioaaDoorYs
import Derived.Test.YtmikeifkmjhioaaDoorZn
import Derived.Deep.CutBlock
namespace Go.Proofs.YtmikeifkmjhioaaDoor
open Go.RowKit Go.Proofs.EB
set_option maxHeartbeats 8000000
set_option maxRecDepth 100000
attribute [local go_sem] World.cell?_alloc_some
theorem took_row {α : Type} {enc : α → List Value} {m : Nat} {w1 w2 : World} {B g : Nat} {ao : Option Addr} {l : List α} (hT : RAt enc m w1 w1.heap.size ao l) (hlo : ∀ b o, ao = some ⟨b, o, none⟩ → B ≤ b) (hK : Took w1 B g w2) (hgB : g < B) : RAt enc m w2 w2.heap.size ao l :=
  (hT.away hK.2.1 (Nat.le_refl _) (fun b o h => by have := hlo b o h; simp; omega)).mono hK.2.1.size
/-- A value of a type, or null. -/
def TypedPost (kd : Int) (w : World) (B g : Nat) (e : Ending) (w' : World) : Prop := ∃ k n s, e = .returned (.agg #[.int .i64 k, .int .i64 n, .string s]) ∧ Hid (HasT ⟨k, n, s⟩ kd ∧ (⟨k, n, s⟩ : V).ok) ∧ Took w B g w'
theorem typed_any (B g : Nat) (kd : Int) (hkd : kd = 1 ∨ kd = 2) (w : World) (h : TapeAt w B g) (hB : B ≤ w.heap.size) :
    Calls Tryd.prog 61 #[.pointer (some ⟨g, 0, none⟩), .int .i64 kd] w (TypedPost kd w B g) := by
  have hgB : g < B := by obtain ⟨_, _, _, _, _, _, _, hg, _⟩ := h; exact hg
  have HK0 := Lib.hid (value_start w B g h hB)
  have n0 := Lib.hid (heap_alloc_new w (.cells #[.int .i64 0, .int .i64 0, .string ⟨#[]⟩] 34))
  clear h
  rcases hkd with rfl | rfl
  all_goals
    go_enter Tryd.func61, Tryd.ntmps61
    go_wp2_with fail
    refine (next_any B g 6 _ (by decide) (by decide) HK0.out.1 HK0.out.2.2).mono ?_
    rintro e w1 ⟨r, rfl, hr0, hr1, hK⟩
    have HK := Lib.hid (HK0.out.trans hK)
    have n1 := Lib.hid ((hK.2.1.block w.heap.size (by simp) (by simp; omega)).trans n0.out)
    clear hr1 hK
    by_cases h0 : r = 0
    · subst h0
      obtain ⟨e0, e1, e2, f0, f1, f2⟩ := box3 n1.out
      clear hr0
      go_wp2_with fail
      refine bodyPost_ret (by simp [results, Tryd.results61, go_sem, e0, e1, e2]; rfl) rfl ?_
      exact ⟨0, 0, ⟨#[]⟩, rfl, ⟨⟨zero_valid, .inl rfl⟩, nil_ok⟩, ((HK.out.setCell (p := ⟨w.heap.size, _, none⟩) hB (Nat.le_refl _) _).setCell (p := ⟨w.heap.size, _, none⟩) hB (Nat.le_refl _) _).setCell (p := ⟨w.heap.size, _, none⟩) hB (Nat.le_refl _) _⟩
    · have y0 : (r == 0) = false := by simpa using h0
      clear h0
      go_wp2_with fail
      first
        | refine (int_anyK B g _ HK.out.1 HK.out.2.2).mono ?_
        | refine (text_anyK B g _ HK.out.1 HK.out.2.2).mono ?_
      rintro e w2 ⟨k, m, s, rfl, hv, hok, hk, hK⟩
      replace HK := Lib.hid (HK.out.trans hK)
      obtain ⟨e0, e1, e2, f0, f1, f2⟩ := box3 ((hK.2.1.block w.heap.size (Array.getElem?_eq_some_iff.1 n1.out).1 (by simp; omega)).trans n1.out)
      have Hv := Lib.hid (show HasT ⟨k, m, s⟩ _ ∧ (⟨k, m, s⟩ : V).ok from ⟨⟨hv, .inr hk.out⟩, hok⟩)
      clear hK hv hok
      go_wp2_with fail
      refine bodyPost_ret (by simp [results, Tryd.results61, go_sem, e0, e1, e2]; rfl) rfl ?_
      exact ⟨k, m, s, rfl, Hv.out, ((HK.out.setCell (p := ⟨w.heap.size, _, none⟩) hB (Nat.le_refl _) _).setCell (p := ⟨w.heap.size, _, none⟩) hB (Nat.le_refl _) _).setCell (p := ⟨w.heap.size, _, none⟩) hB (Nat.le_refl _) _⟩
/-- A row of values of the types. -/
def TRowPost (types : List Int) (w : World) (B g : Nat) (e : Ending) (w' : World) : Prop := ∃ ao cap l, e = .returned (.slice ao l.length cap) ∧ Hid (l.length = types.length ∧ (∀ i (h : i < l.length) (h' : i < types.length), HasT l[i] types[i]) ∧ ∀ v ∈ l, v.ok) ∧ RAt encVal 3 w' w'.heap.size ao l ∧ Took w B g w'
theorem typedRow_any (B g : Nat) (to_ : Option Addr) (tcap : Nat) (types : List Int) (hTy : ∀ k ∈ types, k = 1 ∨ k = 2) (htl : types.length ≤ 1000) (hlo : ∀ b o, to_ = some ⟨b, o, none⟩ → B ≤ b) (w : World) (h : TapeAt w B g) (hB : B ≤ w.heap.size) (hR : RAt encInt 1 w w.heap.size to_ types) :
    Calls Tryd.prog 33 #[.pointer (some ⟨g, 0, none⟩), .slice to_ types.length tcap] w (TRowPost types w B g) := by
  have hgB : g < B := by obtain ⟨_, _, _, _, _, _, _, hg, _⟩ := h; exact hg
  have HT := Lib.hid h
  have HR := Lib.hid hR
  have HTy := Lib.hid hTy
  have HLo := Lib.hid hlo
  clear h hR hTy hlo
  go_enter Tryd.func33, Tryd.ntmps33
  go_wp2_with fail
  go_loopw [5, 6] (fun v i wr => ∃ (k : Nat) (l : List V) (ad : Option Addr) (cp : Nat), i = .int .i64 k ∧ v = .slice ad l.length cp ∧ k ≤ types.length ∧ l.length ≤ 1000 ∧ Hid (l.length = k ∧ (∀ i (h : i < l.length) (h' : i < types.length), HasT l[i] types[i]) ∧ ∀ v ∈ l, v.ok) ∧ Hid (OwnsR encVal 3 wr w.heap.size 34 (.slice ad l.length cp) l) ∧ Hid (Took w B g wr)) (fun _ i _ => types.length - (intOf i).toNat)
  case atStart => exact ⟨0, [], none, 0, rfl, rfl, by omega, by simp, ⟨rfl, by simp, by simp⟩, OwnsR.nil, tookBelow HT.out hB (Below.refl _ _)⟩
  case round =>
    obtain ⟨k, l, ad, cp, rfl, rfl, hk, hll, hX, hown, hK⟩ := hrel
    by_cases hlt : k < types.length
    · have hlt2 : k + 1 ≤ types.length := hlt
      obtain ⟨b, off, rfl, _⟩ := HR.out.form (by omega)
      have c0 := RAt.cell (took_row HR.out HLo.out hK.out hgB) hlt (j := 0) (u := .int .i64 types[k]) rfl
      simp only [Nat.mul_one, Nat.add_zero] at c0
      have hty := HTy.out _ (List.getElem_mem hlt)
      have Hj := Lib.hid (show ∀ j (h : j < types.length), j = k → types[j] = types[k] from fun j h e => by subst e; rfl)
      have hC := typed_any B g types[k] hty wr hK.out.1 hK.out.2.2
      have HC := Lib.hid hC
      clear hC hty
      generalize types[k] = ty at *
      go_wp2_with fail
      refine HC.out.mono ?_
      rintro e w2 ⟨k1, n1, s1, rfl, hv, hK2⟩
      have hown2 := OwnsR.away hown.out hK2.2.1 (by
        cases hvb : (Value.slice ad l.length cp).ownBlock with
        | none => exact .inl rfl
        | some b => right; have := (OwnsR.lt hown.out b hvb).1; simp; omega)
      have HK2 := Lib.hid (hK.out.trans hK2)
      have hs2 : w.heap.size ≤ w2.heap.size := HK2.out.2.1.size
      clear hK2 hown
      go_wp2_with (at_builtin; refine wpList_appR (enc := encVal) (m := 3) Tryd.underlying43 infoV rfl (by decide) encVal_len encVal_one _ w2 rfl (.tmp 13) (.tmp 20) rfl w.heap.size _ l rfl hown2 [⟨k1, n1, s1⟩] 1 1 #[.int .i64 k1, .int .i64 n1, .string s1] rfl rfl rfl rfl rfl rfl rfl (by decide) (by omega) (by unfold maxLen; omega) hs2 ?_; intro l3 g3 cap3 w3 hl3 hown3 haw3 hb3 hat3 hlt3)
      refine ⟨⟨k + 1, l3, _, _, by go_num, rfl, hlt2, by rw [hl3.out]; have := hX.out.1; simp; omega, ⟨?_, ?_, ?_⟩, hown3, HK2.out.fresh haw3 (fun b hb => by have := (OwnsR.lt hown2 b hb).1; omega)⟩, by simp [intOf]; omega⟩
      · rw [hl3.out]; have := hX.out.1; simp; omega
      · intro i hi hi'
        have h0 := hX.out.1
        by_cases hik : i < l.length
        · have e1 : l3[i] = l[i] := by simp [hl3.out, List.getElem_append_left hik]
          rw [e1]; exact hX.out.2.1 i hik hi'
        · have hik2 : i = l.length := by have h5 : l3.length = l.length + 1 := by rw [hl3.out]; simp
                                         omega
          have e1 : l3[i] = ⟨k1, n1, s1⟩ := by
            have : l3[i]? = some ⟨k1, n1, s1⟩ := by rw [hl3.out, hik2]; simp
            rw [List.getElem?_eq_getElem hi] at this
            simpa using this
          rw [e1, Hj.out i hi' (by omega)]
          exact hv.out.1
      · intro v hv'
        rw [hl3.out] at hv'
        rcases List.mem_append.1 hv' with hv' | hv'
        · exact hX.out.2.2 v hv'
        · rw [List.mem_singleton.1 hv']; exact hv.out.2
    · have hke : k = types.length := by omega
      obtain ⟨aoV, capV, heq, hrV, _, _, _, _⟩ := OwnsR.rAt encVal_len hown.out
      simp only [Value.slice.injEq, true_and] at heq
      obtain ⟨rfl, rfl⟩ := heq
      have Hfin := Lib.hid (show TRowPost types w B g (.returned (.slice ad l.length cp)) wr from ⟨ad, cp, l, rfl, ⟨by have := hX.out.1; omega, hX.out.2⟩, hrV, hK.out⟩)
      clear hrV hown hlt
      subst hke
      go_wp2_with fail
      go_ret
      exact Hfin.out
/-- A call of the tape that gives an expression of a type. -/
def TyPost (types : List Int) (want : Int) (w : World) (B g d : Nat) (e : Ending) (w' : World) : Prop :=
  ∃ (ao : Option Addr) (cap : Nat) (l : List Tm) (x : Ex), Hid (l = x.flat ∧ x.ok ∧ x.depth ≤ d + 1 ∧ l.length ≤ tsz d ∧ (∀ t ∈ l, t.okT) ∧ x.fold (tyT types) = (want, 0)) ∧ e = .returned (.slice ao l.length cap) ∧ TmsAt w' w'.heap.size ao l ∧ (ao = none → cap = 0) ∧ (∀ b o, ao = some ⟨b, o, none⟩ → w.heap.size ≤ b ∧ b < w'.heap.size) ∧ l.length ≤ cap ∧ Took w B g w'
theorem tyPost_leaf (types : List Int) (want : Int) (w : World) (B g d : Nat) : ∀ (t : Tm) (w3 : World), (termB t = true ∧ arityI t.op = 0) → t.okT → tyT types t [] = (want, 0) → Took w B g w3 →
    TyPost types want w B g d (.returned (.slice (some ⟨w3.heap.size, 0, none⟩) 1 1)) (w3.alloc (.cells #[.int .i64 t.op, .int .i64 t.v.k, .int .i64 t.v.n, .string t.v.s, .int .i64 t.c] 36)) := by
  intro t w3 ht hok hty hK
  refine ⟨some ⟨w3.heap.size, 0, none⟩, 1, [t], .x0 t, ⟨rfl, ht, by simp [Ex.depth], by simpa using tsz_pos d, ?_, hty⟩, rfl, rAt_block encTm_len (heap_alloc_new _ _) rfl, by simp, ?_, by simp, hK.below (al1 _ _)⟩
  · intro t' ht'
    rw [List.mem_singleton.1 ht']; exact hok
  · intro b o h
    simp at h
    have := hK.2.1.size
    simp only [World.size_alloc]
    omega
theorem list4 : ∀ (r : Nat) (h : r < ([17, 18, 8, 10] : List Int).length), ([17, 18, 8, 10] : List Int)[r] = 17 ∨ ([17, 18, 8, 10] : List Int)[r] = 18 ∨ ([17, 18, 8, 10] : List Int)[r] = 8 ∨ ([17, 18, 8, 10] : List Int)[r] = 10
  | 0, _ => .inl rfl
  | 1, _ => .inr (.inl rfl)
  | 2, _ => .inr (.inr (.inl rfl))
  | 3, _ => .inr (.inr (.inr rfl))
  | r + 4, h => absurd h (by simp)
theorem list14 : ∀ (r : Nat) (h : r < ([3, 4, 5, 6, 7, 9, 11, 12, 13, 14, 15, 16, 17, 18] : List Int).length), ([3, 4, 5, 6, 7, 9, 11, 12, 13, 14, 15, 16, 17, 18] : List Int)[r] = 3 ∨ ([3, 4, 5, 6, 7, 9, 11, 12, 13, 14, 15, 16, 17, 18] : List Int)[r] = 4 ∨ ([3, 4, 5, 6, 7, 9, 11, 12, 13, 14, 15, 16, 17, 18] : List Int)[r] = 5 ∨ ([3, 4, 5, 6, 7, 9, 11, 12, 13, 14, 15, 16, 17, 18] : List Int)[r] = 6 ∨ ([3, 4, 5, 6, 7, 9, 11, 12, 13, 14, 15, 16, 17, 18] : List Int)[r] = 7 ∨ ([3, 4, 5, 6, 7, 9, 11, 12, 13, 14, 15, 16, 17, 18] : List Int)[r] = 9 ∨ ([3, 4, 5, 6, 7, 9, 11, 12, 13, 14, 15, 16, 17, 18] : List Int)[r] = 11 ∨ ([3, 4, 5, 6, 7, 9, 11, 12, 13, 14, 15, 16, 17, 18] : List Int)[r] = 12 ∨ ([3, 4, 5, 6, 7, 9, 11, 12, 13, 14, 15, 16, 17, 18] : List Int)[r] = 13 ∨ ([3, 4, 5, 6, 7, 9, 11, 12, 13, 14, 15, 16, 17, 18] : List Int)[r] = 14 ∨ ([3, 4, 5, 6, 7, 9, 11, 12, 13, 14, 15, 16, 17, 18] : List Int)[r] = 15 ∨ ([3, 4, 5, 6, 7, 9, 11, 12, 13, 14, 15, 16, 17, 18] : List Int)[r] = 16 ∨ ([3, 4, 5, 6, 7, 9, 11, 12, 13, 14, 15, 16, 17, 18] : List Int)[r] = 17 ∨ ([3, 4, 5, 6, 7, 9, 11, 12, 13, 14, 15, 16, 17, 18] : List Int)[r] = 18
  | 0, _ => .inl rfl
  | 1, _ => .inr (.inl rfl)
  | 2, _ => .inr (.inr (.inl rfl))
  | 3, _ => .inr (.inr (.inr (.inl rfl)))
  | 4, _ => .inr (.inr (.inr (.inr (.inl rfl))))
  | 5, _ => .inr (.inr (.inr (.inr (.inr (.inl rfl)))))
  | 6, _ => .inr (.inr (.inr (.inr (.inr (.inr (.inl rfl))))))
  | 7, _ => .inr (.inr (.inr (.inr (.inr (.inr (.inr (.inl rfl)))))))
  | 8, _ => .inr (.inr (.inr (.inr (.inr (.inr (.inr (.inr (.inl rfl))))))))
  | 9, _ => .inr (.inr (.inr (.inr (.inr (.inr (.inr (.inr (.inr (.inl rfl)))))))))
  | 10, _ => .inr (.inr (.inr (.inr (.inr (.inr (.inr (.inr (.inr (.inr (.inl rfl))))))))))
  | 11, _ => .inr (.inr (.inr (.inr (.inr (.inr (.inr (.inr (.inr (.inr (.inr (.inl rfl)))))))))))
  | 12, _ => .inr (.inr (.inr (.inr (.inr (.inr (.inr (.inr (.inr (.inr (.inr (.inr (.inl rfl))))))))))))
  | 13, _ => .inr (.inr (.inr (.inr (.inr (.inr (.inr (.inr (.inr (.inr (.inr (.inr (.inr rfl))))))))))))
  | r + 14, h => absurd h (by simp)
theorem map_pair0 (l : List Int) : (l.map fun t => ((t, 0) : Int × Int)).map (·.1) = l := by
  induction l with
  | nil => rfl
  | cons a l ih => simp only [List.map_cons, ih]
theorem typ_r (o r : Int) (ho : o = 11 ∨ o = 12 ∨ o = 16) (h0 : 0 ≤ r) (h1 : r ≤ 1) : Hid (3 ≤ o ∧ o ≤ 18 ∧ (1 + r = 1 ∨ 1 + r = 2) ∧ (1 + r = 1 ∨ 1 + r = 2) ∧ typI o (([1 + r, 1 + r, 1] : List Int).take (arityI o).toNat) = 1) := by
  have hr : r = 0 ∨ r = 1 := by omega
  unfold Hid
  rcases ho with rfl | rfl | rfl <;> rcases hr with rfl | rfl <;> decide
theorem tyOp_ok' {op : Int} {l : List (Int × Int)} (h1 : ∀ q ∈ l, q.2 = 0) : tyOp op l = if typI op (l.map (·.1)) = 0 then (0, 5) else (typI op (l.map (·.1)), 0) := by
  unfold tyOp
  rw [List.find?_eq_none.2 (by intro q hq; simp [h1 q hq])]
theorem typedExpr_any (B g : Nat) (to_ : Option Addr) (tcap : Nat) (types : List Int) (hTy : ∀ k ∈ types, k = 1 ∨ k = 2) (htl : types.length ≤ 1000) (htl1 : 1 ≤ types.length) (hlo : ∀ b o, to_ = some ⟨b, o, none⟩ → B ≤ b) : ∀ (d : Nat), d ≤ 5 → ∀ z : Int, Hid (z = (d : Int) + 1) → ∀ want : Int, (want = 1 ∨ want = 2) → ∀ w : World, TapeAt w B g → B ≤ w.heap.size → RAt encInt 1 w w.heap.size to_ types →
    Calls Tryd.prog 32 #[.pointer (some ⟨g, 0, none⟩), .int .i64 z, .slice to_ types.length tcap, .int .i64 want] w (TyPost types want w B g d) := by
  have HTy := Lib.hid hTy
  have HLo := Lib.hid hlo
  clear hTy hlo
  intro d
  induction d with
  | zero =>
    intro _ z hz want hwant w hT hB hR
    have z1 : z ≤ 1 := by have := hz.out; omega
    have hgB := tape_lt hT
    have HR := Lib.hid hR
    have HK := Lib.hid (tookBelow hT hB (Below.refl _ _))
    have Leaf := Lib.hid (tyPost_leaf types want w B g 0)
    clear hT hR
    go_enter Tryd.func32, Tryd.ntmps32
    go_wp2_with fail
    refine (next_any B g types.length _ (by omega) (by omega) HK.out.1 HK.out.2.2).mono ?_
    rintro e w2 ⟨a0, rfl, ha0, ha1, hK⟩
    obtain ⟨a, rfl⟩ : ∃ a : Nat, a0 = a := ⟨a0.toNat, by omega⟩
    have ha : a < types.length := by omega
    replace HK := Lib.hid (HK.out.trans hK)
    clear hK ha0 ha1
    go_wp2_with fail
    go_loopw [10] (fun i wr => ∃ k : Nat, k ≤ types.length ∧ i = .int .i64 k ∧ Hid (Took w B g wr)) (fun i _ => types.length - (intOf i).toNat)
    case atStart => exact ⟨0, by omega, rfl, HK.out⟩
    case round =>
      obtain ⟨k, hk, rfl, HKr⟩ := hrel
      by_cases hlt : k < types.length
      · have hlt2 : k + 1 ≤ types.length := hlt
        obtain ⟨m, hm⟩ : ∃ m : Nat, m = (a + k) % types.length := ⟨_, rfl⟩
        have hml : m < types.length := by rw [hm]; exact Nat.mod_lt _ (by omega)
        have ht : ((a : Int) + (k : Int)).tmod (types.length : Int) = (m : Int) := by
          rw [hm, Int.tmod_eq_emod_of_nonneg (by omega)]; simp
        have ht2 : ((a : Int) + (k : Int)) % (types.length : Int) = (m : Int) := by rw [hm]; simp
        obtain ⟨b, off, rfl, _⟩ := HR.out.form (by omega)
        have c0 := RAt.cell (took_row HR.out HLo.out HKr.out hgB) hml (j := 0) (u := .int .i64 types[m]) rfl
        simp only [Nat.mul_one, Nat.add_zero] at c0
        have Hm := Lib.hid (List.getElem?_eq_getElem hml)
        clear hm
        generalize types[m] = tv at *
        by_cases hw : tv = want
        · have yw : (tv == want) = true := by simpa using hw
          have Hw := Lib.hid hw
          clear hw
          go_wp2_with fail
          refine (next_any B g 4 _ (by decide) (by decide) HKr.out.1 HKr.out.2.2).mono ?_
          rintro e w3 ⟨r, rfl, hr0, hr1, hK⟩
          have HK3 := Lib.hid (HKr.out.trans hK)
          have c3 := RAt.cell (took_row HR.out HLo.out HK3.out hgB) hml (j := 0) (u := .int .i64 types[m]) rfl
          clear hK hr1 c3
          by_cases hr : 0 < r
          · clear hr0
            go_wp2_with fail
            go_ret
            exact (Leaf.out (colTm (m : Int)) w3 ⟨colTm_ok (by omega), rfl⟩ ⟨⟨by show (_ : Int) ≤ 2; decide, by show (2 : Int) ≤ _; decide⟩, nil_ok, ⟨by show _ ≤ (m : Int); omega, by show (m : Int) ≤ _; omega⟩⟩ (by simp [tyT, colTm, Hm.out, Hw.out]) HK3.out)
          · have hr2 : r = 0 := by omega
            subst hr2
            clear hr0 hr
            go_wp2_with fail
            go_roundw
            case rel => exact ⟨k + 1, hlt2, by go_num, HK3.out⟩
            case measure => simp [intOf]; omega
        · have yw : (tv == want) = false := by simpa using hw
          clear hw
          go_wp2_with fail
          go_roundw
          case rel => exact ⟨k + 1, hlt2, by go_num, HKr.out⟩
          case measure => simp [intOf]; omega
      · have zk : decide (k < types.length) = false := by simpa using hlt
        clear hlt
        rcases hwant with hw | hw
        · subst hw
          go_wp2_with fail
          refine (int_anyK B g _ HKr.out.1 HKr.out.2.2).mono ?_
          rintro e w3 ⟨k1, m1, s1, rfl, hv, hok, hk1, hK⟩
          have HK3 := Lib.hid (HKr.out.trans hK)
          have Hv := Lib.hid hv
          have Hok := Lib.hid hok
          clear hK hv hok
          go_wp2_with fail
          go_ret
          exact (Leaf.out ⟨1, ⟨k1, m1, s1⟩, 0⟩ w3 ⟨constTm_ok Hv.out (by have := hk1.out; omega), rfl⟩ ⟨⟨by show (_ : Int) ≤ 1; decide, by show (1 : Int) ≤ _; decide⟩, Hok.out, ⟨by show (_ : Int) ≤ 0; decide, by show (0 : Int) ≤ _; decide⟩⟩ (by simp [tyT, hk1.out]) HK3.out)
        · subst hw
          go_wp2_with fail
          refine (text_anyK B g _ HKr.out.1 HKr.out.2.2).mono ?_
          rintro e w3 ⟨k1, m1, s1, rfl, hv, hok, hk1, hK⟩
          have HK3 := Lib.hid (HKr.out.trans hK)
          have Hv := Lib.hid hv
          have Hok := Lib.hid hok
          clear hK hv hok
          go_wp2_with fail
          go_ret
          exact (Leaf.out ⟨1, ⟨k1, m1, s1⟩, 0⟩ w3 ⟨constTm_ok Hv.out (by have := hk1.out; omega), rfl⟩ ⟨⟨by show (_ : Int) ≤ 1; decide, by show (1 : Int) ≤ _; decide⟩, Hok.out, ⟨by show (_ : Int) ≤ 0; decide, by show (0 : Int) ≤ _; decide⟩⟩ (by simp [tyT, hk1.out]) HK3.out)
  | succ d ih =>
    intro hd z hz want hwant w hT hB hR
    have z1 : 1 < z := by have := hz.out; omega
    have z2 : z ≤ 7 := by have := hz.out; omega
    have IH := Lib.hid (ih (by omega))
    have hgB := tape_lt hT
    have HR := Lib.hid hR
    have HT := Lib.hid hT
    have Leaf := Lib.hid (tyPost_leaf types want w B g (d + 1))
    clear hT hR ih
    go_enter Tryd.func32, Tryd.ntmps32
    go_wp2_with fail
    refine (next_any B g 4 w (by decide) (by decide) HT.out hB).mono ?_
    rintro e w1 ⟨r, rfl, hr0, hr1, hK⟩
    have HK := Lib.hid hK
    clear hr1 hK
    by_cases h0 : r = 0
    · subst h0
      clear hr0
      go_wp2_with fail
      refine (next_any B g types.length _ (by omega) (by omega) HK.out.1 HK.out.2.2).mono ?_
      rintro e w2 ⟨a0, rfl, ha0, ha1, hK⟩
      obtain ⟨a, rfl⟩ : ∃ a : Nat, a0 = a := ⟨a0.toNat, by omega⟩
      have ha : a < types.length := by omega
      replace HK := Lib.hid (HK.out.trans hK)
      clear hK ha0 ha1
      go_wp2_with fail
      go_loopw [10] (fun i wr => ∃ k : Nat, k ≤ types.length ∧ i = .int .i64 k ∧ Hid (Took w B g wr)) (fun i _ => types.length - (intOf i).toNat)
      case atStart => exact ⟨0, by omega, rfl, HK.out⟩
      case round =>
        obtain ⟨k, hk, rfl, HKr⟩ := hrel
        by_cases hlt : k < types.length
        · have hlt2 : k + 1 ≤ types.length := hlt
          obtain ⟨m, hm⟩ : ∃ m : Nat, m = (a + k) % types.length := ⟨_, rfl⟩
          have hml : m < types.length := by rw [hm]; exact Nat.mod_lt _ (by omega)
          have ht : ((a : Int) + (k : Int)).tmod (types.length : Int) = (m : Int) := by
            rw [hm, Int.tmod_eq_emod_of_nonneg (by omega)]; simp
          have ht2 : ((a : Int) + (k : Int)) % (types.length : Int) = (m : Int) := by rw [hm]; simp
          obtain ⟨b, off, rfl, _⟩ := HR.out.form (by omega)
          have c0 := RAt.cell (took_row HR.out HLo.out HKr.out hgB) hml (j := 0) (u := .int .i64 types[m]) rfl
          simp only [Nat.mul_one, Nat.add_zero] at c0
          have Hm := Lib.hid (List.getElem?_eq_getElem hml)
          clear hm
          generalize types[m] = tv at *
          by_cases hw : tv = want
          · have yw : (tv == want) = true := by simpa using hw
            have Hw := Lib.hid hw
            clear hw
            go_wp2_with fail
            refine (next_any B g 4 _ (by decide) (by decide) HKr.out.1 HKr.out.2.2).mono ?_
            rintro e w3 ⟨r, rfl, hr0, hr1, hK⟩
            have HK3 := Lib.hid (HKr.out.trans hK)
            have c3 := RAt.cell (took_row HR.out HLo.out HK3.out hgB) hml (j := 0) (u := .int .i64 types[m]) rfl
            clear hK hr1 c3
            by_cases hr : 0 < r
            · clear hr0
              go_wp2_with fail
              go_ret
              exact (Leaf.out (colTm (m : Int)) w3 ⟨colTm_ok (by omega), rfl⟩ ⟨⟨by show (_ : Int) ≤ 2; decide, by show (2 : Int) ≤ _; decide⟩, nil_ok, ⟨by show _ ≤ (m : Int); omega, by show (m : Int) ≤ _; omega⟩⟩ (by simp [tyT, colTm, Hm.out, Hw.out]) HK3.out)
            · have hr2 : r = 0 := by omega
              subst hr2
              clear hr0 hr
              go_wp2_with fail
              go_roundw
              case rel => exact ⟨k + 1, hlt2, by go_num, HK3.out⟩
              case measure => simp [intOf]; omega
          · have yw : (tv == want) = false := by simpa using hw
            clear hw
            go_wp2_with fail
            go_roundw
            case rel => exact ⟨k + 1, hlt2, by go_num, HKr.out⟩
            case measure => simp [intOf]; omega
        · have zk : decide (k < types.length) = false := by simpa using hlt
          clear hlt
          rcases hwant with hw | hw
          · subst hw
            go_wp2_with fail
            refine (int_anyK B g _ HKr.out.1 HKr.out.2.2).mono ?_
            rintro e w3 ⟨k1, m1, s1, rfl, hv, hok, hk1, hK⟩
            have HK3 := Lib.hid (HKr.out.trans hK)
            have Hv := Lib.hid hv
            have Hok := Lib.hid hok
            clear hK hv hok
            go_wp2_with fail
            go_ret
            exact (Leaf.out ⟨1, ⟨k1, m1, s1⟩, 0⟩ w3 ⟨constTm_ok Hv.out (by have := hk1.out; omega), rfl⟩ ⟨⟨by show (_ : Int) ≤ 1; decide, by show (1 : Int) ≤ _; decide⟩, Hok.out, ⟨by show (_ : Int) ≤ 0; decide, by show (0 : Int) ≤ _; decide⟩⟩ (by simp [tyT, hk1.out]) HK3.out)
          · subst hw
            go_wp2_with fail
            refine (text_anyK B g _ HKr.out.1 HKr.out.2.2).mono ?_
            rintro e w3 ⟨k1, m1, s1, rfl, hv, hok, hk1, hK⟩
            have HK3 := Lib.hid (HKr.out.trans hK)
            have Hv := Lib.hid hv
            have Hok := Lib.hid hok
            clear hK hv hok
            go_wp2_with fail
            go_ret
            exact (Leaf.out ⟨1, ⟨k1, m1, s1⟩, 0⟩ w3 ⟨constTm_ok Hv.out (by have := hk1.out; omega), rfl⟩ ⟨⟨by show (_ : Int) ≤ 1; decide, by show (1 : Int) ≤ _; decide⟩, Hok.out, ⟨by show (_ : Int) ≤ 0; decide, by show (0 : Int) ≤ _; decide⟩⟩ (by simp [tyT, hk1.out]) HK3.out)
    · have y0 : (r == 0) = false := by simpa using h0
      clear h0 hr0
      have hL4 := rAt_block (enc := encInt) (l := [17, 18, 8, 10]) encInt_len (heap_alloc_new w1 (.cells #[.int .i64 17, .int .i64 18, .int .i64 8, .int .i64 10] 3)) rfl
      have hs1 := HK.out.2.2
      replace HK := Lib.hid (HK.out.below (al1 w1 (.cells #[.int .i64 17, .int .i64 18, .int .i64 8, .int .i64 10] 3)))
      go_wp2_with fail
      refine (next_any B g 4 _ (by decide) (by decide) HK.out.1 HK.out.2.2).mono ?_
      rintro e w2 ⟨r1, rfl, hr10, hr11, hK⟩
      obtain ⟨r4, rfl⟩ : ∃ r4 : Nat, r1 = r4 := ⟨r1.toNat, by omega⟩
      have hr4 : r4 < 4 := by omega
      have hr4' : r4 < ([17, 18, 8, 10] : List Int).length := hr4
      have c4 := RAt.cell (took_row hL4 (fun b o h => by simp at h; omega) hK hgB) hr4' (j := 0) (u := .int .i64 ([17, 18, 8, 10] : List Int)[r4]) rfl
      simp only [Nat.mul_one, Nat.add_zero, Nat.zero_add] at c4
      have ho4 := Lib.hid (list4 r4 hr4')
      generalize ([17, 18, 8, 10] : List Int)[r4] = o1 at *
      replace HK := Lib.hid (HK.out.trans hK)
      clear hK hr10 hr11 hL4 hr4'
      rcases hwant with hw | hw
      · subst hw
        have hs2 := HK.out.2.2
        have hL14 := rAt_block (enc := encInt) (l := [3, 4, 5, 6, 7, 9, 11, 12, 13, 14, 15, 16, 17, 18]) encInt_len (heap_alloc_new w2 (.cells #[.int .i64 3, .int .i64 4, .int .i64 5, .int .i64 6, .int .i64 7, .int .i64 9, .int .i64 11, .int .i64 12, .int .i64 13, .int .i64 14, .int .i64 15, .int .i64 16, .int .i64 17, .int .i64 18] 3)) rfl
        replace HK := Lib.hid (HK.out.below (al1 w2 (.cells #[.int .i64 3, .int .i64 4, .int .i64 5, .int .i64 6, .int .i64 7, .int .i64 9, .int .i64 11, .int .i64 12, .int .i64 13, .int .i64 14, .int .i64 15, .int .i64 16, .int .i64 17, .int .i64 18] 3)))
        go_wp2_with fail
        refine (next_any B g 14 _ (by decide) (by decide) HK.out.1 HK.out.2.2).mono ?_
        rintro e w3 ⟨r2, rfl, hr20, hr21, hK⟩
        obtain ⟨r5, rfl⟩ : ∃ r5 : Nat, r2 = r5 := ⟨r2.toNat, by omega⟩
        have hr5 : r5 < 14 := by omega
        have hr5' : r5 < ([3, 4, 5, 6, 7, 9, 11, 12, 13, 14, 15, 16, 17, 18] : List Int).length := hr5
        have c5 := RAt.cell (took_row hL14 (fun b o h => by simp at h; omega) hK hgB) hr5' (j := 0) (u := .int .i64 ([3, 4, 5, 6, 7, 9, 11, 12, 13, 14, 15, 16, 17, 18] : List Int)[r5]) rfl
        simp only [Nat.mul_one, Nat.add_zero, Nat.zero_add] at c5
        have ho5 := Lib.hid (list14 r5 hr5')
        generalize ([3, 4, 5, 6, 7, 9, 11, 12, 13, 14, 15, 16, 17, 18] : List Int)[r5] = o2 at *
        replace HK := Lib.hid (HK.out.trans hK)
        clear hK hr20 hr21 hL14 hr5' c4
        go_upto_block 2 with fail
        go_cut [11, 12] from 85 to 98 (fun p q wx => ∃ sa sb : Int, p = .int .i64 sa ∧ q = .int .i64 sb ∧ Hid (3 ≤ o2 ∧ o2 ≤ 18 ∧ (sa = 1 ∨ sa = 2) ∧ (sb = 1 ∨ sb = 2) ∧ typI o2 (([sa, sb, 1] : List Int).take (arityI o2).toNat) = 1) ∧ Hid (Took w B g wx))
        case first =>
          rcases ho5.out with rfl | rfl | rfl | rfl | rfl | rfl | rfl | rfl | rfl | rfl | rfl | rfl | rfl | rfl
          · go_wp2_with fail
            go_meet
            exact ⟨1, 1, rfl, rfl, by unfold Hid; decide, HK.out⟩
          · go_wp2_with fail
            go_meet
            exact ⟨1, 1, rfl, rfl, by unfold Hid; decide, HK.out⟩
          · go_wp2_with fail
            go_meet
            exact ⟨1, 1, rfl, rfl, by unfold Hid; decide, HK.out⟩
          · go_wp2_with fail
            go_meet
            exact ⟨1, 1, rfl, rfl, by unfold Hid; decide, HK.out⟩
          · go_wp2_with fail
            go_meet
            exact ⟨1, 1, rfl, rfl, by unfold Hid; decide, HK.out⟩
          · go_wp2_with fail
            go_meet
            exact ⟨2, 1, rfl, rfl, by unfold Hid; decide, HK.out⟩
          · go_wp2_with fail
            refine (next_any B g 2 _ (by decide) (by decide) HK.out.1 HK.out.2.2).mono ?_
            rintro e w9 ⟨r9, rfl, hr90, hr91, hK⟩
            have HK9 := Lib.hid (HK.out.trans hK)
            have hr92 : r9 ≤ 1 := by omega
            clear hK hr91
            go_wp2_with fail
            go_meet
            exact ⟨1 + r9, 1 + r9, rfl, rfl, typ_r 11 r9 (by decide) hr90 hr92, HK9.out⟩
          · go_wp2_with fail
            refine (next_any B g 2 _ (by decide) (by decide) HK.out.1 HK.out.2.2).mono ?_
            rintro e w9 ⟨r9, rfl, hr90, hr91, hK⟩
            have HK9 := Lib.hid (HK.out.trans hK)
            have hr92 : r9 ≤ 1 := by omega
            clear hK hr91
            go_wp2_with fail
            go_meet
            exact ⟨1 + r9, 1 + r9, rfl, rfl, typ_r 12 r9 (by decide) hr90 hr92, HK9.out⟩
          · go_wp2_with fail
            go_meet
            exact ⟨1, 1, rfl, rfl, by unfold Hid; decide, HK.out⟩
          · go_wp2_with fail
            go_meet
            exact ⟨1, 1, rfl, rfl, by unfold Hid; decide, HK.out⟩
          · go_wp2_with fail
            go_meet
            exact ⟨1, 1, rfl, rfl, by unfold Hid; decide, HK.out⟩
          · go_wp2_with fail
            refine (next_any B g 2 _ (by decide) (by decide) HK.out.1 HK.out.2.2).mono ?_
            rintro e w9 ⟨r9, rfl, hr90, hr91, hK⟩
            have HK9 := Lib.hid (HK.out.trans hK)
            have hr92 : r9 ≤ 1 := by omega
            clear hK hr91
            go_wp2_with fail
            go_meet
            exact ⟨1 + r9, 1 + r9, rfl, rfl, typ_r 16 r9 (by decide) hr90 hr92, HK9.out⟩
          · go_wp2_with fail
            go_meet
            exact ⟨1, 1, rfl, rfl, by unfold Hid; decide, HK.out⟩
          · go_wp2_with fail
            go_meet
            exact ⟨1, 1, rfl, rfl, by unfold Hid; decide, HK.out⟩
        case rest =>
          obtain ⟨sa, sb, rfl, rfl, HAB, HK⟩ := hcut
          have hab := HAB.out
          obtain ⟨ho3, ho18, hsa, hsb, hty⟩ := hab
          obtain ⟨ar, har⟩ : ∃ ar : Nat, arityI o2 = ar := ⟨(arityI o2).toNat, by
            have h0 : 0 ≤ arityI o2 := by
              unfold arityI
              repeat' split
              all_goals omega
            omega⟩
          have har3 : ar ≤ 3 := by have := arity_cases o2; omega
          have har1 : 1 ≤ ar := by
            rcases Nat.eq_zero_or_pos ar with h | h
            · rcases arity0 (op := o2) (by rw [har, h]; rfl) with h' | h' <;> omega
            · exact h
          have Har := Lib.hid har
          have HAr := Lib.hid (show ∀ w, Calls Tryd.prog 17 #[.int .i64 o2] w (fun e w' => e = .returned (.int .i64 (ar : Int)) ∧ w = w') by intro w; rw [← har]; exact rarity_any o2 w)
          have Hsk := Lib.hid (show ∀ k (h : k < ([sa, sb, 1] : List Int).length), ([sa, sb, 1] : List Int)[k] = 1 ∨ ([sa, sb, 1] : List Int)[k] = 2 by
            intro k hk
            have h1 := List.getElem_mem hk
            simp only [List.mem_cons, List.not_mem_nil, or_false] at h1
            omega)
          have Hty := Lib.hid hty
          rw [har, Int.toNat_natCast] at Hty
          have hsc : w.heap.size ≤ wc.heap.size := HK.out.2.1.size
          have hBc : B ≤ wc.heap.size := HK.out.2.2
          have hown0 : OwnsTm ((wc.alloc (.cells #[.int .i64 o2, .int .i64 0, .int .i64 0, .string ⟨#[]⟩, .int .i64 0] 36)).alloc (.cells #[.int .i64 sa, .int .i64 sb, .int .i64 1] 3)) w.heap.size (.slice (some ⟨wc.heap.size, 0, none⟩) 1 1) [opTm o2] := ownsR_new encTm_len (by rw [Below.heap_alloc _ _ _ (by simp)]; exact heap_alloc_new _ _) hsc rfl (by unfold maxLen; show 1 ≤ _; omega)
          have hS0 := rAt_block (enc := encInt) (l := [sa, sb, 1]) encInt_len (heap_alloc_new (wc.alloc (.cells #[.int .i64 o2, .int .i64 0, .int .i64 0, .string ⟨#[]⟩, .int .i64 0] 36)) (.cells #[.int .i64 sa, .int .i64 sb, .int .i64 1] 3)) rfl
          rw [show (wc.alloc (.cells #[.int .i64 o2, .int .i64 0, .int .i64 0, .string ⟨#[]⟩, .int .i64 0] 36)).heap.size = wc.heap.size + 1 by simp] at hS0
          replace HK := Lib.hid (HK.out.below (al2 wc (.cells #[.int .i64 o2, .int .i64 0, .int .i64 0, .string ⟨#[]⟩, .int .i64 0] 36) (.cells #[.int .i64 sa, .int .i64 sb, .int .i64 1] 3)))
          have Hown0 := Lib.hid hown0
          have HS0 := Lib.hid hS0
          clear hown0 hS0 har hty hsa hsb HAB
          go_wp2_with fail
          obtain ⟨S, hS⟩ : ∃ S : List Int, S = [sa, sb, 1] := ⟨_, rfl⟩
          rw [← hS] at HS0 Hty Hsk
          have hSl : S.length = 3 := by rw [hS]; rfl
          clear hS
          have Hsl := Lib.hid hSl
          clear hSl
          go_loopw [15, 17] (fun v i wr => ∃ (k : Nat) (l : List Tm) (ad : Option Addr) (cp : Nat) (xs : List Ex), i = .int .i64 k ∧ v = .slice ad l.length cp ∧ k ≤ ar ∧ Hid (l = opTm o2 :: flats xs ∧ oks xs ∧ depths xs ≤ d + 1 ∧ xs.length = k ∧ (flats xs).length ≤ xs.length * tsz d ∧ (∀ t ∈ l, t.okT) ∧ xs.map (Ex.fold (tyT types)) = (S.take k).map fun t => (t, 0)) ∧ Hid (OwnsTm wr w.heap.size (.slice ad l.length cp) l) ∧ Hid (∀ b, (Value.slice ad l.length cp).ownBlock = some b → b ≠ wc.heap.size + 1) ∧ Hid (RAt encInt 1 wr wr.heap.size (some ⟨wc.heap.size + 1, 0, none⟩) S) ∧ Hid (Took w B g wr)) (fun _ i _ => ar - (intOf i).toNat)
          case atStart =>
            refine ⟨0, [opTm o2], some ⟨wc.heap.size, 0, none⟩, 1, [], rfl, rfl, by omega, ⟨rfl, by simp [oks], by simp [depths], rfl, by simp [flats], ?_, by simp⟩, Hown0.out, ?_, HS0.out, HK.out⟩
            · intro t ht
              rw [List.mem_singleton.1 ht]
              exact ⟨⟨by show _ ≤ o2; omega, by show o2 ≤ _; omega⟩, nil_ok, ⟨by show (_ : Int) ≤ 0; decide, by show (0 : Int) ≤ _; decide⟩⟩
            · intro b hb
              simp [Value.ownBlock] at hb
              omega
          case round =>
            obtain ⟨k, l, ad, cp, xs, rfl, rfl, hk, hX, hown, hnb, hSr, hTk⟩ := hrel
            have htz := Lib.hid (show tsz d ≤ 400 by
              have : ∀ d : Nat, d ≤ 5 → tsz d ≤ 400 := fun d hd => by
                have : ∀ j : Fin 6, tsz j.1 ≤ 400 := by decide
                exact this ⟨d, by omega⟩
              exact this d (by omega))
            have hsz : w.heap.size ≤ wr.heap.size := hTk.out.2.1.size
            by_cases hlt : k < ar
            · have hlt2 : k + 1 ≤ ar := hlt
              have hkS : k < S.length := by have := Hsl.out; omega
              have d0 := RAt.cell hSr.out hkS (j := 0) (u := .int .i64 S[k]) rfl
              simp only [Nat.mul_one, Nat.add_zero, Nat.zero_add] at d0
              have hbl : wc.heap.size + 1 < wr.heap.size := World.block_lt_of_cell? wr _ d0
              have hsk := Hsk.out k hkS
              have Htk := Lib.hid (show S.take (k + 1) = S.take k ++ [S[k]] by rw [List.take_succ_eq_append_getElem hkS])
              have hz1 : Hid (z - 1 = (d : Int) + 1) := by have := hz.out; unfold Hid; omega
              have HC := Lib.hid (IH.out (z - 1) hz1 S[k] hsk wr hTk.out.1 hTk.out.2.2 (took_row HR.out HLo.out hTk.out hgB))
              have hk3 : (k : Int) < 3 := by omega
              have hS3 : k < 3 := by omega
              have Hsk1 := Lib.hid hsk
              clear hsk
              generalize S[k] = sk at *
              go_wp2_with fail
              refine (HAr.out _).mono ?_
              rintro e wx ⟨rfl, rfl⟩
              go_wp2_with fail
              refine HC.out.mono ?_
              rintro e w5 ⟨ao2, cap2, l2, x2, hx2, rfl, hT2, hnil2, _, _, hK2⟩
              have hown2 := own_away hown.out hK2.2.1 hgB hB
              have HS5 := Lib.hid (took_row hSr.out (fun b o h => by simp at h; omega) hK2 hgB)
              have HK2 := Lib.hid (hTk.out.trans hK2)
              have hs5 : w.heap.size ≤ w5.heap.size := HK2.out.2.1.size
              have hs6 : wr.heap.size ≤ w5.heap.size := hK2.2.1.size
              have hl1 : l.length ≤ 1600 := by
                obtain ⟨e1, _, _, e4, e5, _⟩ := hX.out
                rw [e1]
                have h7 := htz.out
                have h8 : xs.length * tsz d ≤ 3 * tsz d := Nat.mul_le_mul_right _ (by omega)
                simp; omega
              have hl2 : l2.length ≤ 400 := by have := hx2.out.2.2.2.1; have := htz.out; omega
              clear hK2 hown hTk hSr
              go_wp2_with (at_builtin; refine wpList_copyR (enc := encTm) (m := 5) Tryd.underlying23 infoTm rfl (by decide) encTm_len encTm_one w5 rfl (.tmp 112) (.tmp 121) rfl w.heap.size _ l rfl hown2 w5.heap.size ao2 cap2 l2 rfl hT2 hnil2 ?_ ?_ hs5 ?_)
              · omega
              · unfold maxLen; omega
              intro l3 v3 w6 hl3 hown3 haw3 hb3 hat3 _
              obtain ⟨ao3, cap3, rfl, _, _, _, _, _⟩ := OwnsR.rAt encTm_len hown3
              have HK3 := HK2.out.fresh haw3 (fun b hb => by have := (OwnsR.lt hown2 b hb).1; omega)
              have hS6 : RAt encInt 1 w6 w6.heap.size (some ⟨wc.heap.size + 1, 0, none⟩) S := (HS5.out.away haw3 (Nat.le_refl _) (fun b o h hne => by
                simp at h
                exact hnb.out b hne.symm (by omega))).mono haw3.size
              obtain ⟨e1, e2, e3, e4, e5, e6, e7⟩ := hX.out
              obtain ⟨f1, f2, f3, f4, f5, f6⟩ := hx2.out
              go_wp2_with fail
              refine ⟨⟨k + 1, l3, ao3, cap3, xs ++ [x2], by go_num, rfl, hlt2, ⟨?_, ?_, ?_, ?_, ?_, ?_, ?_⟩, hown3, ?_, hS6, HK3⟩, by simp [intOf]; omega⟩
              · rw [hl3.out, e1, f1, flats_app]; simp [flats]
              · intro y hy
                rcases List.mem_append.1 hy with hy | hy
                · exact e2 y hy
                · rw [List.mem_singleton.1 hy]; exact f2
              · rw [depths_app]; simp [depths]; omega
              · simp; omega
              · rw [flats_app, List.length_append, List.length_append, Nat.add_mul]
                simp only [flats, List.append_nil, List.length_cons, List.length_nil]
                rw [← f1]; omega
              · intro t ht
                rw [hl3.out] at ht
                rcases List.mem_append.1 ht with ht | ht
                · exact e6 t ht
                · exact f5 t ht
              · rw [List.map_append, e7, Htk.out, List.map_append, List.map_singleton, f6]; rfl
              · intro b hb
                rcases hat3 with h | h
                · exact hnb.out b (by rw [← h]; exact hb)
                · rw [h] at hb
                  simp only [Option.some.injEq] at hb
                  omega
            · have hke : k = ar := by omega
              obtain ⟨e1, e2, e3, e4, e5, e6, e7⟩ := hX.out
              obtain ⟨ao, cap, heq, hr, hlo', hnil, hle, _⟩ := OwnsR.rAt encTm_len hown.out
              simp only [Value.slice.injEq, true_and] at heq
              obtain ⟨rfl, rfl⟩ := heq
              have h3 : xs.length ≤ 3 := by omega
              have Hfin := Lib.hid (show TyPost types 1 w B g (d + 1) (.returned (.slice ad l.length cp)) wr by
                refine ⟨ad, cp, l, Ex.node (opTm o2) xs, ⟨?_, ?_, ?_, ?_, e6, ?_⟩, rfl, hr, hnil, hlo', hle, hTk.out⟩
                · rw [Ex.flat_eq, node_head, node_args _ _ h3, e1]
                · rw [Ex.ok_iff, node_head, node_args _ _ h3]
                  exact ⟨opTm_ok ho3 ho18, by show arityI o2 = _; rw [Har.out]; omega, e2⟩
                · rw [Ex.depth_eq, node_args _ _ h3]; omega
                · rw [e1]
                  have h8 : xs.length * tsz d ≤ 3 * tsz d := Nat.mul_le_mul_right _ h3
                  simp only [List.length_cons, tsz]; omega
                · rw [Ex.fold_eq, node_head, node_args _ _ h3, e7, hke]
                  have hop : tyT types (opTm o2) ((S.take ar).map fun t => (t, 0)) = tyOp o2 ((S.take ar).map fun t => (t, 0)) := by
                    unfold tyT
                    rw [if_neg (by show o2 ≠ 1; omega), if_neg (by show o2 ≠ 2; omega)]; rfl
                  have hmm : ((S.take ar).map fun t => ((t, 0) : Int × Int)).map (·.1) = S.take ar := map_pair0 _
                  rw [hop, tyOp_ok' (by intro q hq; obtain ⟨t, _, rfl⟩ := List.mem_map.1 hq; rfl), hmm, Hty.out, if_neg (by decide)])
              have zk : decide (k < ar) = false := by simp; omega
              clear hown hlt e1 e2 e3 e4 e5 e6 e7 hr hlo' hnil hle hX hke
              go_wp2_with fail
              refine (HAr.out _).mono ?_
              rintro e wx ⟨rfl, rfl⟩
              go_wp2_with fail
              go_ret
              exact Hfin.out
      · subst hw
        go_upto_block 2 with fail
        go_cut [11, 12] from 85 to 98 (fun p q wx => ∃ sa sb : Int, p = .int .i64 sa ∧ q = .int .i64 sb ∧ Hid (3 ≤ o1 ∧ o1 ≤ 18 ∧ (sa = 1 ∨ sa = 2) ∧ (sb = 1 ∨ sb = 2) ∧ typI o1 (([sa, sb, 2] : List Int).take (arityI o1).toNat) = 2) ∧ Hid (Took w B g wx))
        case first =>
          rcases ho4.out with rfl | rfl | rfl | rfl
          · go_wp2_with fail
            go_meet
            exact ⟨2, 2, rfl, rfl, by unfold Hid; decide, HK.out⟩
          · go_wp2_with fail
            go_meet
            exact ⟨1, 2, rfl, rfl, by unfold Hid; decide, HK.out⟩
          · go_wp2_with fail
            go_meet
            exact ⟨2, 2, rfl, rfl, by unfold Hid; decide, HK.out⟩
          · go_wp2_with fail
            go_meet
            exact ⟨2, 1, rfl, rfl, by unfold Hid; decide, HK.out⟩
        case rest =>
          obtain ⟨sa, sb, rfl, rfl, HAB, HK⟩ := hcut
          have hab := HAB.out
          obtain ⟨ho3, ho18, hsa, hsb, hty⟩ := hab
          obtain ⟨ar, har⟩ : ∃ ar : Nat, arityI o1 = ar := ⟨(arityI o1).toNat, by
            have h0 : 0 ≤ arityI o1 := by
              unfold arityI
              repeat' split
              all_goals omega
            omega⟩
          have har3 : ar ≤ 3 := by have := arity_cases o1; omega
          have har1 : 1 ≤ ar := by
            rcases Nat.eq_zero_or_pos ar with h | h
            · rcases arity0 (op := o1) (by rw [har, h]; rfl) with h' | h' <;> omega
            · exact h
          have Har := Lib.hid har
          have HAr := Lib.hid (show ∀ w, Calls Tryd.prog 17 #[.int .i64 o1] w (fun e w' => e = .returned (.int .i64 (ar : Int)) ∧ w = w') by intro w; rw [← har]; exact rarity_any o1 w)
          have Hsk := Lib.hid (show ∀ k (h : k < ([sa, sb, 2] : List Int).length), ([sa, sb, 2] : List Int)[k] = 1 ∨ ([sa, sb, 2] : List Int)[k] = 2 by
            intro k hk
            have h1 := List.getElem_mem hk
            simp only [List.mem_cons, List.not_mem_nil, or_false] at h1
            omega)
          have Hty := Lib.hid hty
          rw [har, Int.toNat_natCast] at Hty
          have hsc : w.heap.size ≤ wc.heap.size := HK.out.2.1.size
          have hBc : B ≤ wc.heap.size := HK.out.2.2
          have hown0 : OwnsTm ((wc.alloc (.cells #[.int .i64 o1, .int .i64 0, .int .i64 0, .string ⟨#[]⟩, .int .i64 0] 36)).alloc (.cells #[.int .i64 sa, .int .i64 sb, .int .i64 2] 3)) w.heap.size (.slice (some ⟨wc.heap.size, 0, none⟩) 1 1) [opTm o1] := ownsR_new encTm_len (by rw [Below.heap_alloc _ _ _ (by simp)]; exact heap_alloc_new _ _) hsc rfl (by unfold maxLen; show 1 ≤ _; omega)
          have hS0 := rAt_block (enc := encInt) (l := [sa, sb, 2]) encInt_len (heap_alloc_new (wc.alloc (.cells #[.int .i64 o1, .int .i64 0, .int .i64 0, .string ⟨#[]⟩, .int .i64 0] 36)) (.cells #[.int .i64 sa, .int .i64 sb, .int .i64 2] 3)) rfl
          rw [show (wc.alloc (.cells #[.int .i64 o1, .int .i64 0, .int .i64 0, .string ⟨#[]⟩, .int .i64 0] 36)).heap.size = wc.heap.size + 1 by simp] at hS0
          replace HK := Lib.hid (HK.out.below (al2 wc (.cells #[.int .i64 o1, .int .i64 0, .int .i64 0, .string ⟨#[]⟩, .int .i64 0] 36) (.cells #[.int .i64 sa, .int .i64 sb, .int .i64 2] 3)))
          have Hown0 := Lib.hid hown0
          have HS0 := Lib.hid hS0
          clear hown0 hS0 har hty hsa hsb HAB
          go_wp2_with fail
          obtain ⟨S, hS⟩ : ∃ S : List Int, S = [sa, sb, 2] := ⟨_, rfl⟩
          rw [← hS] at HS0 Hty Hsk
          have hSl : S.length = 3 := by rw [hS]; rfl
          clear hS
          have Hsl := Lib.hid hSl
          clear hSl
          go_loopw [15, 17] (fun v i wr => ∃ (k : Nat) (l : List Tm) (ad : Option Addr) (cp : Nat) (xs : List Ex), i = .int .i64 k ∧ v = .slice ad l.length cp ∧ k ≤ ar ∧ Hid (l = opTm o1 :: flats xs ∧ oks xs ∧ depths xs ≤ d + 1 ∧ xs.length = k ∧ (flats xs).length ≤ xs.length * tsz d ∧ (∀ t ∈ l, t.okT) ∧ xs.map (Ex.fold (tyT types)) = (S.take k).map fun t => (t, 0)) ∧ Hid (OwnsTm wr w.heap.size (.slice ad l.length cp) l) ∧ Hid (∀ b, (Value.slice ad l.length cp).ownBlock = some b → b ≠ wc.heap.size + 1) ∧ Hid (RAt encInt 1 wr wr.heap.size (some ⟨wc.heap.size + 1, 0, none⟩) S) ∧ Hid (Took w B g wr)) (fun _ i _ => ar - (intOf i).toNat)
          case atStart =>
            refine ⟨0, [opTm o1], some ⟨wc.heap.size, 0, none⟩, 1, [], rfl, rfl, by omega, ⟨rfl, by simp [oks], by simp [depths], rfl, by simp [flats], ?_, by simp⟩, Hown0.out, ?_, HS0.out, HK.out⟩
            · intro t ht
              rw [List.mem_singleton.1 ht]
              exact ⟨⟨by show _ ≤ o1; omega, by show o1 ≤ _; omega⟩, nil_ok, ⟨by show (_ : Int) ≤ 0; decide, by show (0 : Int) ≤ _; decide⟩⟩
            · intro b hb
              simp [Value.ownBlock] at hb
              omega
          case round =>
            obtain ⟨k, l, ad, cp, xs, rfl, rfl, hk, hX, hown, hnb, hSr, hTk⟩ := hrel
            have htz := Lib.hid (show tsz d ≤ 400 by
              have : ∀ d : Nat, d ≤ 5 → tsz d ≤ 400 := fun d hd => by
                have : ∀ j : Fin 6, tsz j.1 ≤ 400 := by decide
                exact this ⟨d, by omega⟩
              exact this d (by omega))
            have hsz : w.heap.size ≤ wr.heap.size := hTk.out.2.1.size
            by_cases hlt : k < ar
            · have hlt2 : k + 1 ≤ ar := hlt
              have hkS : k < S.length := by have := Hsl.out; omega
              have d0 := RAt.cell hSr.out hkS (j := 0) (u := .int .i64 S[k]) rfl
              simp only [Nat.mul_one, Nat.add_zero, Nat.zero_add] at d0
              have hbl : wc.heap.size + 1 < wr.heap.size := World.block_lt_of_cell? wr _ d0
              have hsk := Hsk.out k hkS
              have Htk := Lib.hid (show S.take (k + 1) = S.take k ++ [S[k]] by rw [List.take_succ_eq_append_getElem hkS])
              have hz1 : Hid (z - 1 = (d : Int) + 1) := by have := hz.out; unfold Hid; omega
              have HC := Lib.hid (IH.out (z - 1) hz1 S[k] hsk wr hTk.out.1 hTk.out.2.2 (took_row HR.out HLo.out hTk.out hgB))
              have hk3 : (k : Int) < 3 := by omega
              have hS3 : k < 3 := by omega
              have Hsk1 := Lib.hid hsk
              clear hsk
              generalize S[k] = sk at *
              go_wp2_with fail
              refine (HAr.out _).mono ?_
              rintro e wx ⟨rfl, rfl⟩
              go_wp2_with fail
              refine HC.out.mono ?_
              rintro e w5 ⟨ao2, cap2, l2, x2, hx2, rfl, hT2, hnil2, _, _, hK2⟩
              have hown2 := own_away hown.out hK2.2.1 hgB hB
              have HS5 := Lib.hid (took_row hSr.out (fun b o h => by simp at h; omega) hK2 hgB)
              have HK2 := Lib.hid (hTk.out.trans hK2)
              have hs5 : w.heap.size ≤ w5.heap.size := HK2.out.2.1.size
              have hs6 : wr.heap.size ≤ w5.heap.size := hK2.2.1.size
              have hl1 : l.length ≤ 1600 := by
                obtain ⟨e1, _, _, e4, e5, _⟩ := hX.out
                rw [e1]
                have h7 := htz.out
                have h8 : xs.length * tsz d ≤ 3 * tsz d := Nat.mul_le_mul_right _ (by omega)
                simp; omega
              have hl2 : l2.length ≤ 400 := by have := hx2.out.2.2.2.1; have := htz.out; omega
              clear hK2 hown hTk hSr
              go_wp2_with (at_builtin; refine wpList_copyR (enc := encTm) (m := 5) Tryd.underlying23 infoTm rfl (by decide) encTm_len encTm_one w5 rfl (.tmp 112) (.tmp 121) rfl w.heap.size _ l rfl hown2 w5.heap.size ao2 cap2 l2 rfl hT2 hnil2 ?_ ?_ hs5 ?_)
              · omega
              · unfold maxLen; omega
              intro l3 v3 w6 hl3 hown3 haw3 hb3 hat3 _
              obtain ⟨ao3, cap3, rfl, _, _, _, _, _⟩ := OwnsR.rAt encTm_len hown3
              have HK3 := HK2.out.fresh haw3 (fun b hb => by have := (OwnsR.lt hown2 b hb).1; omega)
              have hS6 : RAt encInt 1 w6 w6.heap.size (some ⟨wc.heap.size + 1, 0, none⟩) S := (HS5.out.away haw3 (Nat.le_refl _) (fun b o h hne => by
                simp at h
                exact hnb.out b hne.symm (by omega))).mono haw3.size
              obtain ⟨e1, e2, e3, e4, e5, e6, e7⟩ := hX.out
              obtain ⟨f1, f2, f3, f4, f5, f6⟩ := hx2.out
              go_wp2_with fail
              refine ⟨⟨k + 1, l3, ao3, cap3, xs ++ [x2], by go_num, rfl, hlt2, ⟨?_, ?_, ?_, ?_, ?_, ?_, ?_⟩, hown3, ?_, hS6, HK3⟩, by simp [intOf]; omega⟩
              · rw [hl3.out, e1, f1, flats_app]; simp [flats]
              · intro y hy
                rcases List.mem_append.1 hy with hy | hy
                · exact e2 y hy
                · rw [List.mem_singleton.1 hy]; exact f2
              · rw [depths_app]; simp [depths]; omega
              · simp; omega
              · rw [flats_app, List.length_append, List.length_append, Nat.add_mul]
                simp only [flats, List.append_nil, List.length_cons, List.length_nil]
                rw [← f1]; omega
              · intro t ht
                rw [hl3.out] at ht
                rcases List.mem_append.1 ht with ht | ht
                · exact e6 t ht
                · exact f5 t ht
              · rw [List.map_append, e7, Htk.out, List.map_append, List.map_singleton, f6]; rfl
              · intro b hb
                rcases hat3 with h | h
                · exact hnb.out b (by rw [← h]; exact hb)
                · rw [h] at hb
                  simp only [Option.some.injEq] at hb
                  omega
            · have hke : k = ar := by omega
              obtain ⟨e1, e2, e3, e4, e5, e6, e7⟩ := hX.out
              obtain ⟨ao, cap, heq, hr, hlo', hnil, hle, _⟩ := OwnsR.rAt encTm_len hown.out
              simp only [Value.slice.injEq, true_and] at heq
              obtain ⟨rfl, rfl⟩ := heq
              have h3 : xs.length ≤ 3 := by omega
              have Hfin := Lib.hid (show TyPost types 2 w B g (d + 1) (.returned (.slice ad l.length cp)) wr by
                refine ⟨ad, cp, l, Ex.node (opTm o1) xs, ⟨?_, ?_, ?_, ?_, e6, ?_⟩, rfl, hr, hnil, hlo', hle, hTk.out⟩
                · rw [Ex.flat_eq, node_head, node_args _ _ h3, e1]
                · rw [Ex.ok_iff, node_head, node_args _ _ h3]
                  exact ⟨opTm_ok ho3 ho18, by show arityI o1 = _; rw [Har.out]; omega, e2⟩
                · rw [Ex.depth_eq, node_args _ _ h3]; omega
                · rw [e1]
                  have h8 : xs.length * tsz d ≤ 3 * tsz d := Nat.mul_le_mul_right _ h3
                  simp only [List.length_cons, tsz]; omega
                · rw [Ex.fold_eq, node_head, node_args _ _ h3, e7, hke]
                  have hop : tyT types (opTm o1) ((S.take ar).map fun t => (t, 0)) = tyOp o1 ((S.take ar).map fun t => (t, 0)) := by
                    unfold tyT
                    rw [if_neg (by show o1 ≠ 1; omega), if_neg (by show o1 ≠ 2; omega)]; rfl
                  have hmm : ((S.take ar).map fun t => ((t, 0) : Int × Int)).map (·.1) = S.take ar := map_pair0 _
                  rw [hop, tyOp_ok' (by intro q hq; obtain ⟨t, _, rfl⟩ := List.mem_map.1 hq; rfl), hmm, Hty.out, if_neg (by decide)])
              have zk : decide (k < ar) = false := by simp; omega
              clear hown hlt e1 e2 e3 e4 e5 e6 e7 hr hlo' hnil hle hX hke
              go_wp2_with fail
              refine (HAr.out _).mono ?_
              rintro e wx ⟨rfl, rfl⟩
              go_wp2_with fail
              go_ret
              exact Hfin.out
end Go.Proofs.YtmikeifkmjhioaaDoor
