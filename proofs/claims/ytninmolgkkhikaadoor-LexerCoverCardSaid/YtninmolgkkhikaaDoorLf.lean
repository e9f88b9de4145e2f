/- Rows of tokens; Scan of package lexer. -/
import Derived.Test.YtninmolgkkhikaaDoorLe
namespace Go.Proofs.YtninmolgkkhikaaDoor
open Go.RowKit Go.Proofs.EB Go.Proofs.TX
set_option maxHeartbeats 1000000
attribute [local go_sem] World.cell?_alloc_some

def TCells (w : World) (b o : Nat) (t : Tok) : Prop :=
  w.cell? ⟨b, o, none⟩ = some (.int .i64 t.k) ∧ w.cell? ⟨b, o + 1, none⟩ = some (.string t.s) ∧ w.cell? ⟨b, o + 2, none⟩ = some (.int .i64 t.n) ∧ w.cell? ⟨b, o + 3, none⟩ = some (.int .i64 t.p)
/-- A slice that reads as a list of tokens. -/
def ToksAt (w : World) (B : Nat) (ao : Option Addr) (l : List Tok) : Prop :=
  l = [] ∨ ∃ b off, ao = some ⟨b, off, none⟩ ∧ b < B ∧ ∀ i (h : i < l.length), TCells w b (off + i * 4) l[i]
theorem TCells.below {B : Nat} {w w' : World} {b o : Nat} {t : Tok} (h : TCells w b o t) (hb : Below B w w') (hlt : b < B) : TCells w' b o t :=
  ⟨(hb.cell hlt).trans h.1, (hb.cell hlt).trans h.2.1, (hb.cell hlt).trans h.2.2.1, (hb.cell hlt).trans h.2.2.2⟩
theorem ToksAt.below {B : Nat} {w w' : World} {ao : Option Addr} {l : List Tok} (h : ToksAt w B ao l) (hb : Below B w w') : ToksAt w' B ao l := by
  rcases h with h0 | ⟨b, off, ha, hlt, hc⟩
  · exact .inl h0
  · exact .inr ⟨b, off, ha, hlt, fun i hi => (hc i hi).below hb hlt⟩
theorem ToksAt.mono {B B' : Nat} {w : World} {ao : Option Addr} {l : List Tok} (h : ToksAt w B ao l) (hB : B ≤ B') : ToksAt w B' ao l := by
  rcases h with h0 | ⟨b, off, ha, hlt, hc⟩
  · exact .inl h0
  · exact .inr ⟨b, off, ha, by omega, hc⟩
theorem ToksAt.at {B : Nat} {w : World} {ao : Option Addr} {l : List Tok} (h : ToksAt w B ao l) {i : Nat} (hi : i < l.length) :
    ∃ b off k s n p, ao = some ⟨b, off, none⟩ ∧ b < B ∧ l[i] = ⟨k, s, n, p⟩ ∧ w.cell? ⟨b, off + i * 4, none⟩ = some (.int .i64 k) ∧ w.cell? ⟨b, off + i * 4 + 1, none⟩ = some (.string s) ∧ w.cell? ⟨b, off + i * 4 + 2, none⟩ = some (.int .i64 n) ∧ w.cell? ⟨b, off + i * 4 + 3, none⟩ = some (.int .i64 p) := by
  rcases h with h0 | ⟨b, off, ha, hlt, hc⟩
  · subst h0; simp at hi
  · obtain ⟨c1, c2, c3, c4⟩ := hc i hi
    exact ⟨b, off, _, _, _, _, ha, hlt, rfl, c1, c2, c3, c4⟩
/-- The cells of a list of tokens, one after the other. -/
def tokCells (l : List Tok) : List Value := l.flatMap fun t => [.int .i64 t.k, .string t.s, .int .i64 t.n, .int .i64 t.p]
theorem tokCells_len (l : List Tok) : (tokCells l).length = l.length * 4 := by
  unfold tokCells
  induction l with
  | nil => rfl
  | cons a l ih => simp only [List.flatMap_cons, List.length_append, List.length_cons, List.length_nil, ih]; omega
theorem tokCells_snoc (l : List Tok) (t : Tok) : tokCells (l ++ [t]) = tokCells l ++ [.int .i64 t.k, .string t.s, .int .i64 t.n, .int .i64 t.p] := by simp [tokCells]
theorem tokCells_at : ∀ (l : List Tok) (i : Nat) (h : i < l.length), (tokCells l)[i * 4]? = some (.int .i64 l[i].k) ∧ (tokCells l)[i * 4 + 1]? = some (.string l[i].s) ∧ (tokCells l)[i * 4 + 2]? = some (.int .i64 l[i].n) ∧ (tokCells l)[i * 4 + 3]? = some (.int .i64 l[i].p)
  | v :: l, 0, _ => by simp [tokCells]
  | v :: l, i + 1, h => by
    have ih := tokCells_at l i (by simpa using h)
    have e : tokCells (v :: l) = [.int .i64 v.k, .string v.s, .int .i64 v.n, .int .i64 v.p] ++ tokCells l := by simp [tokCells]
    have e1 : (i + 1) * 4 = 4 + i * 4 := by omega
    rw [e, e1]
    have e2 : ∀ j, ([.int .i64 v.k, .string v.s, .int .i64 v.n, .int .i64 v.p] ++ tokCells l)[4 + i * 4 + j]? = (tokCells l)[i * 4 + j]? := fun j => by
      rw [List.getElem?_append_right (by simp; omega)]
      congr 1
      simp; omega
    have e3 := e2 0
    simp only [Nat.add_zero] at e3
    rw [e3, e2 1, e2 2, e2 3]
    simpa using ih
/-- An owned row of tokens. -/
def OwnsT (w : World) (B : Nat) (v : Value) (l : List Tok) : Prop := w.ownsRow B 50 4 v l.length (tokCells l)
theorem OwnsT.nil (w : World) (B : Nat) : OwnsT w B (.slice none 0 0) [] := World.ownsRow_nil _ _ _ _
theorem OwnsT.toksAt {w : World} {B : Nat} {v : Value} {l : List Tok} (h : OwnsT w B v l) : ∃ ao cap, v = .slice ao l.length cap ∧ ToksAt w w.heap.size ao l ∧ (∀ b o, ao = some ⟨b, o, none⟩ → B ≤ b) ∧ (ao = none → cap = 0) := by
  rcases h.2 with ⟨rfl, h0⟩ | ⟨g, cap, cur, rfl, hb, hg, hn, hm, hs, ht⟩
  · have : l = [] := List.eq_nil_of_length_eq_zero h0
    subst this
    exact ⟨none, 0, rfl, .inl rfl, fun _ _ h => by simp at h, fun _ => rfl⟩
  · refine ⟨_, _, rfl, .inr ⟨g, 0, rfl, (Array.getElem?_eq_some_iff.1 hg).1, fun i hi => ?_⟩, fun b o h => by simp at h; omega, fun h => by simp at h⟩
    obtain ⟨e0, e1, e2, e3⟩ := tokCells_at l i hi
    have c0 := World.ownsRow.cells h (g := g) rfl _ _ e0
    have c1 := World.ownsRow.cells h (g := g) rfl _ _ e1
    have c2 := World.ownsRow.cells h (g := g) rfl _ _ e2
    have c3 := World.ownsRow.cells h (g := g) rfl _ _ e3
    rw [Go.WideShapes.add_plain] at c0 c1 c2 c3
    exact ⟨c0, by simpa [Nat.add_assoc] using c1, by simpa [Nat.add_assoc] using c2, by simpa [Nat.add_assoc] using c3⟩
theorem infoT : (Tryd.prog.info? 50).map (fun i => (i.zero, i.size, i.bytes)) = some (some (.agg #[.int .i64 0, .string ⟨#[]⟩, .int .i64 0, .int .i64 0]), 4, 40) := by kernel_rfl
/-- What an append of one token leaves. -/
def AppT (w0 : World) (B : Nat) (v : Value) (l : List Tok) (K : Value → World → Prop) : Prop :=
  ∀ l' g' cap w', Hid (l' = l) → OwnsT w' B (.slice (some ⟨g', 0, none⟩) l'.length cap) l' → Away v.ownBlock w0 w' → Below B w0 w' → (v.ownBlock = some g' ∨ w0.heap.size ≤ g') → g' < w'.heap.size →
    K (.slice (some ⟨g', 0, none⟩) l'.length cap) w'
theorem wpList_appT (w w0 : World) {ops : Array Oper} {rest : List Oper} {o : Oper} {a : Act} {Q : Exit → Act → World → Prop} (hgd : o.guard = none) (s x : Operand)
    (ho : o.op = .call { callee := .builtin .append, args := #[s, x], argTypes := #[44, 44] })
    (B : Nat) (v : Value) (l : List Tok) (hs : a.eval s = v) (hown : OwnsT w0 B v l) (y : Tok) (c : Nat) (hx : a.eval x = .slice (some ⟨w0.heap.size, 0, none⟩) 1 c)
    (hw : w.heap = w0.heap.push (.cells #[.int .i64 y.k, .string y.s, .int .i64 y.n, .int .i64 y.p] 50)) (hw1 : w.os = w0.os) (hw2 : w.tape = w0.tape) (hw3 : w.output = w0.output)
    (hsz : l.length ≤ 1000000000) (hB : B ≤ w0.heap.size)
    (h : AppT w0 B v (l ++ [y]) fun v' w' => wpList Tryd.prog ops Q rest (a.put o.dst v') w') : wpList Tryd.prog ops Q (o :: rest) a w := by
  refine wpList_appendx Tryd.underlying44 infoT rfl (by decide) w w0 hgd s x ho B v l.length (tokCells l) hs hown 1 c #[.int .i64 y.k, .string y.s, .int .i64 y.n, .int .i64 y.p] hx hw hw1 hw2 hw3 rfl (by simp [Value.oneCell']) (by decide) (by omega) (by unfold maxLen; omega) hB ?_
  intro g' cap w' h1 h2 h3 h4 h5
  have e1 : l.length + 1 = (l ++ [y]).length := by simp
  rw [e1] at h1 ⊢
  exact h _ g' cap w' rfl (by unfold OwnsT; rw [tokCells_snoc]; exact h1) h2 h3 h4 h5

/-- What a scan gives. -/
def ScanPost (R : List Tok × Nat × Int) (w : World) (e : Ending) (w' : World) : Prop := Below w.heap.size w w' ∧ ∃ ao cap l n c, R = (l, n, c) ∧ e = .returned (.tuple #[.slice ao l.length cap, .int .i64 (n : Nat), .int .i64 c]) ∧ ToksAt w' w'.heap.size ao l ∧ (∀ b o, ao = some ⟨b, o, none⟩ → w.heap.size ≤ b) ∧ (ao = none → cap = 0)
theorem scanPost_nil {R : List Tok × Nat × Int} {w w' : World} {e : Ending} {n : Nat} {c : Int} (hb : Below w.heap.size w w') (hR : R = ([], n, c)) (he : e = .returned (.tuple #[.slice none 0 0, .int .i64 (n : Nat), .int .i64 c])) : ScanPost R w e w' :=
  ⟨hb, none, 0, [], n, c, hR, he, .inl rfl, fun _ _ h => by simp at h, fun _ => rfl⟩
theorem tk_call (s : ByteArray) (k : Nat) (hs : s.size ≤ 1000000) (h : k < s.size) (u : ByteArray) (hu : s.extract k s.size = u) (w : World) (hE : ErrV w) : Calls Tryd.prog 56 #[.string u] w (TkPost (tokAt (s.data.toList.drop k)) w) := by
  have hd : u.data.toList = s.data.toList.drop k := by rw [← hu]; exact extract_toList s k (by omega)
  rw [← hd]
  exact scanToken_any u w (by subst hu; simp; omega) (by subst hu; simp; omega) hE
theorem com_call (s : ByteArray) (k : Nat) (hs : s.size ≤ 1000000) (h : k < s.size) (u : ByteArray) (hu : s.extract k s.size = u) (w : World) : Calls Tryd.prog 51 #[.string u, .func (.func 55) #[] #[]] w fun e w' => e = .returned (.int .i64 (runC comC (s.data.toList.drop k) : Nat)) ∧ w' = w := by
  have hd : u.data.toList = s.data.toList.drop k := by rw [← hu]; exact extract_toList s k (by omega)
  rw [← hd]
  exact runCom_any u w (by subst hu; simp; omega)
/-- One byte of white space, in the walk's words. -/
theorem blank_cases {c : UInt8} (h : blankC c = true) : (((c.toNat : Int) == 32) = true) ∨ (((c.toNat : Int) == 32) = false ∧ ((c.toNat : Int) == 9) = true) ∨ (((c.toNat : Int) == 32) = false ∧ ((c.toNat : Int) == 9) = false ∧ ((c.toNat : Int) == 13) = true) ∨ (((c.toNat : Int) == 32) = false ∧ ((c.toNat : Int) == 9) = false ∧ ((c.toNat : Int) == 13) = false ∧ ((c.toNat : Int) == 10) = true) := by
  simp only [blankC, decide_eq_true_eq] at h
  simp only [beq_iff_eq, beq_eq_false_iff_ne, ne_eq]
  omega
theorem not_blank {c : UInt8} (h : blankC c = false) : ((c.toNat : Int) == 32) = false ∧ ((c.toNat : Int) == 9) = false ∧ ((c.toNat : Int) == 13) = false ∧ ((c.toNat : Int) == 10) = false := by
  simp only [blankC, decide_eq_false_iff_not] at h
  simp only [beq_eq_false_iff_ne, ne_eq]
  omega
theorem scan_any (s : ByteArray) (w : World) (hs : s.size ≤ 1000000) (hE : ErrV w) :
    Calls Tryd.prog 28 #[.string s] w (ScanPost (scanL s.data.toList) w) := by
  have hsl : s.data.toList.length = s.size := by simp
  obtain ⟨R, hR⟩ : ∃ R, R = scanL s.data.toList := ⟨_, rfl⟩
  rw [← hR]
  unfold scanL at hR
  rw [hsl] at hR
  by_cases hbig : 32768 < s.size
  · rw [if_pos hbig] at hR
    have HR := Lib.hid hR
    have z : decide ((32768 : Int) < (s.size : Int)) = true := by simp; omega
    clear hR hbig hE
    go_enter Tryd.func28, Tryd.ntmps28
    go_wp2_with fail
    refine bodyPost_ret (v := .tuple #[.slice none 0 0, .int .i64 0, .int .i64 8]) (by simp [results, Tryd.results28, go_sem]) rfl ?_
    exact scanPost_nil (n := 0) (Below.refl _ _) HR.out rfl
  · rw [if_neg hbig] at hR
    have hR' : R = scanF s.size (s.data.toList.drop 0) 0 [] := hR
    have HR := Lib.hid hR'
    have HE := Lib.hid hE
    have z : decide ((32768 : Int) < (s.size : Int)) = false := by simp; omega
    clear hR hR' hE hbig hsl
    go_enter Tryd.func28, Tryd.ntmps28
    go_wp2_with fail
    clear z
    go_loopw [5, 6] (fun v i wr => ∃ (k f : Nat) (l : List Tok) (ad : Option Addr) (cp : Nat), k ≤ s.size ∧ i = .int .i64 k ∧ v = .slice ad l.length cp ∧ s.size - k ≤ f ∧ Hid (R = scanF f (s.data.toList.drop k) k l) ∧ l.length ≤ 4096 ∧ OwnsT wr w.heap.size (.slice ad l.length cp) l ∧ Below w.heap.size w wr) (fun _ i _ => s.size - (intOf i).toNat)
    case atStart => exact ⟨0, s.size, [], none, 0, by omega, rfl, rfl, by omega, HR.out, by simp, OwnsT.nil _ _, Below.refl _ _⟩
    case round =>
      obtain ⟨k, f, l, ad, cp, hk, rfl, rfl, hf, hU, hl, hown, hb⟩ := hrel
      clear HR
      have hsz := hb.size
      by_cases hlt : k < s.size
      · obtain ⟨f, rfl⟩ : ∃ g, f = g + 1 := ⟨f - 1, by omega⟩
        have hdc := drop_cons hlt
        cases hbl : blankC s[k]
        · obtain ⟨z1, z2, z3, z4⟩ := not_blank hbl
          obtain ⟨u, hu⟩ : ∃ u, s.extract k s.size = u := ⟨_, rfl⟩
          by_cases h35 : s[k].toNat = 35
          · have z5 : ((s[k].toNat : Int) == 35) = true := by simp [h35]
            have hst : R = scanF f ((s.data.toList.drop k).drop (runC comC (s.data.toList.drop k))) (k + runC comC (s.data.toList.drop k)) l := by
              rw [hU.out, hdc, scanF_com _ _ _ _ _ h35]
            have hle := runC_le comC (s.data.toList.drop k)
            rw [List.length_drop] at hle
            have hsl : s.data.toList.length = s.size := by simp
            have hpos : 0 < runC comC (s.data.toList.drop k) := by rw [hdc, runC, if_pos (by unfold comC; simp; omega)]; omega
            have hC := com_call s k hs hlt u hu
            rw [List.drop_drop] at hst
            generalize runC comC (s.data.toList.drop k) = n at *
            have Hst := Lib.hid hst
            have HC := Lib.hid hC
            have hkn : k + n ≤ s.size := by omega
            clear hst hC h35 hdc hbl
            go_wp2_with fail
            refine (HC.out _).mono ?_
            rintro e w' ⟨rfl, rfl⟩
            go_wp2_with fail
            refine ⟨⟨k + n, f, l, _, _, by omega, by go_num, rfl, by omega, Hst.out, hl, hown, hb⟩, by simp [intOf]; omega⟩
          · have z5 : ((s[k].toNat : Int) == 35) = false := by rw [beq_eq_false_iff_ne]; omega
            have hT := tk_call s k hs hlt u hu
            cases htk : tokAt (s.data.toList.drop k) with
            | err c =>
              have hst : R = ([], k, c) := by rw [hU.out]; rw [hdc] at htk ⊢; exact scanF_err _ _ _ _ _ hbl h35 _ htk
              have hc := tokAt_err htk
              rw [htk] at hT
              have HT := Lib.hid hT
              have Hst := Lib.hid hst
              have y1 : ((c : Int) == 0) = false := by rw [beq_eq_false_iff_ne]; omega
              have y2 : ((c : Int) != 0) = true := by rw [bne_iff_ne]; omega
              clear hT hst hc htk h35 hdc hbl
              go_wp2_with fail
              refine (HT.out _ (err_below HE.out hb)).mono ?_
              rintro e w1 ⟨hb1, rfl⟩
              have hb2 := hb.trans (hb1.mono hsz)
              have hs2 := hb2.size
              clear hb1
              go_wp2_with fail
              refine bodyPost_ret (v := .tuple #[.slice none 0 0, .int .i64 k, .int .i64 c]) (by simp [results, Tryd.results28, go_sem]) rfl ?_
              exact scanPost_nil (hb2.alloc hs2 _) Hst.out rfl
            | ok t n =>
              obtain ⟨hn0, hn1⟩ := tokAt_size htk
              rw [List.length_drop] at hn1
              have hsl : s.data.toList.length = s.size := by simp
              have hkn : k + n ≤ s.size := by omega
              rw [htk] at hT
              obtain ⟨tk, ts, tn⟩ := t
              have HT := Lib.hid hT
              by_cases hfull : l.length = 4096
              · have hst : R = ([], k, 8) := by rw [hU.out]; rw [hdc] at htk ⊢; exact scanF_full _ _ _ _ _ hbl h35 _ _ htk hfull
                have Hst := Lib.hid hst
                have y1 : ((l.length : Int) == 4096) = true := by simp; omega
                clear hT hst htk h35 hdc hbl hfull
                go_wp2_with fail
                refine (HT.out _ (err_below HE.out hb)).mono ?_
                rintro e w1 ⟨hb1, rfl⟩
                have hb2 := hb.trans (hb1.mono hsz)
                have hs2 := hb2.size
                clear hb1
                go_wp2_with fail
                refine bodyPost_ret (v := .tuple #[.slice none 0 0, .int .i64 k, .int .i64 8]) (by simp [results, Tryd.results28, go_sem]) rfl ?_
                exact scanPost_nil (hb2.alloc hs2 _) Hst.out rfl
              · have hst : R = scanF f ((s.data.toList.drop k).drop n) (k + n) (l ++ [⟨tk, ⟨ts.toArray⟩, tn, k⟩]) := by rw [hU.out]; rw [hdc] at htk ⊢; exact scanF_tok _ _ _ _ _ hbl h35 _ _ htk hfull
                rw [List.drop_drop] at hst
                have y1 : ((l.length : Int) == 4096) = false := by rw [beq_eq_false_iff_ne]; omega
                have hl2 : l.length < 4096 := by omega
                have hT2 : ∀ w, ErrV w → Calls Tryd.prog 56 #[.string u] w fun e w' => e = .returned (.tuple #[.agg #[.int .i64 tk, .string ⟨ts.toArray⟩, .int .i64 tn, .int .i64 0], .int .i64 (n : Nat), .int .i64 0]) ∧ Below w.heap.size w w' := fun w h => (hT w h).mono fun _ _ hp => ⟨hp.2, hp.1⟩
                clear HT
                have HT := Lib.hid hT2
                clear hT2
                generalize (⟨ts.toArray⟩ : ByteArray) = tu at *
                have Hst := Lib.hid hst
                have Hf := Lib.hid hf
                clear hT hst htk h35 hdc hbl hfull hn1 hsl hf
                go_wp2_with fail
                refine (HT.out _ (err_below HE.out hb)).mono ?_
                rintro e w1 ⟨rfl, hb1⟩
                have hb2 := hb.trans (hb1.mono hsz)
                have hs2 := hb2.size
                have haw : Away none wr (w1.alloc (.cells #[.int .i64 tk, .string tu, .int .i64 tn, .int .i64 (k : Int)] 50)) := away_weak (hb1.alloc hb1.size _)
                have hown2 : OwnsT (w1.alloc (.cells #[.int .i64 tk, .string tu, .int .i64 tn, .int .i64 (k : Int)] 50)) w.heap.size (.slice ad l.length cp) l := haw.owns hown (by cases (Value.slice ad l.length cp).ownBlock <;> simp)
                have hb3 : Below w.heap.size w (w1.alloc (.cells #[.int .i64 tk, .string tu, .int .i64 tn, .int .i64 (k : Int)] 50)) := hb2.alloc hs2 _
                have hsz2 : w.heap.size ≤ (w1.alloc (.cells #[.int .i64 tk, .string tu, .int .i64 tn, .int .i64 (k : Int)] 50)).heap.size := hb3.size
                clear hb1
                go_wp2_with (at_builtin; refine wpList_appT _ (w1.alloc (.cells #[.int .i64 tk, .string tu, .int .i64 tn, .int .i64 (k : Int)] 50)) rfl (.tmp 41) (.tmp 43) rfl w.heap.size (.slice ad l.length cp) l rfl hown2 ⟨tk, tu, tn, k⟩ 1 (by simp [go_sem]) rfl rfl rfl rfl (by omega) hsz2 ?_; intro l3 g3 cap3 w3 hl3 hown3 haw3 hb4 hat3 hlt3)
                refine ⟨⟨k + n, f, l3, _, _, by omega, by go_num, rfl, by have := Hf.out; omega, ?_, ?_, hown3, hb3.trans hb4⟩, by simp [intOf]; omega⟩
                · unfold Hid; rw [hl3.out]; exact Hst.out
                · rw [hl3.out]; simp; omega
        · have hst : R = scanF f (s.data.toList.drop (k + 1)) (k + 1) l := by rw [hU.out, hdc]; exact scanF_blank _ _ _ _ _ hbl
          have Hst := Lib.hid hst
          have hz := blank_cases hbl
          clear hst hdc hbl
          rcases hz with z1 | ⟨z1, z2⟩ | ⟨z1, z2, z3⟩ | ⟨z1, z2, z3, z4⟩
          all_goals
            go_wp2_with fail
            exact ⟨⟨k + 1, f, l, _, _, by omega, by go_num, rfl, by omega, Hst.out, hl, hown, hb⟩, by simp [intOf]; omega⟩
      · have hfin : Hid (R = (l, 0, 0)) := by unfold Hid; rw [hU.out, drop_all (by omega), scanF_nil]
        obtain ⟨ao, cap, hsl2, hrow, hlo, hnil⟩ := hown.toksAt
        obtain ⟨rfl, _, rfl⟩ : ad = ao ∧ True ∧ cp = cap := by simpa using hsl2
        go_wp2_with fail
        refine bodyPost_ret (v := .tuple #[.slice ad l.length cp, .int .i64 0, .int .i64 0]) (by simp [results, Tryd.results28, go_sem]) rfl ?_
        exact ⟨hb, ad, cp, l, 0, 0, hfin.out, rfl, hrow, hlo, hnil⟩
end Go.Proofs.YtninmolgkkhikaaDoor
