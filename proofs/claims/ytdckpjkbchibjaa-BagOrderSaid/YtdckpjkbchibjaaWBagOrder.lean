/- The walk of the law BagOrder. -/
import Derived.Test.YtdckpjkbchibjaaWBagGroup
import Derived.Test.YtdckpjkbchibjaaGb
namespace Go.Proofs.Ytdckpjkbchibjaa
open Go.RowKit Go.Proofs.EB
set_option maxHeartbeats 8000000
set_option maxRecDepth 100000
attribute [local go_sem] World.cell?_alloc_some

theorem cnt_ins (a b : List En) (e : En) (r : List V) : cnt (a ++ [e] ++ b) r = cnt (a ++ b) r + (if cmpRows e.1 r = 0 then e.2 else 0) := by
  rw [cnt_app, cnt_app, cnt_app]
  simp only [cnt]
  omega
theorem cnt_snoc (a : List En) (e : En) (r : List V) : cnt (a ++ [e]) r = cnt a r + (if cmpRows e.1 r = 0 then e.2 else 0) := by
  rw [cnt_app]
  simp only [cnt]
  omega
/-- What the list that is built has of the entries so far. -/
structure InsOk (lx ly : List Be) (i : Nat) : Prop where
  len : ly.length = i
  mem : ∀ x ∈ ly, x ∈ lx
  mult : ∀ r, cnt (ens ly) r = cnt (ens (lx.take i)) r
theorem InsOk.step {lx ly : List Be} {i k : Nat} (h : InsOk lx ly i) (hi : i < lx.length) (_hk : k ≤ ly.length) : InsOk lx (ly.take k ++ [lx[i]] ++ ly.drop k) (i + 1) := by
  refine ⟨?_, fun x hx => ?_, fun r => ?_⟩
  · have := h.len
    simp only [List.length_append, List.length_take, List.length_drop, List.length_singleton]
    omega
  · rcases List.mem_append.1 hx with hx | hx
    · rcases List.mem_append.1 hx with hx | hx
      · exact h.mem x (List.mem_of_mem_take hx)
      · rw [List.mem_singleton] at hx; subst hx; exact List.getElem_mem hi
    · exact h.mem x (List.mem_of_mem_drop hx)
  · have h1 := h.mult r
    rw [List.take_succ_eq_append_getElem hi, ens_app, ens_app, ens_app]
    show cnt (ens (ly.take k) ++ [lx[i].en] ++ ens (ly.drop k)) r = cnt (ens (lx.take i) ++ [lx[i].en]) r
    rw [cnt_ins, cnt_snoc, ← h1, ← ens_app, List.take_append_drop]
/-- Entries of the tape, in memory and plain. -/
theorem norm_ok {l : List En} (ha : l.all enB = true) (hl : l.length ≤ 1000) (hc : Cap 3 l) : normR l = (bagOf l, 0) ∧ bagB (bagOf l) = true := by
  have hcb := bagOf_cap (by decide) hc
  have hlb := bagOf_len l
  have hcm : Cap 262144 (bagOf l) := cap_mono hcb (by omega)
  constructor
  · unfold normR
    rw [if_pos ha]
    exact fits_ok (by omega) hcm
  · refine is_bagB (bagOf_is (enB_vr ha)) ?_ (by omega)
    rw [List.all_eq_true]
    intro e he
    unfold enB
    have hrow : ∀ e ∈ bagOf l, rowB e.1 = true := bagOf_rows (p := fun r => rowB r = true) fun e he => by
      have := List.all_eq_true.1 ha e he
      unfold enB at this
      rw [Bool.and_eq_true] at this
      exact this.1
    rw [hrow e he, (mulB_iff _).2 (hcm e he)]; rfl
theorem norm_self {l : List En} (h : bagB l = true) : normR l = (l, 0) := by
  unfold normR
  rw [if_pos (bagB_is h).2.1, bagOf_self (bagB_is h).1]
  exact fits_ok (bagB_is h).2.2 (bagB_cap h)
theorem ins_all {lx ly : List Be} {i : Nat} (h : InsOk lx ly i) (ha : (ens lx).all enB = true) (hc : Cap 3 (ens lx)) : (ens ly).all enB = true ∧ Cap 3 (ens ly) := by
  have hm : ∀ e ∈ ens ly, e ∈ ens lx := fun e he => by
    unfold ens at he ⊢
    obtain ⟨x, hx, rfl⟩ := List.mem_map.1 he
    exact List.mem_map_of_mem (h.mem x hx)
  exact ⟨List.all_eq_true.2 fun e he => List.all_eq_true.1 ha e (hm e he), fun e he => hc e (hm e he)⟩
def EB0 : Obj := .cells #[] 34
theorem ent_empty (w : World) (B : Nat) (hB : B ≤ w.heap.size) : OwnsR encBe 2 (w.alloc (.cells #[] 34)) B 34 (.slice (some ⟨w.heap.size, 0, none⟩) 0 0) [] :=
  ownsR_new (l := []) encBe_len (heap_alloc_new w _) hB rfl (by simp)
theorem ent_one (w : World) (x : Be) : RAt encBe 2 (w.alloc (.cells #[.slice x.r.ao x.r.l.length x.r.cap, .int .i64 x.n] 34)) (w.alloc (.cells #[.slice x.r.ao x.r.l.length x.r.cap, .int .i64 x.n] 34)).heap.size (some ⟨w.heap.size, 0, none⟩) [x] := by
  have ho : OwnsR encBe 2 (w.alloc (.cells #[.slice x.r.ao x.r.l.length x.r.cap, .int .i64 x.n] 34)) w.heap.size 34 (.slice (some ⟨w.heap.size, 0, none⟩) [x].length 1) [x] := ownsR_new (l := [x]) encBe_len (heap_alloc_new w _) (Nat.le_refl _) rfl (by simp [maxLen])
  obtain ⟨ao, cap, e, hr, _⟩ := OwnsR.rAt encBe_len ho
  simp only [Value.slice.injEq] at e
  obtain ⟨rfl, _, _⟩ := e
  exact hr
theorem ent_keepA {w w2 : World} {x : Be} (h : Away (some w.heap.size) (((w.alloc (.cells #[] 34)).alloc (.cells #[.slice x.r.ao x.r.l.length x.r.cap, .int .i64 x.n] 34)).drew) w2) : RAt encBe 2 w2 (w.heap.size + 2) (some ⟨w.heap.size + 1, 0, none⟩) [x] := by
  have hN := (ent_one (w.alloc (.cells #[] 34)) x).mono (B' := w.heap.size + 2) (by simp)
  rw [show (w.alloc (.cells #[] 34)).heap.size = w.heap.size + 1 by simp] at hN
  refine RAt.away (w := ((w.alloc (.cells #[] 34)).alloc (.cells #[.slice x.r.ao x.r.l.length x.r.cap, .int .i64 x.n] 34)).drew) (by exact hN) h (by show w.heap.size + 2 ≤ ((w.alloc (.cells #[] 34)).alloc (.cells #[.slice x.r.ao x.r.l.length x.r.cap, .int .i64 x.n] 34)).heap.size; simp) ?_
  intro b o e
  simp only [Option.some.injEq, Addr.mk.injEq] at e
  obtain ⟨rfl, _, _⟩ := e
  simp
theorem ent_keepB {w w2 : World} {x : Be} (h : Away (some (w.heap.size + 1)) (((w.alloc (.cells #[.slice x.r.ao x.r.l.length x.r.cap, .int .i64 x.n] 34)).alloc (.cells #[] 34)).drew) w2) : RAt encBe 2 w2 (w.heap.size + 2) (some ⟨w.heap.size, 0, none⟩) [x] := by
  have hN := ((ent_one w x).later (below1 _ (.cells #[] 34))).mono (B' := w.heap.size + 2) (by simp)
  refine RAt.away (w := ((w.alloc (.cells #[.slice x.r.ao x.r.l.length x.r.cap, .int .i64 x.n] 34)).alloc (.cells #[] 34)).drew) (by exact hN) h (by show w.heap.size + 2 ≤ ((w.alloc (.cells #[.slice x.r.ao x.r.l.length x.r.cap, .int .i64 x.n] 34)).alloc (.cells #[] 34)).heap.size; simp) ?_
  intro b o e
  simp only [Option.some.injEq, Addr.mk.injEq] at e
  obtain ⟨rfl, _, _⟩ := e
  simp
theorem W_BagOrder (ao : Option Addr) (len cap : Nat) (zs : List Int) (w : World) (h : IntsAt w ao len cap zs) :
    Calls Try.prog 6 #[.slice ao len cap] w fun e w' => e = .returned (.bool true) ∧ Below w.heap.size w w' := by
  go_enter Try.func6, Try.ntmps6
  go_wp2_with fail
  refine (new_any _ _ _ _ _ h).mono ?_
  rintro e w1 ⟨g, rfl, hg, hT, hb1⟩
  have hgB : g < w1.heap.size := by obtain ⟨_, _, _, _, _, _, _, hg, _⟩ := hT; exact hg
  have Hb1 := Lib.hid hb1
  obtain ⟨B, hBd, hK, hgB⟩ : ∃ B, B = w1.heap.size ∧ Took w1 B g w1 ∧ g < B := ⟨_, rfl, ⟨hT, away_refl _ _, Nat.le_refl _⟩, hgB⟩
  have HK := Lib.hid hK
  have HBd := Lib.hid hBd
  clear hK hT h hBd hb1
  go_wp2_with fail
  refine (entries_any B g 2 10 _ (by decide) (by decide) HK.out.1 HK.out.2.2).mono ?_
  rintro e w2 ⟨v, lx, rfl, hln, hown, hTk, hE⟩
  obtain ⟨ax, cx, rfl, _, _, _, _⟩ := own_slice hown
  have Sx := Lib.hid (ents_bag (by decide) hown hE.out)
  have Ax := Lib.hid (show Apart g ⟨ax, cx, lx⟩ from ⟨.inr fun b o e => by
    subst e
    obtain ⟨_, _, e', _, hf, _⟩ := OwnsR.rAt encBe_len hown
    simp only [Value.slice.injEq] at e'
    have := (hf b o e'.1.symm).1; have := HBd.out; omega, fun x hx => .inr fun b o e => by have := ((hE.out x hx).2.2.2.2 b o e).1; have := HBd.out; omega⟩)
  have hall := Lib.hid (ents_all (by decide) (by decide) hE.out)
  replace HK := Lib.hid (HK.out.trans hTk)
  clear hown hTk hE
  go_wp2_with fail
  go_loopw [5, 6] (fun y i wr => ∃ (k : Nat) (ay : Option Addr) (cy : Nat) (ly : List Be), k ≤ lx.length ∧ i = .int .i64 k ∧ y = .slice ay ly.length cy ∧ ly.length ≤ 10 ∧ Hid (InsOk lx ly k ∧ Took w1 B g wr ∧ Took w2 B g wr ∧ RAt encBe 2 wr wr.heap.size ay ly ∧ (ay = none → cy = 0) ∧ ly.length ≤ cy ∧ (∀ b o, ay = some ⟨b, o, none⟩ → b ≠ g) ∧ (ly = [] → ay = none))) (fun _ i _ => lx.length - (intOf i).toNat)
  case atStart => exact ⟨0, none, 0, [], Nat.zero_le _, rfl, rfl, by simp, ⟨rfl, fun x hx => by simp at hx, fun r => by simp [ens]⟩, HK.out, ⟨HK.out.1, away_refl _ _, HK.out.2.2⟩, .inl rfl, fun _ => rfl, Nat.le_refl _, (fun b o e => by simp at e), fun _ => rfl⟩
  case round =>
    obtain ⟨i, ay, cy, ly, hi, rfl, rfl, hl10, hP⟩ := hrel
    obtain ⟨pI, pK, pT, pR, pn, pc, pg, pe⟩ := hP.out
    have PI := Lib.hid pI
    have PT := Lib.hid pT
    have HK := Lib.hid pK
    have PR := Lib.hid pR
    have PG := Lib.hid pg
    clear pI pK pT pR pg hP
    by_cases hlt : i < lx.length
    · have q0 : (i : Int) < (lx.length : Int) := by omega
      have q1 : (0 : Int) ≤ (i : Int) := by omega
      go_wp2_with fail
      refine (next_any B g ((ly.length : Int) + 1) _ (by omega) (by omega) HK.out.1 HK.out.2.2).mono ?_
      rintro e w3 ⟨r, rfl, hr0, hr1, hK⟩
      obtain ⟨k, rfl⟩ : ∃ k : Nat, r = (k : Int) := ⟨r.toNat, by omega⟩
      have hk : k ≤ ly.length := by omega
      have HT3 := Lib.hid (PT.out.trans hK)
      have HK3 := Lib.hid (HK.out.trans hK)
      have S3 := Lib.hid (BagS.took Sx.out Ax.out HT3.out)
      have R3 := Lib.hid ((PR.out.away hK.2.1 (Nat.le_refl _) (fun b o e => by have := PG.out b o e; simpa using this)).mono hK.2.1.size)
      obtain ⟨bx, ox, hax, _⟩ := S3.out.row.form (by show 0 < lx.length; omega)
      dsimp only at hax
      subst hax
      obtain ⟨c0, c1⟩ := be_cells S3.out.row hlt
      have hSt := PI.out.step hlt hk
      have hC := fun (W : World) (hb : Below w3.heap.size w3 W) => be_cells (S3.out.row.below hb) hlt
      generalize lx[i] = x at *
      have HC := Lib.hid hC
      clear hC
      have HSt := Lib.hid hSt
      have hbl := World.block_lt_of_cell? w3 _ c0
      dsimp only at hbl
      have hgz : g < w3.heap.size := by have := HK3.out.2.2; omega
      clear hK hSt hr0 hr1 PR
      cases ay with
      | none =>
        have hl0 : ly = [] := by
          have h0 := pc
          rw [pn rfl] at h0
          exact List.eq_nil_of_length_eq_zero (by omega)
        subst hl0
        have hc0 := pn rfl
        subst hc0
        have hk0 : k = 0 := by simpa using hk
        subst hk0
        have hE1 := ent_empty w3 w3.heap.size (Nat.le_refl _)
        have hEA : OwnsR encBe 2 ((w3.alloc (.cells #[] 34)).alloc (.cells #[.slice x.r.ao x.r.l.length x.r.cap, .int .i64 x.n] 34)) w3.heap.size 34 (.slice (some ⟨w3.heap.size, 0, none⟩) 0 0) [] := OwnsR.below hE1 (below1 _ _)
        have hNA := (ent_one (w3.alloc (.cells #[] 34)) x).mono (B' := w3.heap.size + 2) (by simp)
        have hEB := ent_empty (w3.alloc (.cells #[.slice x.r.ao x.r.l.length x.r.cap, .int .i64 x.n] 34)) w3.heap.size (by simp)
        have hNB := ((ent_one w3 x).later (below1 _ (.cells #[] 34))).mono (B' := w3.heap.size + 2) (by simp)
        rw [show (w3.alloc (.cells #[] 34)).heap.size = w3.heap.size + 1 by simp] at hNA
        rw [show (w3.alloc (.cells #[.slice x.r.ao x.r.l.length x.r.cap, .int .i64 x.n] 34)).heap.size = w3.heap.size + 1 by simp] at hEB
        have hb1 := below1 w3 (.cells #[] 34)
        have hbA : Below w3.heap.size w3 ((w3.alloc (.cells #[] 34)).alloc (.cells #[.slice x.r.ao x.r.l.length x.r.cap, .int .i64 x.n] 34)) := belowT (below1 _ _) (below1 _ _)
        have hbB : Below w3.heap.size w3 ((w3.alloc (.cells #[.slice x.r.ao x.r.l.length x.r.cap, .int .i64 x.n] 34)).alloc (.cells #[] 34)) := belowT (below1 _ _) (below1 _ _)
        go_wp2_with fail
        go_region_law ((with_reducible refine at_slot 39 ?_); refine step_copyR Try.underlying23 infoE rfl (by decide) encBe_len encBe_one _ rfl (.tmp 33) (.tmp 38) rfl w3.heap.size _ [] rfl (by first | exact hEA | exact hEB) (w3.heap.size + 2) _ 1 [x] rfl (by first | exact hNA | exact hNB) (by simp) (by simp [maxLen]) (by simp <;> omega) ?_; intro l3 v3 w4 hl3 hown3 haw3 hb3 hat3; have HB4 : Below w3.heap.size w3 w4 := (by first | exact hbA.trans hb3 | exact hbB.trans hb3 | exact hbA.drew.trans hb3 | exact hbB.drew.trans hb3); obtain ⟨ao3, cap3, rfl, hr3, hf3, hn3, hc3, _⟩ := OwnsR.rAt encBe_len hown3; have e3 : l3 = [x] := hl3.out; subst e3; obtain ⟨b3, o3, rfl, _⟩ := hr3.form (by simp); have hc4 : 1 ≤ cap3 := hc3)
        all_goals
          go_wp2_with fail
          go_roundw
          case rel =>
            have hst := HSt.out
            simp only [List.take_nil, List.drop_nil, List.nil_append, List.append_nil] at hst
            have h3z := HB4.size
            refine ⟨i + 1, _, cap3, [x], by omega, by go_num, rfl, by simp, hst, by first | exact HK3.out.below HB4 | exact (HK3.out.below HB4).below (Below.refl _ _).drew, by first | exact HT3.out.below HB4 | exact (HT3.out.below HB4).below (Below.refl _ _).drew, by first | exact hr3 | exact hr3.later (Below.refl _ _), fun e => by simp at e, hc4, fun b o e => ?_, fun e => by simp at e⟩
            have := (hf3 b o e).1
            omega
          case measure => simp [intOf]; omega
      | some ad =>
        have hne : ly ≠ [] := fun e => by simpa using pe e
        have hpos : 0 < ly.length := List.length_pos_iff.2 hne
        obtain ⟨b, off, had, _⟩ := R3.out.form hpos
        simp only [Option.some.injEq] at had
        subst had
        obtain ⟨p, hp⟩ : ∃ p, p = ly.take k := ⟨_, rfl⟩
        obtain ⟨q, hq⟩ : ∃ q, q = ly.drop k := ⟨_, rfl⟩
        have hpl : p.length = k := by rw [hp, List.length_take]; omega
        have hql : ly.length = k + q.length := by rw [hq, List.length_drop]; omega
        have hRp : RAt encBe 2 w3 w3.heap.size (some ⟨b, off, none⟩) p := by rw [hp]; exact R3.out.take k
        have hRq : RAt encBe 2 w3 w3.heap.size (some ⟨b, off + k * 2, none⟩) q := by rw [hq]; exact R3.out.drop k
        have Hpq := Lib.hid (show p ++ [x] ++ q = ly.take k ++ [x] ++ ly.drop k by rw [hp, hq])
        have HpI := Lib.hid (PI.out.len)
        have Rq := Lib.hid hRq
        obtain ⟨M, hM⟩ : ∃ M, M = ly.length := ⟨_, rfl⟩
        rw [← hM] at hql hl10 hk pc hpos ⊢
        have HM := Lib.hid hM
        clear hM
        clear hp hq hRq
        subst hpl
        subst hql
        have hp10 : p.length ≤ 10 := by omega
        have hq10 : q.length ≤ 10 := by omega
        have hE1 := ent_empty w3 w3.heap.size (Nat.le_refl _)
        have hEA : OwnsR encBe 2 ((w3.alloc (.cells #[] 34)).alloc (.cells #[.slice x.r.ao x.r.l.length x.r.cap, .int .i64 x.n] 34)) w3.heap.size 34 (.slice (some ⟨w3.heap.size, 0, none⟩) 0 0) [] := OwnsR.below hE1 (below1 _ _)
        have hNA := (ent_one (w3.alloc (.cells #[] 34)) x).mono (B' := w3.heap.size + 2) (by simp)
        have hEB := ent_empty (w3.alloc (.cells #[.slice x.r.ao x.r.l.length x.r.cap, .int .i64 x.n] 34)) w3.heap.size (by simp)
        have hNB := ((ent_one w3 x).later (below1 _ (.cells #[] 34))).mono (B' := w3.heap.size + 2) (by simp)
        rw [show (w3.alloc (.cells #[] 34)).heap.size = w3.heap.size + 1 by simp] at hNA
        rw [show (w3.alloc (.cells #[.slice x.r.ao x.r.l.length x.r.cap, .int .i64 x.n] 34)).heap.size = w3.heap.size + 1 by simp] at hEB
        have hb1 := below1 w3 (.cells #[] 34)
        have hbA : Below w3.heap.size w3 ((w3.alloc (.cells #[] 34)).alloc (.cells #[.slice x.r.ao x.r.l.length x.r.cap, .int .i64 x.n] 34)) := belowT (below1 _ _) (below1 _ _)
        have hbB : Below w3.heap.size w3 ((w3.alloc (.cells #[.slice x.r.ao x.r.l.length x.r.cap, .int .i64 x.n] 34)).alloc (.cells #[] 34)) := belowT (below1 _ _) (below1 _ _)
        have Rp1 := hRp.below hb1
        have RpA := hRp.below hbA
        have RpB := hRp.below hbB
        have hkc : p.length ≤ cy := by omega
        have hle : (p.length : Int) ≤ (p.length : Int) + (q.length : Int) := by omega
        by_cases hcc : cy = p.length
        · have hq0 : q = [] := List.eq_nil_of_length_eq_zero (by omega)
          have Hq0 := Lib.hid hq0
          clear hq0
          have hcc' := hcc
          clear hcc
          obtain rfl : cy = p.length := hcc'
          go_wp2_with fail
          go_region_law (first
            | ((with_reducible refine at_slot 33 ?_); refine step_copyR Try.underlying23 infoE rfl (by decide) encBe_len encBe_one _ rfl (.tmp 29) (.tmp 32) rfl w3.heap.size _ [] rfl (by first | exact hE1 | exact hEA | exact hEB) w3.heap.size ⟨b, off, none⟩ _ p rfl (by first | exact Rp1 | exact RpA | exact RpB) (by simp; omega) (by simp [maxLen]; omega) (by simp <;> omega) ?_; intro l2 v2 w4 hl2 hown2 haw2 hb2 hat2; have e2 : l2 = p := hl2.out; subst e2; have hB2 : Below w3.heap.size w3 w4 := (by first | exact hb1.trans hb2 | exact hb1.drew.trans hb2 | exact hbA.trans hb2 | exact hbA.drew.trans hb2 | exact hbB.trans hb2 | exact hbB.drew.trans hb2); have hs2 := hB2.size; obtain ⟨c0, c1⟩ := HC.out w4 hB2; have hown2' := OwnsR.below hown2 (below1 w4 (.cells #[.slice x.r.ao x.r.l.length x.r.cap, .int .i64 x.n] 34)); have hN2' := ent_one w4 x; have hB2' := hB2.trans ((below1 w4 (.cells #[.slice x.r.ao x.r.l.length x.r.cap, .int .i64 x.n] 34)).mono hs2); have hs2' := hB2'.size; (first | (have hN2 := ent_keepA haw2) | (have hN2 := ent_keepB haw2) | (have hN2 := hN2')))
            | ((with_reducible refine at_slot 39 ?_); refine step_copyR Try.underlying23 infoE rfl (by decide) encBe_len encBe_one _ rfl (.tmp 33) (.tmp 38) rfl w3.heap.size v2 l2 rfl (by first | exact hown2 | exact hown2') _ _ _ [x] rfl (by first | exact hN2' | exact hN2) (by simp; omega) (by simp [maxLen]; omega) (by first | exact hs2 | exact hs2') ?_; intro l3 v3 w5 hl3 hown3 haw3 hb3 hat3; have hB3 : Below w3.heap.size w3 w5 := (by first | exact hB2.trans hb3 | exact hB2'.trans hb3); have hs3 := hB3.size)
            | ((with_reducible refine at_slot 43 ?_); refine step_copyR Try.underlying23 infoE rfl (by decide) encBe_len encBe_one _ rfl (.tmp 39) (.tmp 42) rfl w3.heap.size v3 l3 rfl hown3 w3.heap.size _ _ ([] : List Be) rfl (.inl rfl) (by rw [hl3.out]; simp <;> omega) (by rw [hl3.out]; simp [maxLen] <;> omega) hs3 ?_; intro l4 v4 w6 hl4 hown4 haw4 hb4 hat4; have hB4 := hB3.trans hb4))
          all_goals
            obtain ⟨ao4, cap4, rfl, hr4, hf4, hn4, hc4, _⟩ := OwnsR.rAt encBe_len hown4
            have e4 : l4 = l2 ++ [x] ++ q := by rw [hl4.out, hl3.out, Hq0.out]
            obtain ⟨b4, o4, rfl, _⟩ := hr4.form (by rw [e4]; simp <;> omega)
            go_wp2_with fail
            go_roundw
            case rel =>
              have h4z := hB4.size
              have hl4' : l4.length ≤ 10 := by have := HSt.out.len; rw [← Hpq.out, ← e4] at this; omega
              refine ⟨i + 1, _, cap4, l4, by omega, by go_num, by congr 1; rw [e4, Hq0.out]; simp only [List.length_append, List.length_singleton, List.length_nil], hl4', by rw [e4, Hpq.out]; exact HSt.out, by first | exact HK3.out.below hB4 | exact (HK3.out.below hB4).below (Below.refl _ _).drew, by first | exact HT3.out.below hB4 | exact (HT3.out.below hB4).below (Below.refl _ _).drew, by first | exact hr4 | exact hr4.later (Below.refl _ _), fun e => by simp at e, hc4, fun b o e => ?_, fun e => by rw [e4] at e; simp at e⟩
              have := (hf4 b o e).1
              omega
            case measure => simp [intOf]; omega
        · have hcc2 : p.length < cy := by omega
          go_wp2_with fail
          go_region_law (first
            | ((with_reducible refine at_slot 33 ?_); refine step_copyR Try.underlying23 infoE rfl (by decide) encBe_len encBe_one _ rfl (.tmp 29) (.tmp 32) rfl w3.heap.size _ [] rfl (by first | exact hE1 | exact hEA | exact hEB) w3.heap.size ⟨b, off, none⟩ _ p rfl (by first | exact Rp1 | exact RpA | exact RpB) (by simp; omega) (by simp [maxLen]; omega) (by simp <;> omega) ?_; intro l2 v2 w4 hl2 hown2 haw2 hb2 hat2; have e2 : l2 = p := hl2.out; subst e2; have hB2 : Below w3.heap.size w3 w4 := (by first | exact hb1.trans hb2 | exact hb1.drew.trans hb2 | exact hbA.trans hb2 | exact hbA.drew.trans hb2 | exact hbB.trans hb2 | exact hbB.drew.trans hb2); have hs2 := hB2.size; obtain ⟨c0, c1⟩ := HC.out w4 hB2; have hown2' := OwnsR.below hown2 (below1 w4 (.cells #[.slice x.r.ao x.r.l.length x.r.cap, .int .i64 x.n] 34)); have hN2' := ent_one w4 x; have hB2' := hB2.trans ((below1 w4 (.cells #[.slice x.r.ao x.r.l.length x.r.cap, .int .i64 x.n] 34)).mono hs2); have hs2' := hB2'.size; (first | (have hN2 := ent_keepA haw2) | (have hN2 := ent_keepB haw2) | (have hN2 := hN2')))
            | ((with_reducible refine at_slot 39 ?_); refine step_copyR Try.underlying23 infoE rfl (by decide) encBe_len encBe_one _ rfl (.tmp 33) (.tmp 38) rfl w3.heap.size v2 l2 rfl (by first | exact hown2 | exact hown2') _ _ _ [x] rfl (by first | exact hN2' | exact hN2) (by simp; omega) (by simp [maxLen]; omega) (by first | exact hs2 | exact hs2') ?_; intro l3 v3 w5 hl3 hown3 haw3 hb3 hat3; have hB3 : Below w3.heap.size w3 w5 := (by first | exact hB2.trans hb3 | exact hB2'.trans hb3); have hs3 := hB3.size)
            | ((with_reducible refine at_slot 43 ?_); refine step_copyR Try.underlying23 infoE rfl (by decide) encBe_len encBe_one _ rfl (.tmp 39) (.tmp 42) rfl w3.heap.size v3 l3 rfl hown3 w3.heap.size _ _ q rfl (by first | exact Rq.out.below hB3 | exact .inl Hq0.out) (by rw [hl3.out]; simp <;> omega) (by rw [hl3.out]; simp [maxLen] <;> omega) hs3 ?_; intro l4 v4 w6 hl4 hown4 haw4 hb4 hat4; have hB4 := hB3.trans hb4))
          all_goals
            obtain ⟨ao4, cap4, rfl, hr4, hf4, hn4, hc4, _⟩ := OwnsR.rAt encBe_len hown4
            have e4 : l4 = l2 ++ [x] ++ q := by rw [hl4.out, hl3.out]
            obtain ⟨b4, o4, rfl, _⟩ := hr4.form (by rw [e4]; simp <;> omega)
            go_wp2_with fail
            go_roundw
            case rel =>
              have h4z := hB4.size
              have hl4' : l4.length ≤ 10 := by have := HSt.out.len; rw [← Hpq.out, ← e4] at this; omega
              refine ⟨i + 1, _, cap4, l4, by omega, by go_num, by congr 1; rw [e4]; simp only [List.length_append, List.length_singleton]; omega, hl4', by rw [e4, Hpq.out]; exact HSt.out, by first | exact HK3.out.below hB4 | exact (HK3.out.below hB4).below (Below.refl _ _).drew, by first | exact HT3.out.below hB4 | exact (HT3.out.below hB4).below (Below.refl _ _).drew, by first | exact hr4 | exact hr4.later (Below.refl _ _), fun e => by simp at e, hc4, fun b o e => ?_, fun e => by rw [e4] at e; simp at e⟩
              have := (hf4 b o e).1
              omega
            case measure => simp [intOf]; omega
    · have HEND := Lib.hid trivial
      have hii : i = lx.length := by omega
      have hyl : ly.length = lx.length := by rw [PI.out.len, hii]
      obtain ⟨ha, hc⟩ := hall.out
      obtain ⟨hya, hyc⟩ := ins_all PI.out ha hc
      obtain ⟨hn1, hbag⟩ := norm_ok ha (by rw [ens_len]; omega) hc
      have hn2 := (norm_ok hya (by rw [ens_len]; omega) hyc).1
      have hsame : bagOf (ens ly) = bagOf (ens lx) := is_bagOf (bagOf_is (enB_vr hya)) (enB_vr ha) fun r => by rw [bagOf_cnt, PI.out.mult r, hii, List.take_length]
      rw [hsame] at hn2
      have hbl := bagOf_len (ens lx)
      rw [ens_len] at hbl
      have Xn := Lib.hid hn1
      have Xy := Lib.hid hn2
      have Xs := Lib.hid (norm_self hbag)
      have XB := Lib.hid hbag
      have Hbl := Lib.hid hbl
      have Sx := Lib.hid (BagS.took Sx.out Ax.out PT.out)
      have Sy : Hid (BagS wr wr.heap.size ⟨ay, cy, ly⟩) := ⟨PR.out, pn, pc, by unfold maxLen; show ly.length ≤ _; omega, fun x hx => Sx.out.each x (PI.out.mem x hx)⟩
      have q0 : ¬ (i : Int) < (lx.length : Int) := by omega
      clear ha hc hya hyc hn1 hn2 hbag hsame hbl hii hyl pn pc pe
      go_wp2_with fail
      have hzj := HK.out.2.2
      refine (pbNormalize_any _ _ lx _ (by omega) Sx.out).mono ?_
      rw [Xn.out]
      rintro e w2 ⟨aj, cj, lj, nj, rfl, Ej, rfl, Sj, hb2, hj⟩
      have Aj := Lib.hid (Behind.apart hj.out (Nat.lt_of_lt_of_le hgB hzj))
      replace HK := Lib.hid (HK.out.below hb2)
      have Sx := Lib.hid (BagS.later Sx.out hb2)
      have Sy := Lib.hid (BagS.later Sy.out hb2)
      clear hb2 hzj hj
      go_wp2_with fail
      have hzu := HK.out.2.2
      refine (pbNormalize_any _ _ ly _ (by omega) Sy.out).mono ?_
      rw [Xy.out]
      rintro e w3 ⟨au, cu, lu, nu, rfl, Eu, rfl, Su, hb3, hu⟩
      have Au := Lib.hid (Behind.apart hu.out (Nat.lt_of_lt_of_le hgB hzu))
      replace HK := Lib.hid (HK.out.below hb3)
      have Sy := Lib.hid (BagS.later Sy.out hb3)
      have Sj := Lib.hid (BagS.later Sj.out hb3)
      clear hb3 hzu hu
      go_wp2_with fail
      have hzc := HK.out.2.2
      refine (pbNormalize_any _ _ lj _ (by have := congrArg List.length Ej.out; rw [ens_len] at this; have := Hbl.out; omega) Sj.out).mono ?_
      rw [Ej.out, Xs.out]
      rintro e w4 ⟨ac, cc, lc, nc, rfl, Ec, rfl, Sc, hb4, hc⟩
      have Ac := Lib.hid (Behind.apart hc.out (Nat.lt_of_lt_of_le hgB hzc))
      replace HK := Lib.hid (HK.out.below hb4)
      have Sj := Lib.hid (BagS.later Sj.out hb4)
      have Su := Lib.hid (BagS.later Su.out hb4)
      clear hb4 hzc hc
      go_wp2_with fail
      refine (rbSame_any _ _ _ _ lj lu _ true ⟨fun _ => by rw [Ej.out, Eu.out], fun _ => rfl⟩ Sj.out Su.out).mono ?_
      rintro e w5 ⟨rfl, hb5⟩
      replace HK := Lib.hid (HK.out.below hb5)
      have Sj := Lib.hid (BagS.later Sj.out hb5)
      have Su := Lib.hid (BagS.later Su.out hb5)
      have Sc := Lib.hid (BagS.later Sc.out hb5)
      clear hb5
      go_wp2_with fail
      refine (rbSame_any _ _ _ _ lj lc _ true ⟨fun _ => by rw [Ej.out, Ec.out], fun _ => rfl⟩ Sj.out Sc.out).mono ?_
      rintro e w6 ⟨rfl, hb6⟩
      replace HK := Lib.hid (HK.out.below hb6)
      have Sj := Lib.hid (BagS.later Sj.out hb6)
      have Su := Lib.hid (BagS.later Su.out hb6)
      have Sc := Lib.hid (BagS.later Sc.out hb6)
      clear hb6
      go_wp2_with fail
      refine (pbValid_any _ _ lj _ Sj.out).mono ?_
      rw [Ej.out, XB.out]
      rintro e w7 ⟨rfl, hb7⟩
      replace HK := Lib.hid (HK.out.below hb7)
      have Sj := Lib.hid (BagS.later Sj.out hb7)
      have Su := Lib.hid (BagS.later Su.out hb7)
      have Sc := Lib.hid (BagS.later Sc.out hb7)
      clear hb7
      go_wp2_with fail
      refine (bawake_any _).mono ?_
      rintro e w8 ⟨rfl, hb8⟩
      replace HK := Lib.hid (HK.out.below hb8)
      have Sj := Lib.hid (BagS.later Sj.out hb8)
      have Su := Lib.hid (BagS.later Su.out hb8)
      have Sc := Lib.hid (BagS.later Sc.out hb8)
      clear hb8
      go_wp2_with fail
      go_ret
      exact ⟨rfl, took_below Hb1.out hg HK.out⟩
end Go.Proofs.Ytdckpjkbchibjaa
