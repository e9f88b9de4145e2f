/- The program's package bag: slices.Clone of a row, Support. -/
import Derived.Test.YtdckpjkbchibjaaBk
import Derived.Test.YtdckpjkbchibjaaBr
namespace Go.Proofs.Ytdckpjkbchibjaa
open Go.RowKit Go.Proofs.EB
set_option maxHeartbeats 4000000
set_option maxRecDepth 100000
attribute [local go_sem] World.cell?_alloc_some

def encW (v : V) : List Value := [.int .i64 v.k, .int .i64 v.n, .string v.s]
theorem encW_len (v : V) : (encW v).length = 3 := rfl
theorem encW_one (v : V) : ∀ u ∈ encW v, u.oneCell' = true := by
  intro u hu
  simp only [encW, List.mem_cons, List.not_mem_nil, or_false] at hu
  rcases hu with rfl | rfl | rfl <;> rfl
theorem RowAt.rat {w : World} {B : Nat} {ao : Option Addr} {l : List V} (h : RowAt w B ao l) : RAt encW 3 w B ao l := by
  rcases h.2 with h0 | ⟨b, off, rfl, hlt, hc⟩
  · exact .inl h0
  · refine .inr ⟨b, off, rfl, hlt, fun i hi j u hu => ?_⟩
    obtain ⟨c0, c1, c2⟩ := hc i hi
    match j, hu with
    | 0, hu => simp only [encW, List.getElem?_cons_zero, Option.some.injEq] at hu; subst hu; exact c0
    | 1, hu => simp only [encW, List.getElem?_cons_succ, List.getElem?_cons_zero, Option.some.injEq] at hu; subst hu; exact c1
    | 2, hu => simp only [encW, List.getElem?_cons_succ, List.getElem?_cons_zero, Option.some.injEq] at hu; subst hu; exact c2
    | j + 3, hu => simp [encW] at hu
/-- A call that gives a row in new memory. -/
def GaveRow (l : List V) (w : World) (e : Ending) (w' : World) : Prop := ∃ ao cap, e = .returned (.slice ao l.length cap) ∧ RwS w' w'.heap.size ⟨ao, cap, l⟩ ∧ Below w.heap.size w w' ∧ ∀ b o, ao = some ⟨b, o, none⟩ → w.heap.size ≤ b ∧ b < w'.heap.size
theorem pclone_any (ao : Option Addr) (cap : Nat) (l : List V) (w : World) (hl : l.length ≤ 1000000) (h : RwS w w.heap.size ⟨ao, cap, l⟩) :
    Calls Try.prog 48 #[.slice ao l.length cap] w (GaveRow l w) := by
  have q30 : ∀ (w : World) (a : Option Addr) (n c n' c' : Nat), (binOp .eql 30 (.slice a n c) (.slice none n' c')).run Try.prog w = .ok (.bool a.isNone) w := fun w a n c n' c' => Lib.run_eql_slice_nil w _ _ a n c n' c' Try.underlying30
  cases ao with
  | none =>
    have h0 : l = [] := by
      rcases h.row.2 with h0 | ⟨b, off, e, _⟩
      · exact h0
      · simp at e
    subst h0
    have hc : cap = 0 := h.nil rfl
    subst hc
    clear h
    go_enter Try.func48, Try.ntmps48
    go_wp2_with fail
    go_ret
    exact ⟨none, 0, rfl, ⟨⟨fun v hv => by simp at hv, .inl rfl⟩, fun _ => rfl, Nat.le_refl _, by simp [maxLen]⟩, Below.refl _ _, fun b o e => by simp at e⟩
  | some ad =>
    have hown0 : OwnsR encW 3 (w.alloc (.cells #[] 42)) w.heap.size 42 (.slice (some ⟨w.heap.size, 0, none⟩) ([] : List V).length 0) [] := ownsR_new encW_len (heap_alloc_new _ _) (Nat.le_refl _) rfl (by simp [maxLen])
    have hA1 := (h.later (below1 w (.cells #[] 42))).row.rat
    have Hok := Lib.hid h.row.1
    dsimp only at hA1 Hok
    clear h
    go_enter Try.func48, Try.ntmps48
    go_wp2_with (at_builtin; refine wpList_copyR (enc := encW) (m := 3) Try.underlying30 infoV rfl (by decide) encW_len encW_one (w.alloc (.cells #[] 42)) rfl (.tmp 5) (.tmp 6) rfl w.heap.size _ [] rfl hown0 _ (some ad) cap l rfl hA1 (fun e => by simp at e) (by simp only [List.length_nil, Nat.zero_add]; omega) (by unfold maxLen; simp only [List.length_nil, Nat.zero_add]; omega) (by simp) ?_)
    intro l1 v1 w1 hl1 hown1 haw1 hb1 _ _
    have e1 : l1 = l := hl1.out
    subst e1
    have hV : OwnsV w1 w.heap.size v1 l1 := hown1
    obtain ⟨a1, c1, rfl, hr, hlo⟩ := hV.rws Hok.out
    have HR := Lib.hid hr
    have HL := Lib.hid hlo
    have HB : Below w.heap.size w w1 := (below1 w _).trans hb1
    clear hown1 hV haw1 hb1 hr hlo hl1 hown0 hA1
    go_wp2_with fail
    go_ret
    exact ⟨a1, c1, rfl, HR.out, HB, HL.out⟩
/-- An entry whose row was made behind base, outside of the list's own block. -/
def NewRow (w : World) (base : Nat) (vr : Value) (x : Be) : Prop := BeOk w w.heap.size x ∧ ∀ b o, x.r.ao = some ⟨b, o, none⟩ → base ≤ b ∧ b < w.heap.size ∧ vr.ownBlock ≠ some b
theorem NewRow.away {w w' : World} {base : Nat} {vr : Value} {x : Be} {q : Option Nat} (h : NewRow w base vr x) (ha : Away q w w') (hq : ∀ b, q = some b → b < base ∨ vr.ownBlock = some b) : NewRow w' base vr x := by
  obtain ⟨h1, h5⟩ := h
  refine ⟨⟨h1.row.away ha fun b o e hb => ?_, h1.n⟩, fun b o e => ⟨(h5 b o e).1, Nat.lt_of_lt_of_le (h5 b o e).2.1 ha.size, (h5 b o e).2.2⟩⟩
  have hx := h5 b o e
  rcases hq b hb.symm with hl | hl
  · omega
  · exact hx.2.2 hl
theorem NewRow.below {w w' : World} {base : Nat} {vr : Value} {x : Be} (h : NewRow w base vr x) (hb : Below w.heap.size w w') : NewRow w' base vr x := h.away (away_of_below hb) (fun b e => by simp at e)
/-- A list that has grown by an entry with a new row. -/
theorem newRow_app {w5 w3 : World} {base n0 m cap g3 : Nat} {vr : Value} {lo : List Be} {x : Be} (hE : ∀ y ∈ lo, NewRow w5 base vr y) (haw3 : Away vr.ownBlock w5 w3) (hat3 : vr.ownBlock = some g3 ∨ w5.heap.size ≤ g3) (hown : ∀ b, vr.ownBlock = some b → b < n0) (hn0 : base ≤ n0)
    (hx : BeOk w5 w5.heap.size x) (hf : ∀ b o, x.r.ao = some ⟨b, o, none⟩ → n0 ≤ b ∧ b < w5.heap.size) : ∀ y ∈ lo ++ [x], NewRow w3 base (.slice (some ⟨g3, 0, none⟩) m cap) y := by
  intro y hy
  have hs := haw3.size
  rcases List.mem_append.1 hy with hy | hy
  · obtain ⟨k1, k5⟩ := hE y hy
    refine ⟨⟨k1.row.away haw3 (fun b o e => fun hb => (k5 b o e).2.2 hb.symm), k1.n⟩, fun b o e => ⟨(k5 b o e).1, Nat.lt_of_lt_of_le (k5 b o e).2.1 haw3.size, ?_⟩⟩
    show some g3 ≠ some b
    intro hg
    have h9 := k5 b o e
    rcases hat3 with h8 | h8
    · exact h9.2.2 (h8.trans hg)
    · simp at hg; omega
  · rw [List.mem_singleton] at hy
    subst hy
    refine ⟨⟨hx.row.away haw3 (fun b o e => fun hb => ?_), hx.n⟩, fun b o e => ⟨?_, ?_, ?_⟩⟩
    · have := (hf b o e).1; have := hown b hb.symm; omega
    · have := (hf b o e).1; omega
    · have := (hf b o e).2; omega
    · show some g3 ≠ some b
      intro hg
      have h9 := hf b o e
      rcases hat3 with h8 | h8
      · have := hown g3 h8; simp at hg; omega
      · simp at hg; omega
/-- An owned list whose rows lie in new memory, as a slice. -/
theorem own_bagN {w w1 : World} {v : Value} {l : List Be} (hown : OwnsR encBe 2 w1 w.heap.size 34 v l) (he : ∀ x ∈ l, NewRow w1 w.heap.size v x) :
    ∃ ao cap, v = .slice ao l.length cap ∧ BagS w1 w1.heap.size ⟨ao, cap, l⟩ ∧ Behind w.heap.size ⟨ao, cap, l⟩ := by
  obtain ⟨ao, cap, rfl, hr, hf, hn, hc, hm⟩ := OwnsR.rAt encBe_len hown
  exact ⟨ao, cap, rfl, ⟨hr, hn, hc, by have := Nat.le_trans hc hm; exact this, fun x hx => (he x hx).1⟩, fun b o e => (hf b o e).1, fun x hx b o e => ((he x hx).2 b o e).1⟩
/-- A call that gives a list of entries in new memory. -/
def GaveNew (L : List En) (w : World) (e : Ending) (w' : World) : Prop := ∃ ao cap l, e = .returned (.slice ao l.length cap) ∧ Hid (ens l = L) ∧ Hid (BagS w' w'.heap.size ⟨ao, cap, l⟩) ∧ Below w.heap.size w w' ∧ Hid (Behind w.heap.size ⟨ao, cap, l⟩)
def GaveNewE (p : List En × Int) (w : World) (e : Ending) (w' : World) : Prop := ∃ ao cap l n, e = .returned (.tuple #[.slice ao l.length cap, .int .i64 n]) ∧ Hid (ens l = p.1) ∧ n = p.2 ∧ Hid (BagS w' w'.heap.size ⟨ao, cap, l⟩) ∧ Below w.heap.size w w' ∧ Hid (Behind w.heap.size ⟨ao, cap, l⟩)
theorem bag_row {l : List Be} (h : bagB (ens l) = true) {x : Be} (hx : x ∈ l) : rowB x.r.l = true ∧ mulB x.n = true := by
  have := List.all_eq_true.1 (bagB_is h).2.1 x.en (by unfold ens; exact List.mem_map_of_mem hx)
  unfold enB Be.en at this
  rwa [Bool.and_eq_true] at this
theorem rowB_len {l : List V} (h : rowB l = true) : l.length ≤ 16 := by
  unfold rowB at h
  rw [Bool.and_eq_true, decide_eq_true_iff] at h
  exact h.1
theorem pbSupport_any (ao : Option Addr) (cap : Nat) (l : List Be) (w : World) (h : BagS w w.heap.size ⟨ao, cap, l⟩) :
    Calls Try.prog 25 #[.slice ao l.length cap] w (GaveNew (suppR (ens l)) w) := by
  have hlen := h.len
  unfold maxLen at hlen
  simp only at hlen
  have hV := pbValid_any ao cap l w h
  obtain ⟨q, hq⟩ : ∃ q, q = suppR (ens l) := ⟨_, rfl⟩
  rw [← hq]
  have Hq := Lib.hid hq
  have HV := Lib.hid hV
  have HS := Lib.hid h
  clear hq hV h
  cases hbb : bagB (ens l)
  · rw [hbb] at HV
    have Hx := Lib.hid (show q = [] by rw [Hq.out]; unfold suppR; rw [hbb]; rfl)
    clear hbb
    go_enter Try.func25, Try.ntmps25
    go_wp2_with fail
    refine HV.out.mono ?_
    rintro e w1 ⟨rfl, hb1⟩
    go_wp2_with fail
    go_ret
    exact ⟨none, 0, [], rfl, Hx.out.symm, BagS.nil, hb1, ⟨fun _ _ h => by simp at h, fun x hx => by simp at hx⟩⟩
  · rw [hbb] at HV
    have Hx := Lib.hid (show q = suppE (ens l) by rw [Hq.out]; unfold suppR; rw [hbb]; rfl)
    have h4 : l.length ≤ 4096 := by have := (bagB_is hbb).2.2; rwa [ens_len] at this
    have HRw := Lib.hid (fun (x : Be) (hx : x ∈ l) => rowB_len (bag_row hbb hx).1)
    clear hbb
    go_enter Try.func25, Try.ntmps25
    go_wp2_with fail
    refine HV.out.mono ?_
    rintro e w1 ⟨rfl, hb1⟩
    go_wp2_with fail
    go_loopw [3, 11] (fun v i wr => ∃ (k : Nat) (lo : List Be) (vr : Value), k ≤ l.length ∧ i = .int .i64 k ∧ vr = v ∧ lo.length ≤ k ∧ OwnsR encBe 2 wr w.heap.size 34 vr lo ∧ Hid (Below w.heap.size w wr) ∧ w.heap.size ≤ wr.heap.size ∧ Hid (ens lo = suppE (ens (l.take k)) ∧ ∀ x ∈ lo, NewRow wr w.heap.size vr x)) (fun _ i _ => l.length - (intOf i).toNat)
    case atStart => exact ⟨0, [], _, Nat.zero_le _, rfl, rfl, Nat.le_refl _, OwnsR.nil, hb1, hb1.size, by simp [ens, suppE], fun x hx => by simp at hx⟩
    case round =>
      obtain ⟨i, lo, vr, hi, rfl, rfl, hll, hown, hbl, hsz, hP⟩ := hrel
      by_cases hlt : i < l.length
      · obtain ⟨b, off, hao, _⟩ := HS.out.row.form (by show 0 < l.length; omega)
        simp only at hao
        subst hao
        obtain ⟨c0, c1⟩ := be_cells (HS.out.row.below hbl.out) hlt
        have q0 : (i : Int) < (l.length : Int) := by omega
        have q1 : (0 : Int) ≤ (i : Int) := by omega
        have hsn := suppE_snoc l hlt
        have hbe := HS.out.each _ (List.getElem_mem hlt)
        have hrl := HRw.out _ (List.getElem_mem hlt)
        generalize l[i] = x at *
        obtain ⟨⟨xa, xc, xl⟩, n⟩ := x
        dsimp only at *
        have hx64 := hbe.n
        unfold n64 at hx64
        dsimp only at hx64
        have Hsn := Lib.hid hsn
        have Hbe := Lib.hid hbe
        clear hsn hbe
        have hbx : Below wr.heap.size wr (wr.alloc (.cells #[.slice xa xl.length xc, .int .i64 n] 34)) := below1 _ _
        have HBx := Lib.hid hbx
        have HR1 := Lib.hid ((Hbe.out.row.later hbl.out).later hbx)
        clear hbx
        by_cases hp : 0 < n
        · have hC := pclone_any xa xc xl (wr.alloc (.cells #[.slice xa xl.length xc, .int .i64 n] 34)) (by omega) HR1.out
          go_wp2_with fail
          refine hC.mono ?_
          rintro e w5 ⟨ca, cc, rfl, hr5, hb5, hf5⟩
          have HB5 := Lib.hid (belowT (below1 wr _) hb5)
          have own5 := hown.below HB5.out
          have hsz5 : w.heap.size ≤ w5.heap.size := Nat.le_trans hsz HB5.out.size
          have Hr5 := Lib.hid hr5
          have Hf5 := Lib.hid hf5
          have hs5 := hb5.size
          have HE5 := Lib.hid (fun y hy => (hP.out.2 y hy).below HB5.out)
          have hfr : ∀ b o, ca = some ⟨b, o, none⟩ → wr.heap.size ≤ b ∧ b < w5.heap.size := fun b o e => by have := Hf5.out b o e; simp at this; omega
          have Hfr := Lib.hid hfr
          clear hr5 hf5 hfr hb5
          go_wp2_with (at_builtin; refine wpList_appR (enc := encBe) (m := 2) Try.underlying23 infoE rfl (by decide) encBe_len encBe_one _ w5 rfl (.tmp 18) (.tmp 23) rfl w.heap.size _ lo rfl own5 [⟨⟨ca, cc, xl⟩, 1⟩] 1 1 #[.slice ca xl.length cc, .int .i64 1] rfl rfl rfl rfl rfl rfl rfl (by decide) (by omega) (by unfold maxLen; omega) hsz5 ?_; intro l3 g3 cap3 w3 hl3 hown3 haw3 hb3 hat3 hlt3)
          go_roundw
          case rel =>
            have hB3 : Below w.heap.size w w3 := (hbl.out.trans (HB5.out.mono hsz)).trans hb3
            refine ⟨i + 1, l3, _, by omega, by go_num, rfl, by rw [hl3.out]; simp; omega, hown3, hB3, hB3.size, ?_, ?_⟩
            · rw [hl3.out, ens_app, Hsn.out, if_pos hp, hP.out.1]; rfl
            · rw [hl3.out]
              exact newRow_app HE5.out haw3 hat3 (fun b hb => (hown.lt b hb).2) hsz ⟨Hr5.out, by unfold n64; dsimp only; omega⟩ Hfr.out
          case measure => simp [intOf]; omega
        · go_wp2_with fail
          go_roundw
          case rel =>
            have hB5 := hbl.out.trans (HBx.out.mono hsz)
            refine ⟨i + 1, lo, _, by omega, by go_num, rfl, by omega, hown.below HBx.out, hB5, hB5.size, ?_, fun y hy => (hP.out.2 y hy).below HBx.out⟩
            rw [Hsn.out, if_neg hp, hP.out.1, List.append_nil]
          case measure => simp [intOf]; omega
      · have hk : l.take i = l := List.take_of_length_le (by omega)
        rw [hk] at hP
        have Hy := Lib.hid (hP.out.1.trans Hx.out.symm)
        obtain ⟨ao1, cap1, rfl, hB1, hf1⟩ := own_bagN hown hP.out.2
        have Hf1 := Lib.hid hf1
        clear hf1
        have HB1 := Lib.hid hB1
        clear hk hP hown hB1
        go_wp2_with fail
        go_ret
        exact ⟨ao1, cap1, lo, rfl, Hy.out, HB1.out, hbl.out, Hf1.out⟩
end Go.Proofs.Ytdckpjkbchibjaa
