/- The program's package bag: sums.bag, Normalize, Add, Subtract. -/
import Derived.Test.YtdckpjkbchibjaaBv
import Derived.Test.YtdckpjkbchibjaaBw
import Derived.Test.YtdckpjkbchibjaaVp
namespace Go.Proofs.Ytdckpjkbchibjaa
open Go.RowKit Go.Proofs.EB Go.Maps
set_option maxHeartbeats 4000000
set_option maxRecDepth 100000
attribute [local go_sem] World.cell?_alloc_some

/-- What DecodeRow returns, with the row's capacity. -/
def RowRes2 (w : World) (o : Option (List V)) (e : Ending) (w' : World) : Prop := Below w.heap.size w w' ∧ match o with
  | some l => ∃ ao cap, e = .returned (.tuple #[.slice ao l.length cap, .int .i64 0]) ∧ l.length ≤ 16 ∧ (∀ x ∈ l, vB x = true) ∧ RwS w' w'.heap.size ⟨ao, cap, l⟩ ∧ (∀ b o, ao = some ⟨b, o, none⟩ → w.heap.size ≤ b ∧ b < w'.heap.size)
  | none => e = .returned (.tuple #[.slice none 0 0, .int .i64 1])
theorem DecodeRow2_any (s : ByteArray) (w : World) (hs : s.size ≤ 1000000) :
    Calls Try.prog 70 #[.string s] w (RowRes2 w (decR s.size s.data.toList [])) := by
  go_enter Try.func70, Try.ntmps70
  go_wp2_with fail
  go_loopw [4, 0] (fun v i wr => ∃ (n : Nat) (l : List V) (vr : Value) (u : ByteArray), i = .string u ∧ u.size ≤ n ∧ u.size ≤ 1000000 ∧ vr = v ∧ l.length ≤ 16 ∧ Hid (decR s.size s.data.toList [] = decR n u.data.toList l) ∧ Hid (∀ x ∈ l, vB x = true) ∧ OwnsV wr w.heap.size vr l ∧ Hid (Below w.heap.size w wr) ∧ (∃ c a, vr = .slice a l.length c)) (fun _ i _ => strLen i)
  case atStart => exact ⟨s.size, [], _, s, rfl, Nat.le_refl _, hs, rfl, by simp, rfl, fun x hx => by simp at hx, OwnsV.nil _ _, Below.refl _ _, ⟨0, none, rfl⟩⟩
  case round =>
    obtain ⟨n, l, vr, u, rfl, hun, hum, rfl, hl16, hd, hall, hown, hb, cp, ad, rfl⟩ := hrel
    by_cases hu : 0 < u.size
    · have he := nonempty_of hu
      obtain ⟨m, rfl⟩ : ∃ m, n = m + 1 := ⟨n - 1, by omega⟩
      go_wp2_with fail
      refine (decodeValue_any u _ hum hu).mono ?_
      intro e w2 hp
      obtain ⟨hb2, hcase⟩ := decVB_cases hp
      clear hp
      have hs2 := hb2.size
      rcases hcase with ⟨v, rfl, hn⟩ | ⟨v, k, rfl, hk0, hku, hv, hn⟩
      · have hfin := (hb.out.trans (hb2.mono hb.out.size)).alloc (by have := hb.out.size; omega) (.cells #[.int .i64 v.k, .int .i64 v.n, .string v.s] 42)
        go_wp2_with fail
        refine bodyPost_ret (v := .tuple #[.slice none 0 0, .int .i64 1]) (by simp [results, Try.results70, go_sem]) rfl ⟨hfin, ?_⟩
        rw [hd.out, hn.out m l hu]
      · by_cases h16 : l.length = 16
        · have z16 : ((l.length : Int) == 16) = true := by simp; omega
          have zk : (((k : Nat) : Int) == 0) = false := by simp; omega
          have hfin := (hb.out.trans (hb2.mono hb.out.size)).alloc (by have := hb.out.size; omega) (.cells #[.int .i64 v.k, .int .i64 v.n, .string v.s] 42)
          have H16 := Lib.hid h16
          clear h16
          go_wp2_with fail
          refine bodyPost_ret (v := .tuple #[.slice none 0 0, .int .i64 1]) (by simp [results, Try.results70, go_sem]) rfl ⟨hfin, ?_⟩
          rw [hd.out, hn.out m l hu, H16.out]
          rfl
        · have z16 : ((l.length : Int) == 16) = false := by simp; omega
          have zk : (((k : Nat) : Int) == 0) = false := by simp; omega
          have H16 := Lib.hid h16
          clear h16
          have haw : Away none wr (w2.alloc (.cells #[.int .i64 v.k, .int .i64 v.n, .string v.s] 42)) := away_of_below (hb2.alloc hs2 _)
          have hown2 := haw.owns hown (by cases (Value.slice ad l.length cp).ownBlock <;> simp)
          have hsz2 := hb.out.size
          go_wp2_with (at_builtin; refine wpList_appV _ (w2.alloc (.cells #[.int .i64 v.k, .int .i64 v.n, .string v.s] 42)) rfl (.tmp 21) (.tmp 23) rfl w.heap.size (.slice ad l.length cp) l rfl hown2 v 1 (by simp [go_sem]) rfl rfl rfl rfl (by omega) (by simp; omega) ?_; intro l3 g3 cap3 w3 hl3 hown3 haw3 hb3 hat3 hlt3)
          have h3 : Below w.heap.size w w3 := ((hb.out.trans (hb2.mono hb.out.size)).alloc (by omega) _).trans hb3
          refine ⟨⟨m, l3, _, u.extract k u.size, by simp, ?_, ?_, rfl, ?_, ?_, ?_, hown3, h3, ⟨cap3, _, rfl⟩⟩, ?_⟩
          · simp; omega
          · simp; omega
          · rw [hl3.out]; simp; have := H16.out; omega
          · unfold Hid; rw [hd.out, hn.out m l hu, hl3.out, if_pos H16.out]
          · intro x hx
            rw [hl3.out] at hx
            simp only [List.mem_append, List.mem_singleton] at hx
            rcases hx with hx | rfl
            · exact hall.out x hx
            · exact hv
          · simp [strLen]; omega
    · have he := isEmpty_of hu
      have hu0 : u = ⟨#[]⟩ := empty_of he
      obtain ⟨ao, cap, hsl, hrow, hlo⟩ := hown.rws fun x hx => vB_ok (hall.out x hx)
      obtain ⟨rfl, _, rfl⟩ : ad = ao ∧ True ∧ cp = cap := by simpa using hsl
      go_wp2_with fail
      refine bodyPost_ret (v := .tuple #[.slice ad l.length cp, .int .i64 0]) (by simp [results, Try.results70, go_sem]) rfl ⟨hb.out, ?_⟩
      rw [hd.out, hu0]
      have e0 : decR n (⟨#[]⟩ : ByteArray).data.toList l = some l := by cases n <;> rfl
      rw [e0]
      exact ⟨ad, cp, rfl, hl16, hall.out, hrow, hlo⟩

/-- A call that gives a row and no error. -/
def RowNew (w : World) (l : List V) (e : Ending) (w' : World) : Prop := ∃ ao cap, e = .returned (.tuple #[.slice ao l.length cap, .int .i64 0]) ∧ RwS w' w'.heap.size ⟨ao, cap, l⟩ ∧ Below w.heap.size w w' ∧ ∀ b o, ao = some ⟨b, o, none⟩ → w.heap.size ≤ b ∧ b < w'.heap.size
theorem clean_map {l : List V} (h : ∀ x ∈ l, vB x = true) : l.map cleanV = l := by
  conv => rhs; rw [← List.map_id l]
  exact List.map_congr_left fun x hx => cleanV_idem (h x hx)
theorem pdec_any (l : List V) (h : rowB l = true) (w : World) : Calls Try.prog 70 #[.string ⟨(encRow l).toArray⟩] w (RowNew w l) := by
  have h16 := rowB_len h
  have hel := encRow_len l
  have hbig := encRow_big l
  have hs : (⟨(encRow l).toArray⟩ : ByteArray).size = (encRow l).length := by simp [ByteArray.size]
  refine (DecodeRow2_any ⟨(encRow l).toArray⟩ w (by rw [hs]; omega)).mono ?_
  rintro e w' ⟨hb, h2⟩
  have e1 : decR (⟨(encRow l).toArray⟩ : ByteArray).size (⟨(encRow l).toArray⟩ : ByteArray).data.toList [] = some l := by
    rw [hs]
    show decR (encRow l).length (encRow l) [] = _
    rw [decR_encRow l _ [] hbig (by simp), if_pos (by simpa using h16), clean_map (rowB_vB h)]
    rfl
  rw [e1] at h2
  obtain ⟨ao, cap, he, _, _, hr, hf⟩ := h2
  exact ⟨ao, cap, he, hr, hb, hf⟩
theorem pisz_any (k : Value) (c : Int) (w : World) : Calls Try.prog 69 (#[k, .int .i64 c] ++ #[]) w fun e w' => e = .returned (.bool (c == 0)) ∧ w' = w := by
  go_enter Try.func69, Try.ntmps69
  go_wp2
  go_ret
  exact ⟨rfl, rfl⟩
theorem pdel_any (mb n : Nat) (D : MD) (w : World) (hown : MapAt w mb n D) :
    Calls Try.prog 68 #[.map (some mb), .func (.func 69) #[] #[]] w fun e w' => e = .returned (.tuple #[]) ∧ MapAt w' mb n (Lib.deleteFuncD isZ D) ∧ w.grownBy w' (some mb) := by
  have eg : ∀ args w, (callFunc 69 args).run Try.prog w = .ok (.enter 69 args) w := enters_of Try.func69 (by kernel_rfl) rfl
  exact AnyDf.maps_DeleteFunc Try.delS lawS (plainElem Try.prog 2) isZ 69 #[] mb n D w eg hown (fun W key val kl yd yp _ _ hv => by
    obtain ⟨c, rfl, hy, _⟩ := plainElem_int_inv Try.underlying2 hv
    obtain rfl : yd = .lit (.int .i64 c) := by simpa using (congrArg Prod.fst hy)
    exact (pisz_any key c W).mono fun _ _ ⟨he, hw⟩ => ⟨he, hw ▸ World.grownBy.refl _ _⟩)
/-- A call that gives a bag in memory behind base. -/
def GaveBag (B : Nat) (p : List En × Int) (w : World) (e : Ending) (w' : World) : Prop := ∃ ao cap l n, e = .returned (.tuple #[.slice ao l.length cap, .int .i64 n]) ∧ Hid (ens l = p.1) ∧ n = p.2 ∧ Hid (BagS w' w'.heap.size ⟨ao, cap, l⟩) ∧ Below B w w' ∧ Hid (Behind B ⟨ao, cap, l⟩)
theorem away_grown {w w' : World} {r : Option Nat} (h : w.grownBy w' r) : Away r w w' := ⟨h.os, h.tape, h.output, h.size, h.block⟩
theorem fits_wrong {b : List En} (h4 : b.length ≤ 4096) {e : En} (he : e ∈ b) (h : mulB e.2 = false) : fitsR b = ([], 9) := by
  unfold fitsR
  rw [if_neg (by omega), if_neg]
  intro h2
  have := List.all_eq_true.1 h2 e he
  rw [h] at this; cases this
theorem fits_fine {b : List En} (h4 : b.length ≤ 4096) (h : ∀ e ∈ b, mulB e.2 = true) : fitsR b = (b, 0) := by
  unfold fitsR
  rw [if_neg (by omega), if_pos (List.all_eq_true.2 h)]
theorem gave_none {B : Nat} {w w' : World} {n : Int} {p : List En × Int} (h : p = ([], n)) (hb : Below B w w') : GaveBag B p w (.returned (.tuple #[.slice none 0 0, .int .i64 n])) w' :=
  ⟨none, 0, [], n, rfl, by rw [h]; rfl, by rw [h], BagS.nil, hb, ⟨fun _ _ h => by simp at h, fun x hx => by simp at hx⟩⟩
theorem psums_any (B mb n : Nat) (D : MD) (L : List En) (w : World) (hB : B ≤ w.heap.size) (hBm : B ≤ mb) (hown : MapAt w mb n D) (hS : SumsAre D L) (hv : ∀ e ∈ L, rowB e.1 = true) :
    Calls Try.prog 56 #[.map (some mb)] w (GaveBag B (fitsR (bagOf L)) w) := by
  have hvr : VR L := fun e he => rowB_vB (hv e he)
  have hdel := pdel_any mb n D w hown
  have hM := hS.struck hvr (hown.entries lawS)
  have hbag := bagOf_is hvr
  have hbr := bagOf_rows (p := fun r => rowB r = true) hv
  obtain ⟨b, hb⟩ : ∃ b, b = bagOf L := ⟨_, rfl⟩
  rw [← hb] at hM hbag hbr ⊢
  obtain ⟨D1, hD1⟩ : ∃ D1, D1 = Lib.deleteFuncD isZ D := ⟨_, rfl⟩
  rw [← hD1] at hM hdel
  have HM := Lib.hid hM
  have Hbag := Lib.hid hbag
  have Hbr := Lib.hid hbr
  obtain ⟨p, hp⟩ : ∃ p, p = fitsR b := ⟨_, rfl⟩
  rw [← hp]
  have Hp := Lib.hid hp
  clear hb hD1 hM hbag hbr hp hown hS hv hvr
  go_enter Try.func56, Try.ntmps56
  go_wp2_with fail
  refine hdel.mono ?_
  rintro e w1 ⟨rfl, hown1, hg1⟩
  have hsz := HM.out.size Hbag.out.asc (hown1.entries lawS)
  have HB1 := Lib.hid (grown_below hg1 hB hBm)
  have hs1 := hg1.size
  clear hg1 hdel
  by_cases h4 : 4096 < b.length
  · have h4' : (4096 : Int) < (Maps.size D1 : Int) := by omega
    have Hx := Lib.hid (show p = ([], 8) by rw [Hp.out]; unfold fitsR; rw [if_pos h4])
    clear h4 hsz
    go_wp2_with (first
      | (at_len; refine wpList_len_own _ rfl _ 72 rfl 9 2 Try.underlying72 _ mb n D1 rfl hown1 ?_)
      | go_in)
    go_ret2
    exact gave_none Hx.out HB1.out
  · have h4' : ¬ (4096 : Int) < (Maps.size D1 : Int) := by omega
    have H4 := Lib.hid (show b.length ≤ 4096 by omega)
    have Hsz := Lib.hid hsz
    clear h4 hsz
    have hmb := hown1.lt
    go_wp2_with (first
      | (at_len; refine wpList_len_own _ rfl _ 72 rfl 9 2 Try.underlying72 _ mb n D1 rfl hown1 ?_)
      | (at_range; refine wpList_range_own _ rfl _ 72 rfl 9 2 lawS Try.underlying72 _ mb n _ rfl hown1 ?_; intro w2 hrg0 hg0 hs0)
      | go_in)
    go_frame
    have HB2 := Lib.hid (HB1.out.trans ((Below.refl _ _).grown hg0 (Nat.le_trans hB hs1) (fun k e => by cases e)))
    have hs0' : w2.heap.size = w1.heap.size + 1 := hs0
    have Hs0 := Lib.hid hs0'
    clear hs0 hs0' hg0
    go_loopw [4] (fun v wr => ∃ (left : Lit → Bool) (cnt : Nat) (lo : List Be) (vr : Value), vr = v ∧ wr.ranges Try.prog 9 (plainElem Try.prog 2) mb w1.heap.size n D1 left cnt ∧ Hid (lo.length + cnt ≤ 4096) ∧ Hid (Coll b left (ens lo)) ∧ OwnsR encBe 2 wr w2.heap.size 34 vr lo ∧ Hid (Below B w wr ∧ w2.heap.size ≤ wr.heap.size) ∧ Hid (∀ x ∈ lo, NewRow wr w2.heap.size vr x ∧ mulB x.n = true))
      (fun _ wr => wr.rangeLeft mb w1.heap.size)
    case atStart => exact ⟨_, _, [], _, rfl, hrg0, by have := H4.out; rw [Hsz.out]; show 0 + _ ≤ _; omega, Coll.start HM.out, OwnsR.nil, ⟨HB2.out, Nat.le_refl _⟩, fun x hx => by simp at hx⟩
    case round =>
      clear hrg0 hown1
      obtain ⟨left, cnt, lo, vr, rfl, hrg, hcs, hC, hown, hBz, hE⟩ := hrel
      go_wp2_with (first
        | (at_next; refine wpList_next_ranges _ rfl _ rfl 9 lawS (plainElem Try.prog 2) encStr (Value.int .i64) (fun key kl hk => by obtain ⟨x, hx, _⟩ := Maps.keyOf_str Try.underlying9 hk; exact ⟨x, hx⟩) (fun v y hv => by obtain ⟨c, rfl, _⟩ := plainElem_int_inv Try.underlying2 hv; exact ⟨c, rfl⟩) mb w1.heap.size n _ _ _ rfl hrg ?_ ?_)
        | go_in)
      · intro _ hl0
        have hperm := hC.out.done Hbag.out.asc hl0
        have HPerm := Lib.hid hperm
        have hgood : p = (b, 0) := by
          rw [Hp.out]
          refine fits_fine H4.out fun e he => ?_
          have h1 := HPerm.out.mem_iff.2 he
          unfold ens at h1
          obtain ⟨x, hx, rfl⟩ := List.mem_map.1 h1
          exact (hE.out x hx).2
        have Hgood := Lib.hid hgood
        have hlo : lo.length ≤ 1000000 := by have := hcs.out; omega
        clear hperm hgood hl0 hcs hrg hC
        rcases hown.2 with ⟨rfl, hz⟩ | ⟨g, cp, cur, rfl, hgB, hgh, hgn, hgm, hgs, hgt⟩
        · have hl0 : lo = [] := List.eq_nil_of_length_eq_zero hz
          subst hl0
          clear hown
          go_wp2_with (go_at_call 71; refine (psort_nil _).mono ?_; rintro e w4 ⟨rfl, rfl⟩)
          go_ret2
          have hb0 : b = [] := by have := HPerm.out.length_eq; simp [ens] at this; exact List.eq_nil_of_length_eq_zero this.symm
          exact gave_none (by rw [Hgood.out, hb0]) hBz.out.1
        · have hsort := psort_any w2.heap.size g cp lo wr hown hlo (fun x hx => ⟨(hE.out x hx).1.1, .inr fun b o e hbg => ((hE.out x hx).1.2 b o e).2.2 (by rw [hbg]; rfl)⟩)
          have Hcap := Lib.hid (show lo.length ≤ cp ∧ cp ≤ maxLen from ⟨hgn, hgm⟩)
          have HgB := Lib.hid hgB
          clear hgh hgn hgm hgs hgt hown hgB
          go_wp2_with (go_at_call 71; refine hsort.mono ?_; rintro e w4 ⟨rfl, l', hp', hr', hra, haw⟩)
          go_ret2
          have hln : l'.length = lo.length := hp'.out.length_eq
          have hbB : B ≤ w2.heap.size := Nat.le_trans (Nat.le_trans hB hs1) (by rw [Hs0.out]; omega)
          have hens : ens l' = b := sorted_bag Hbag.out (List.Perm.trans (hp'.out.map Be.en) HPerm.out) hr'.out
          refine ⟨some ⟨g, 0, none⟩, cp, l', 0, by rw [hln]; rfl, by rw [Hgood.out]; exact hens, by rw [Hgood.out], ⟨hra.out, fun e => by simp at e, by have := Hcap.out; show l'.length ≤ cp; omega, by have := Hcap.out; show l'.length ≤ maxLen; omega, fun x hx => ?_⟩, hBz.out.1.trans (haw.below (Nat.le_trans hbB hBz.out.2) (fun k e => by cases e; exact Nat.le_trans hbB HgB.out)), fun bb o e => ?_, fun x hx bb o e => ?_⟩
          · exact ((hE.out x (hp'.out.mem_iff.1 hx)).1.away haw (fun bb e => by cases e; exact .inr rfl)).1
          · simp only [Option.some.injEq, Addr.mk.injEq] at e
            have := HgB.out; omega
          · have := ((hE.out x (hp'.out.mem_iff.1 hx)).1.2 bb o e).1
            omega
      · intro x c kl yd yp w3 cnt3 hkey hlk hv hat hrg3 hlt hg3 hs3 hen
        obtain ⟨x', ex, rfl, _⟩ := Maps.keyOf_str Try.underlying9 hkey
        obtain rfl : x = x' := encStr_inj ex
        obtain ⟨en, hmem, hk⟩ := (HM.out.keys _).1 (has_true_of_atKey hat)
        have hsum := hat .nil
        rw [hk, HM.out.sums en hmem] at hsum
        obtain ⟨c', ec, hy, _⟩ := plainElem_int_inv Try.underlying2 hv
        cases ec
        have hyd : yd = .lit (.int .i64 c) := by simpa using congrArg Prod.fst hy
        have hc : en.2 = c := by rw [hyd] at hsum; simpa [sumL] using hsum
        have hx : encStr x = .string ⟨(encRow en.1).toArray⟩ := by
          have h1 : x = encRow en.1 := by simpa [keyL] using hk
          rw [h1]
        have hCs := hC.out.step Hbag.out.asc hmem (by rw [← hk]; exact hlk)
        rw [← hk] at hCs
        have hrow := Hbr.out en hmem
        obtain ⟨r, nn⟩ := en
        dsimp only at *
        subst hc
        have hdec := fun W => pdec_any r hrow W
        have HCs := Lib.hid hCs
        have Hmem := Lib.hid hmem
        have Hcnt := Lib.hid (show lo.length + 1 + cnt3 ≤ 4096 by have := hcs.out; omega)
        have HLt := Lib.hid hlt
        have haw3 := away_grown hg3
        have hbase : w1.heap.size < w2.heap.size := by rw [Hs0.out]; omega
        have own3 : OwnsR encBe 2 w3 w2.heap.size 34 vr lo := hown.away haw3 (by
          cases hvb : vr.ownBlock with
          | none => exact .inl rfl
          | some bb => right; intro e; have h1 := hown.lt bb hvb; cases e; omega)
        have HE3 := Lib.hid (fun y hy => (⟨(hE.out y hy).1.away haw3 (fun bb e => by cases e; exact .inl hbase), (hE.out y hy).2⟩ : NewRow w3 w2.heap.size vr y ∧ mulB y.n = true))
        have hbB : B ≤ w2.heap.size := Nat.le_trans (Nat.le_trans hB hs1) (by rw [Hs0.out]; omega)
        have HBz3 := Lib.hid (⟨hBz.out.1.grown hg3 (Nat.le_trans hbB hBz.out.2) (fun k e => by cases e; exact Nat.le_trans hB hs1), Nat.le_trans hBz.out.2 hg3.size⟩ : Below B w w3 ∧ w2.heap.size ≤ w3.heap.size)
        have hvlt : ∀ bb, vr.ownBlock = some bb → bb < w3.heap.size := fun bb hvb => (own3.lt bb hvb).2
        have Hvlt := Lib.hid hvlt
        have Hvge := Lib.hid (fun bb (hvb : vr.ownBlock = some bb) => (own3.lt bb hvb).1)
        clear hown hE hBz hg3 haw3 hs3 hlt hcs hCs hmem hsum hyd hy hv hat hkey hlk hC hvlt hk
        rw [hx] at hen
        cases hz : mulB nn
        · have Hx := Lib.hid (show p = ([], 9) by rw [Hp.out]; exact fits_wrong H4.out Hmem.out hz)
          have hw := pwithin_any nn
          rw [hz] at hw
          clear hz
          go_wp2_with (first
            | (go_at_call 62; refine (hw _).mono ?_; rintro e w4 ⟨rfl, rfl⟩)
            | go_in)
          go_ret2
          exact gave_none Hx.out HBz3.out.1
        · have hw := pwithin_any nn
          rw [hz] at hw
          have Hz := Lib.hid hz
          clear hz
          have hl1000 : lo.length ≤ 4096 := by have := Hcnt.out; omega
          go_wp2_with (first
            | (go_at_call 62; refine (hw _).mono ?_; rintro e w4 ⟨rfl, rfl⟩)
            | (go_at_call 70; refine (hdec _).mono ?_; rintro e w5 ⟨ra, rc, rfl, hr5, hb5, hf5⟩
               have own5 := own3.below hb5
               have Hr5 := Lib.hid hr5
               have Hb5 := Lib.hid hb5
               have Hf5 := Lib.hid hf5
               have hsz5 : w2.heap.size ≤ w5.heap.size := Nat.le_trans HBz3.out.2 hb5.size
               clear hr5 hf5 hb5)
            | (at_builtin; refine wpList_appR (enc := encBe) (m := 2) Try.underlying23 infoE rfl (by decide) encBe_len encBe_one _ w5 rfl (.tmp 29) (.tmp 33) rfl w2.heap.size _ lo rfl own5 [⟨⟨ra, rc, r⟩, nn⟩] 1 1 #[.slice ra r.length rc, .int .i64 nn] rfl rfl rfl rfl rfl rfl rfl (by decide) (by omega) (by unfold maxLen; omega) hsz5 ?_; intro l3 g3 cap3 w6 hl3 hown3 haw6 hb6 hat6 hlt6)
            | go_in)
          have hg6 : w3.grownBy w6 vr.ownBlock := ((grown_none Hb5.out).but vr.ownBlock).andThen (⟨haw6.os, haw6.tape, haw6.output, haw6.size, haw6.block⟩ : w5.grownBy w6 vr.ownBlock) (fun j e => .inr e)
          have hrg6 := hrg3.kept hg6 (fun e => by have := Hvge.out mb e.symm; omega) (fun e => by have := Hvge.out _ e.symm; omega)
          go_roundw
          case rel =>
            refine ⟨_, cnt3, l3, _, rfl, hrg6, by rw [hl3.out]; have := Hcnt.out; show (lo ++ [_]).length + cnt3 ≤ 4096; simp; omega, by rw [hl3.out, ens_app]; exact HCs.out, hown3, ⟨HBz3.out.1.trans (((Hb5.out.mono HBz3.out.2).trans (hb6.mono (Nat.le_refl _))).mono hbB), by have := hb6.size; omega⟩, ?_⟩
            rw [hl3.out]
            intro y hy
            refine ⟨newRow_app (fun z hz => (HE3.out z hz).1.below Hb5.out) haw6 hat6 (fun bb e => Hvlt.out bb e) HBz3.out.2 ⟨Hr5.out, ?_⟩ Hf5.out y hy, ?_⟩
            · have := (mulB_iff nn).1 Hz.out
              unfold n64; dsimp only; omega
            · rcases List.mem_append.1 hy with hy | hy
              · exact (HE3.out y hy).2
              · rw [List.mem_singleton] at hy; subst hy; exact Hz.out
          case measure => rw [hrg6.left_eq, hrg.left_eq]; exact HLt.out
end Go.Proofs.Ytdckpjkbchibjaa
