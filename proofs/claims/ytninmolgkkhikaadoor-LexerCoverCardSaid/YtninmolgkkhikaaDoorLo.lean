/- Join of package lexer and of its reference. -/
import Derived.Test.YtninmolgkkhikaaDoorLn
import Derived.Test.YtninmolgkkhikaaDoorPf
import Derived.Lib.AppendStr
namespace Go.Proofs.EB
open Go.RowKit
open Go.Lib (byteCells)
section
variable {P : Program} {t e u : TypeId}
/-- 'append(b, s...)' of a string that is not empty, onto a row of the call's own. -/
theorem wpList_appS (ht : P.underlying t = some (.slice e)) (hu : P.underlying u = some .string) (hinfo : (P.info? e).map (fun i => (i.zero, i.size, i.bytes)) = some (some (.int .u8 0), 1, 1)) (w : World)
    {ops : Array Oper} {rest : List Oper} {o : Oper} {a : Act} {Q : Exit → Act → World → Prop} (hgd : o.guard = none) (sl x : Operand)
    (ho : o.op = .call { callee := .builtin .append, args := #[sl, x], argTypes := #[t, u] })
    (B : Nat) (v : Value) (l : List UInt8) (hs : a.eval sl = v) (hown : OwnsB w B e v l) (s : ByteArray) (hx : a.eval x = .string s) (h0 : 0 < s.size) (hsz : l.length + s.size ≤ 1099511627776) (hB : B ≤ w.heap.size)
    (h : ∀ l' g' cap w', Hid (l' = l ++ s.data.toList) → OwnsB w' B e (.slice (some ⟨g', 0, none⟩) l'.length cap) l' → Below B w w' → wpList P ops Q rest (a.put o.dst (.slice (some ⟨g', 0, none⟩) l'.length cap)) w') : wpList P ops Q (o :: rest) a w := by
  obtain ⟨i0, hi, hz0, hz1, hz2⟩ := info_parts hinfo
  refine Lib.wpList_append_own_string w hgd sl x t u ho B e i0 ht hu hi hz0 hz1 hz2 v l.length (byteCells l) hs hown s hx (by unfold maxLen; omega) (by omega) hB ?_
  intro v' w' h1 h2 h3
  have hA : Away v.ownBlock w w' := ⟨h2.os, h2.tape, h2.output, h2.size, h2.block⟩
  have hbl : Below B w w' := hA.below hB fun k hk => (World.ownsRow.lt hown k hk).1
  have hne : v' ≠ .slice none 0 0 := fun e1 => by have := (h3.1 e1).2; omega
  have e1 : l.length + s.size = (l ++ s.data.toList).length := by simp
  have e2 : byteCells l ++ Lib.strCells s = byteCells (l ++ s.data.toList) := by simp [byteCells, Lib.strCells]
  rw [e1, e2] at h1
  rcases h1.2 with ⟨hn, _⟩ | ⟨g, cap, cur, rfl, _, _⟩
  · exact absurd hn hne
  · exact h _ g cap w' rfl h1 hbl
end
end Go.Proofs.EB
namespace Go.Proofs.YtninmolgkkhikaaDoor
open Go.RowKit Go.Proofs.EB Go.Proofs.TX
set_option maxHeartbeats 2000000
attribute [local go_sem] World.cell?_alloc_some

def addT (acc : List UInt8) (t : Tok) : List UInt8 := match textT t with
  | none => acc
  | some x => if acc = [] then x else acc ++ 32 :: x
def joinL (l : List Tok) : List UInt8 := l.foldl addT []
theorem joinL_take {l : List Tok} {k : Nat} (h : k < l.length) : joinL (l.take (k + 1)) = addT (joinL (l.take k)) l[k] := by
  unfold joinL
  rw [List.take_succ_eq_append_getElem h, List.foldl_append]; rfl
theorem textK_ne {k n : Int} {s : ByteArray} {x : List UInt8} (h : textK k n s = some x) : x ≠ [] := by
  unfold textK at h
  intro e
  subst e
  split at h
  · split at h
    · rename_i h1; have h2 := Option.some.inj h; rw [h2] at h1; exact absurd h1 (by decide)
    · cases h
  · split at h
    · split at h
      · have h1 := Option.some.inj h
        unfold Lib.itoa at h1
        split at h1
        · cases h1
        · obtain ⟨c, r, hc, _⟩ := dec_first n.toNat
          rw [hc] at h1; cases h1
      · cases h
    · split at h
      · split at h
        · have h1 := Option.some.inj h
          simp [quoteL] at h1
        · cases h
      · split at h
        · split at h
          · rename_i h1; have h2 := Option.some.inj h; rw [h2] at h1; exact absurd h1 (by decide)
          · cases h
        · cases h
/-- What Join gives, where no part of it is too long. -/
theorem join_any (ao : Option Addr) (cap : Nat) (l : List Tok) (w : World) (hl : l.length ≤ 100000) (hra : ToksAt w w.heap.size ao l) (ht : Tab w)
    (hb : ∀ t ∈ l, t.s.size ≤ 1000000 ∧ (-9223372036854775808 ≤ t.n ∧ t.n ≤ 9223372036854775807)) (hsz : ∀ k, k ≤ l.length → (joinL (l.take k)).length ≤ 1000000) :
    Calls Tryd.prog 29 #[.slice ao l.length cap] w fun e w' => e = .returned (.string ⟨(joinL l).toArray⟩) ∧ Below w.heap.size w w' := by
  have Ht := Lib.hid ht
  have Hbd := Lib.hid hb
  have Hsz := Lib.hid hsz
  obtain ⟨R, hR⟩ : ∃ R, R = joinL l := ⟨_, rfl⟩
  rw [← hR]
  have HR := Lib.hid hR
  clear ht hb hsz hR
  go_enter Tryd.func29, Tryd.ntmps29
  go_wp2_with fail
  go_loopw [3, 9] (fun v i wr => ∃ (k : Nat) (acc : List UInt8) (ad : Option Addr) (cp : Nat), k ≤ l.length ∧ i = .int .i64 k ∧ v = .slice ad acc.length cp ∧ Hid (acc = joinL (l.take k)) ∧ OwnsB wr w.heap.size 5 (.slice ad acc.length cp) acc ∧ Below w.heap.size w wr) (fun _ i _ => l.length - (intOf i).toNat)
  case atStart => exact ⟨0, [], none, 0, Nat.zero_le _, rfl, rfl, rfl, OwnsB.nil _ _, Below.refl _ _⟩
  case round =>
    obtain ⟨k, acc, ad, cp, hk, rfl, rfl, hacc, hown, hbl⟩ := hrel
    have hs0 := hbl.size
    by_cases hlt : k < l.length
    · have hst := joinL_take hlt
      have hal : acc.length ≤ 1000000 := by rw [hacc.out]; exact Hsz.out k hk
      have hal2 : Hid ((addT acc l[k]).length ≤ 1000000) := by unfold Hid; rw [hacc.out, ← hst]; exact Hsz.out (k + 1) hlt
      have hbk := Hbd.out l[k] (List.getElem_mem hlt)
      have htx : textT l[k] = textK l[k].k l[k].n l[k].s := rfl
      obtain ⟨b1, o1, tk, ts, tn, tp, rfl, hB1, hv1, c1, c2, c3, c4⟩ := (hra.below hbl).at hlt
      rw [← hacc.out] at hst
      rw [hv1] at hst hbk htx hal2
      have hki : (k : Int) < (l.length : Int) := by omega
      have hki0 : (0 : Int) ≤ (k : Int) := by omega
      have Hst := Lib.hid hst
      have hT := fun w ht => tokenText_any tk tn tp ts w hbk.1 hbk.2 ht _ rfl
      have hbx : Below w.heap.size w (wr.alloc (.cells #[.int .i64 tk, .string ts, .int .i64 tn, .int .i64 tp] 50)) := hbl.alloc hs0 _
      cases hx : textK tk tn ts with
      | none =>
        have hnx : Hid (joinL (l.take (k + 1)) = acc) := by unfold Hid; rw [Hst.out]; unfold addT; rw [htx]; simp only [hx]
        rw [hx] at hT
        have HT := Lib.hid hT
        have Hbx := Lib.hid hbx
        have ze : (⟨([] : List UInt8).toArray⟩ : ByteArray).toList.isEmpty = true := by rw [toList_eq_data]; rfl
        clear hst hbk htx hal2 hT hx hv1 hbx
        go_wp2_with fail
        refine (HT.out _ (tab_below Ht.out Hbx.out)).mono ?_
        rintro e w1 ⟨rfl, hb1⟩
        have hown2 := (away_weak (r := none) (((Below.refl wr.heap.size wr).alloc (Nat.le_refl _) (.cells #[.int .i64 tk, .string ts, .int .i64 tn, .int .i64 tp] 50)).trans (hb1.mono (by simp)))).ownsB hown (by cases (Value.slice ad acc.length cp).ownBlock <;> simp)
        have hb2 := Hbx.out.trans (hb1.mono Hbx.out.size)
        clear hb1
        go_wp2_with fail
        exact ⟨⟨k + 1, acc, ad, cp, by omega, by go_num, rfl, hnx.out.symm, hown2, hb2⟩, by simp [intOf]; omega⟩
      | some x =>
        have hxne := textK_ne hx
        obtain ⟨ux, hux⟩ : ∃ ux : ByteArray, ux = ⟨x.toArray⟩ := ⟨_, rfl⟩
        have huxd : ux.data.toList = x := by rw [hux]
        have huxs : ux.size = x.length := by rw [hux]; simp [ByteArray.size]
        have hux0 : 0 < ux.size := by rw [huxs]; exact List.length_pos_iff.2 hxne
        have hadd : addT acc ⟨tk, ts, tn, tp⟩ = if acc = [] then x else acc ++ 32 :: x := by unfold addT; rw [htx]; simp only [hx]
        have hxl : ux.size ≤ 1000000 := by
          have := hal2.out
          rw [hadd] at this
          rw [huxs]
          split at this
          · exact this
          · simp at this; omega
        have hnx : Hid (joinL (l.take (k + 1)) = if acc = [] then x else acc ++ 32 :: x) := by unfold Hid; rw [Hst.out, hadd]
        have hT2 : ∀ w, Tab w → Calls Tryd.prog 57 #[.agg #[.int .i64 tk, .string ts, .int .i64 tn, .int .i64 tp]] w fun e w' => e = .returned (.string ux) ∧ Below w.heap.size w w' := by
          intro w h
          have := hT w h
          rw [hx] at this
          rw [hux]; exact this
        have HT := Lib.hid hT2
        have Hbx := Lib.hid hbx
        have Hxd := Lib.hid huxd
        have ze := strNonempty hux0
        clear hst hbk htx hal2 hT hT2 hx hv1 hbx hux huxd huxs hxne hadd
        by_cases ha0 : acc = []
        · have hlen0 : acc.length = 0 := by rw [ha0]; rfl
          have hz : ¬ (0 : Int) < (acc.length : Int) := by omega
          have hz2 : ¬ 0 < acc.length := by omega
          have Hnx : Hid (joinL (l.take (k + 1)) = acc ++ ux.data.toList) := by unfold Hid; rw [hnx.out, if_pos ha0, ha0, Hxd.out]; rfl
          clear ha0 hnx hlen0
          go_wp2_with fail
          refine (HT.out _ (tab_below Ht.out Hbx.out)).mono ?_
          rintro e w1 ⟨rfl, hb1⟩
          have hown2 := (away_weak (r := none) (((Below.refl wr.heap.size wr).alloc (Nat.le_refl _) (.cells #[.int .i64 tk, .string ts, .int .i64 tn, .int .i64 tp] 50)).trans (hb1.mono (by simp)))).ownsB hown (by cases (Value.slice ad acc.length cp).ownBlock <;> simp)
          have hb2 := Hbx.out.trans (hb1.mono Hbx.out.size)
          have hs2 := hb2.size
          clear hb1
          go_wp2_with (at_builtin; refine wpList_appS Tryd.underlying42 Tryd.underlying9 infoU8 _ rfl (.tmp 23) (.tmp 24) rfl w.heap.size (.slice ad acc.length cp) acc rfl hown2 ux rfl hux0 (by omega) hs2 ?_; intro l3 g3 cap3 w3 hl3 hown3 hb3)
          exact ⟨⟨k + 1, l3, _, cap3, by omega, by go_num, rfl, by unfold Hid; rw [hl3.out, Hnx.out], hown3, hb2.trans hb3⟩, by simp [intOf]; omega⟩
        · have hlen0 : 0 < acc.length := List.length_pos_iff.2 ha0
          have hz : (0 : Int) < (acc.length : Int) := by omega
          have Hnx : Hid (joinL (l.take (k + 1)) = (acc ++ [32]) ++ ux.data.toList) := by unfold Hid; rw [hnx.out, if_neg ha0, Hxd.out]; simp
          clear ha0 hnx
          go_wp2_with fail
          refine (HT.out _ (tab_below Ht.out Hbx.out)).mono ?_
          rintro e w1 ⟨rfl, hb1⟩
          have hown2 := (away_weak (r := none) (((Below.refl wr.heap.size wr).alloc (Nat.le_refl _) (.cells #[.int .i64 tk, .string ts, .int .i64 tn, .int .i64 tp] 50)).trans (hb1.mono (by simp)))).ownsB hown (by cases (Value.slice ad acc.length cp).ownBlock <;> simp)
          have hb2 := Hbx.out.trans (hb1.mono Hbx.out.size)
          have hs2 := hb2.size
          clear hb1
          go_wp2_with (first
            | (at_builtin; refine wpList_app Tryd.underlying42 infoU8 _ w1 rfl (.tmp 20) (.tmp 21) rfl w.heap.size (.slice ad acc.length cp) acc rfl hown2 [32] 1 1 _ rfl rfl rfl rfl rfl rfl rfl (by decide) (by omega) hs2 ?_; intro l2 g2 cap2 w2 hl2 hown4 haw4 hb4 hat4 hlt4)
            | (at_builtin; refine wpList_appS Tryd.underlying42 Tryd.underlying9 infoU8 _ rfl (.tmp 23) (.tmp 24) rfl w.heap.size (.slice (some ⟨g2, 0, none⟩) l2.length cap2) l2 rfl hown4 ux rfl hux0 (by rw [hl2.out]; simp; omega) (hb2.trans hb4).size ?_; intro l3 g3 cap3 w3 hl3 hown3 hb3))
          have hb5 := hb2.trans hb4
          exact ⟨⟨k + 1, l3, _, cap3, by omega, by go_num, rfl, by unfold Hid; rw [hl3.out, hl2.out, Hnx.out], hown3, hb5.trans hb3⟩, by simp [intOf]; omega⟩
    · have hkl : k = l.length := by omega
      have hfin : Hid (acc = R) := by unfold Hid; rw [hacc.out, HR.out, hkl, List.take_length]
      clear hkl
      go_wp2_with (refine wpList_b2s Tryd.underlying9 Tryd.underlying42 Tryd.underlying5 _ rfl (.tmp 27) rfl _ _ acc rfl hown ?_)
      go_ret
      exact ⟨by rw [← hfin.out]; rfl, hbl⟩
end Go.Proofs.YtninmolgkkhikaaDoor
