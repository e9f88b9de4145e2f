/- The tape's parts for bags: Entries. -/
import Derived.Test.YtdckpjkbchibjaaBi
namespace Go.Proofs.Ytdckpjkbchibjaa
open Go.RowKit Go.Proofs.EB
set_option maxHeartbeats 8000000
set_option maxRecDepth 100000
attribute [local go_sem] World.cell?_alloc_some

theorem OwnsV.rws {w : World} {B : Nat} {v : Value} {l : List V} (h : OwnsV w B v l) (hok : ∀ x ∈ l, x.ok) : ∃ ao cap, v = .slice ao l.length cap ∧ RwS w w.heap.size ⟨ao, cap, l⟩ ∧ (∀ b o, ao = some ⟨b, o, none⟩ → B ≤ b ∧ b < w.heap.size) := by
  obtain ⟨ao, cap, rfl, hr, hb, hn⟩ := h.rowAt hok
  have hc : l.length ≤ cap ∧ cap ≤ maxLen := by
    rcases h.2 with ⟨e, h0⟩ | ⟨g, c, cur, e, _, _, hn, hm, _⟩
    · simp only [Value.slice.injEq] at e
      rw [h0]; exact ⟨Nat.zero_le _, by rw [e.2.2]; simp [maxLen]⟩
    · simp only [Value.slice.injEq] at e
      rw [e.2.2]; exact ⟨hn, hm⟩
  exact ⟨ao, cap, rfl, ⟨hr, hn, hc.1, Nat.le_trans hc.1 hc.2⟩, fun b o e => by
    subst e
    refine World.ownsRow.lt h b ?_
    rcases h.2 with ⟨e, _⟩ | ⟨g, c, cur, e, _⟩
    · simp at e
    · simp only [Value.slice.injEq, Option.some.injEq, Addr.mk.injEq] at e
      obtain ⟨⟨rfl, rfl, _⟩, _⟩ := e
      rfl⟩
theorem RwS.away {w w' : World} {r : SL V} {q : Option Nat} (h : RwS w w.heap.size r) (ha : Away q w w') (hr : ∀ b o, r.ao = some ⟨b, o, none⟩ → some b ≠ q) : RwS w' w'.heap.size r :=
  ⟨(h.row.away ha (Nat.le_refl _) hr).mono ha.size, h.nil, h.cap, h.len⟩
theorem RwS.lt {w : World} {B : Nat} {r : SL V} (h : RwS w B r) (b o : Nat) (e : r.ao = some ⟨b, o, none⟩) : r.l = [] ∨ b < B := by
  rcases h.row.2 with h0 | ⟨b', o', e', hlt, _⟩
  · exact .inl h0
  · rw [e] at e'
    simp only [Option.some.injEq, Addr.mk.injEq] at e'
    exact .inr (by omega)
/-- Entries whose rows were made behind base, outside of the list's own block. -/
def EntOk (w : World) (base width : Nat) (M : Int) (vr : Value) (x : Be) : Prop :=
  RwS w w.heap.size x.r ∧ (∀ v ∈ x.r.l, vB v = true) ∧ x.r.l.length = width ∧ (-M ≤ x.n ∧ x.n ≤ M) ∧ ∀ b o, x.r.ao = some ⟨b, o, none⟩ → base ≤ b ∧ b < w.heap.size ∧ vr.ownBlock ≠ some b
theorem EntOk.away {w w' : World} {base width : Nat} {M : Int} {vr : Value} {x : Be} {q : Option Nat} (h : EntOk w base width M vr x) (ha : Away q w w') (hq : ∀ b, q = some b → b < base ∨ vr.ownBlock = some b) : EntOk w' base width M vr x := by
  obtain ⟨h1, h2, h3, h4, h5⟩ := h
  refine ⟨h1.away ha fun b o e hb => ?_, h2, h3, h4, fun b o e => ⟨(h5 b o e).1, Nat.lt_of_lt_of_le (h5 b o e).2.1 ha.size, (h5 b o e).2.2⟩⟩
  have hx := h5 b o e
  rcases hq b hb.symm with hl | hl
  · omega
  · exact hx.2.2 hl
def entCounts : Array Value := #[.int .i64 1, .int .i64 1, .int .i64 1, .int .i64 2, .int .i64 (-1), .int .i64 3, .int .i64 (-2), .int .i64 0]
theorem entCounts_at : ∀ i, i < 8 → ∃ x : Int, entCounts[i]? = some (.int .i64 x) ∧ -3 ≤ x ∧ x ≤ 3
  | 0, _ => ⟨_, rfl, by omega, by omega⟩
  | 1, _ => ⟨_, rfl, by omega, by omega⟩
  | 2, _ => ⟨_, rfl, by omega, by omega⟩
  | 3, _ => ⟨_, rfl, by omega, by omega⟩
  | 4, _ => ⟨_, rfl, by omega, by omega⟩
  | 5, _ => ⟨_, rfl, by omega, by omega⟩
  | 6, _ => ⟨_, rfl, by omega, by omega⟩
  | 7, _ => ⟨_, rfl, by omega, by omega⟩
  | n + 8, h => by omega
/-- A call of the tape that gives entries. -/
def EntsPost (w : World) (B g width n : Nat) (M : Int) (e : Ending) (w' : World) : Prop := ∃ v l, e = .returned v ∧ l.length ≤ n ∧ OwnsR encBe 2 w' w.heap.size 34 v l ∧ Took w B g w' ∧ Hid (∀ x ∈ l, EntOk w' w.heap.size width M v x)
theorem ent_away {r : Option Nat} {w w' : World} {B0 : Nat} {v : Value} {l : List Be} (ho : OwnsR encBe 2 w B0 34 v l) (h : Away r w w') (hr : ∀ b, r = some b → b < B0) : OwnsR encBe 2 w' B0 34 v l :=
  ho.away h (by
    cases hvb : v.ownBlock with
    | none => exact .inl rfl
    | some b => right; intro e; have h1 := ho.lt b hvb; have := hr b e.symm; omega)
theorem entries_any (B g width n : Nat) (w : World) (hw : width ≤ 16) (hn : n ≤ 1000) (h : TapeAt w B g) (hB : B ≤ w.heap.size) :
    Calls Try.prog 28 #[.pointer (some ⟨g, 0, none⟩), .int .i64 width, .int .i64 n] w (EntsPost w B g width n 3) := by
  have hgB : g < B := by obtain ⟨_, _, _, _, _, _, _, hg, _⟩ := h; exact hg
  have hT := Lib.hid h
  clear h
  go_enter Try.func28, Try.ntmps28
  go_wp2_with fail
  refine (next_any B g ((n : Int) + 1) w (by omega) (by omega) hT.out hB).mono ?_
  rintro e w1 ⟨r, rfl, hr0, hr1, hK⟩
  obtain ⟨m, rfl⟩ : ∃ m : Nat, r = (m : Int) := ⟨r.toNat, by omega⟩
  have hm : m ≤ n := by omega
  have HK := Lib.hid hK
  clear hr0 hr1 hK
  go_wp2_with fail
  go_loopw [7, 8] (fun v i wr => ∃ (k : Nat) (lo : List Be) (vr : Value), k ≤ m ∧ lo.length ≤ m - k ∧ i = .int .i64 k ∧ vr = v ∧ OwnsR encBe 2 wr w.heap.size 34 vr lo ∧ Hid (Took w B g wr) ∧ w.heap.size ≤ wr.heap.size ∧ Hid (∀ x ∈ lo, EntOk wr w.heap.size width 3 vr x)) (fun _ i _ => (intOf i).toNat)
  case atStart => exact ⟨m, [], _, Nat.le_refl _, by simp, rfl, rfl, OwnsR.nil, HK.out, HK.out.2.1.size, fun x hx => by simp at hx⟩
  case round =>
    obtain ⟨k, lo, vr, hkm, hkl, rfl, rfl, hown, hTk, hsz, hE⟩ := hrel
    have hkb : k ≤ 1000 := by omega
    have hll : lo.length ≤ 1000 := by omega
    by_cases hk : 0 < k
    · generalize wr = wo at *
      go_wp2_with fail
      go_loopw [9, 10] (fun v j wr => ∃ (q : Nat) (l : List V) (vq : Value), q ≤ width ∧ j = .int .i64 q ∧ l.length = q ∧ vq = v ∧ Hid (∀ x ∈ l, vB x = true ∧ x.ok) ∧ OwnsV wr wo.heap.size vq l ∧ Hid (Took wo B g wr) ∧ wo.heap.size ≤ wr.heap.size) (fun _ j _ => width - (intOf j).toNat)
      case atStart => exact ⟨0, [], _, Nat.zero_le _, rfl, rfl, rfl, fun x hx => by simp at hx, OwnsV.nil _ _, ⟨hTk.out.1, away_refl _ _, hTk.out.2.2⟩, Nat.le_refl _⟩
      case round =>
        obtain ⟨q, l, vq, hq, rfl, hlq, rfl, hall, hownV, hTq, hszq⟩ := hrel
        by_cases hqw : q < width
        · have Hlq := Lib.hid hlq
          have hl16 : l.length ≤ 16 := by omega
          have q0 : (q : Int) < (width : Int) := by omega
          clear hlq
          go_wp2_with fail
          refine (short_any B g _ hTq.out.1 hTq.out.2.2).mono ?_
          rintro e w2 ⟨k1, n1, s1, rfl, hv, hok, hK2⟩
          have Hv := Lib.hid hv
          have Hok := Lib.hid hok
          have HK2 := Lib.hid hK2
          have hs2 := hK2.2.1.size
          have hown2 : OwnsV w2 wo.heap.size vq l := hK2.2.1.owns hownV (by
            cases hvb : vq.ownBlock with
            | none => exact .inl rfl
            | some b => right; have := (World.ownsRow.lt hownV b hvb).1; simp; omega)
          clear hv hok hK2
          go_wp2_with (at_builtin; refine wpList_appV _ w2 rfl (.tmp 24) (.tmp 27) rfl wo.heap.size vq l rfl hown2 ⟨k1, n1, s1⟩ 1 rfl rfl rfl rfl rfl (by omega) (by omega) ?_; intro l3 g3 cap3 w3 hl3 hown3 haw3 hb3 hat3 hlt3)
          go_roundw
          case rel =>
            refine ⟨q + 1, l3, _, by omega, by go_num, by rw [hl3.out]; simp; exact Hlq.out, rfl, ?_, hown3, ?_, by have := hb3.size; omega⟩
            · intro x hx
              rw [hl3.out] at hx
              simp only [List.mem_append, List.mem_singleton] at hx
              rcases hx with hx | rfl
              · exact hall.out x hx
              · exact ⟨Hv.out, Hok.out⟩
            · have h2 := hTq.out.trans HK2.out
              refine ⟨h2.1.away haw3 (fun b hb => by have := (World.ownsRow.lt hown2 b hb).1; omega) h2.2.2, ?_, by have := hb3.size; have := h2.2.2; omega⟩
              exact ⟨haw3.os.trans h2.2.1.os, haw3.tape.trans h2.2.1.tape, haw3.output.trans h2.2.1.output, by have := haw3.size; have := h2.2.1.size; omega, fun b hb hne => (haw3.block b (by have := h2.2.1.size; omega) (fun e => by have := (World.ownsRow.lt hown2 b e.symm).1; omega)).trans (h2.2.1.block b hb hne)⟩
          case measure => simp [intOf]; omega
        · have hqe : l.length = width := by omega
          have q0 : ¬ (q : Int) < (width : Int) := by omega
          obtain ⟨ra, rc, rfl, hRw, hRb⟩ := hownV.rws fun x hx => (hall.out x hx).2
          have Hqe := Lib.hid hqe
          have HRw := Lib.hid hRw
          have HRb := Lib.hid hRb
          clear hqe hlq hRw hRb hownV
          have hTwo := hTq.out.below (below1 wr (.cells entCounts 3))
          have hCb := Lib.hid (heap_alloc_new wr (.cells entCounts 3))
          have hwrb := (below1 wr (.cells entCounts 3)).size
          have HRw2 := Lib.hid (HRw.out.later (below1 wr (.cells entCounts 3)))
          obtain ⟨T, hTe⟩ : ∃ T, T = wr.heap.size := ⟨_, rfl⟩
          have hTo : wo.heap.size ≤ T := by omega
          have hRlt := Lib.hid (fun b o e => HRw.out.lt b o e)
          rw [← hTe] at hCb
          go_wp2_with fail
          rw [← hTe]
          unfold entCounts at hCb hTwo HRw2 hwrb
          generalize (wr.alloc (.cells #[.int .i64 1, .int .i64 1, .int .i64 1, .int .i64 2, .int .i64 (-1), .int .i64 3, .int .i64 (-2), .int .i64 0] 3)) = wb at *
          have HTwo := Lib.hid hTwo
          clear hTwo hTe
          refine (next_any B g 8 wb (by decide) (by decide) HTwo.out.1 HTwo.out.2.2).mono ?_
          rintro e w5 ⟨r, rfl, hr0, hr1, hK5⟩
          obtain ⟨rn, rfl⟩ : ∃ rn : Nat, r = (rn : Int) := ⟨r.toNat, by omega⟩
          have hrn : rn < 8 := by omega
          have hlt1 : T < wb.heap.size := (Array.getElem?_eq_some_iff.1 hCb.out).1
          have m1 := (hK5.2.1.block T hlt1 (by simp; omega)).trans hCb.out
          obtain ⟨x, d0, hx3⟩ := entCounts_at rn hrn
          have e0 := box_cell m1 d0
          have hri : (rn : Int) < 8 := by omega
          have HT5 := Lib.hid (HTwo.out.trans hK5)
          have hs5 := HT5.out.2.1.size
          have own5 : OwnsR encBe 2 w5 w.heap.size 34 vr lo := ent_away hown HT5.out.2.1 (fun b hb => by simp at hb; omega)
          have HE5 := Lib.hid (fun x hx => (hE.out x hx).away HT5.out.2.1 (fun b hb => by left; simp at hb; omega))
          have HR5 := Lib.hid (HRw2.out.away hK5.2.1 (fun b o e => by have := HRb.out b o e; simp; omega))
          have HX3 := Lib.hid hx3
          have hsz5 : w.heap.size ≤ w5.heap.size := by omega
          have HK5s := hK5.2.1.size
          clear m1 d0 hr0 hr1 hK5 hx3 hCb
          have hfr : ∀ b o, ra = some ⟨b, o, none⟩ → wo.heap.size ≤ b ∧ b < w5.heap.size := fun b o e => by have := HRb.out b o e; have := HK5s; omega
          have Hfr := Lib.hid hfr
          clear hfr
          go_wp2_with (at_builtin; refine wpList_appR (enc := encBe) (m := 2) Try.underlying23 infoE rfl (by decide) encBe_len encBe_one _ w5 rfl (.tmp 29) (.tmp 37) rfl w.heap.size _ lo rfl own5 [⟨⟨ra, rc, l⟩, x⟩] 1 1 #[.slice ra l.length rc, .int .i64 x] rfl rfl rfl rfl rfl rfl rfl (by decide) (by omega) (by unfold maxLen; omega) hsz5 ?_; intro l3 g3 cap3 w3 hl3 hown3 haw3 hb3 hat3 hlt3)
          have hTw := (hTk.out.trans HT5.out).fresh haw3 (fun b hb => by have := (own5.lt b hb).1; omega)
          refine ⟨⟨k - 1, l3, _, by omega, by rw [hl3.out]; simp; omega, by rw [show ((k - 1 : Nat) : Int) = (k : Int) - 1 by omega] <;> rfl, rfl, hown3, hTw, hTw.2.1.size, ?_⟩, by show ((k : Int) - 1).toNat < ((k : Int)).toNat; omega⟩
          intro y hy
          rw [hl3.out] at hy
          have hown0 : ∀ b, vr.ownBlock = some b → b < wo.heap.size := fun b hb => (hown.lt b hb).2
          rcases List.mem_append.1 hy with hy | hy
          · obtain ⟨k1, k2, k3, k4, k5⟩ := HE5.out y hy
            refine ⟨k1.away haw3 (fun b o e => fun hb => (k5 b o e).2.2 hb.symm), k2, k3, k4, fun b o e => ⟨(k5 b o e).1, Nat.lt_of_lt_of_le (k5 b o e).2.1 haw3.size, ?_⟩⟩
            show some g3 ≠ some b
            intro hg
            have h9 := k5 b o e
            rcases hat3 with h8 | h8
            · exact h9.2.2 (h8.trans hg)
            · simp at hg; omega
          · rw [List.mem_singleton] at hy
            subst hy
            refine ⟨HR5.out.away haw3 (fun b o e => fun hb => ?_), fun v hv => (hall.out v hv).1, Hqe.out, HX3.out, fun b o e => ⟨?_, ?_, ?_⟩⟩
            · have := (Hfr.out b o e).1; have := hown0 b hb.symm; omega
            · have := (Hfr.out b o e).1; omega
            · have := (Hfr.out b o e).2; have := haw3.size; omega
            · show some g3 ≠ some b
              intro hg
              have h9 := Hfr.out b o e
              rcases hat3 with h8 | h8
              · have := hown0 g3 h8; simp at hg; omega
              · simp at hg; omega
    · have hk0 : k = 0 := by omega
      subst hk0
      go_wp2_with fail
      go_ret
      exact ⟨_, lo, rfl, by omega, hown, hTk.out, hE⟩
end Go.Proofs.Ytdckpjkbchibjaa
