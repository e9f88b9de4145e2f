/- The tape's SpoilBag. -/
import Derived.Test.YtdckpjkbchibjaaBl
import Derived.RegionTactic
import Derived.ChangeAlike
namespace Go.Proofs.Ytdckpjkbchibjaa
open Go.RowKit Go.Proofs.EB
set_option maxHeartbeats 8000000
set_option maxRecDepth 100000
attribute [local go_sem] World.cell?_alloc_some

theorem made_zeroB (n i j : Nat) (hi : i < n) (hj : j < 3) : (madeCells #[.int .i64 0, .int .i64 0, .string ⟨#[]⟩] (n * 3)).toList[i * 3 + j]? = some (#[Value.int .i64 0, .int .i64 0, .string ⟨#[]⟩][j]'(by simpa using hj)) := by
  have h1 : i * 3 + j < n * 3 := by omega
  have h2 : (i * 3 + j) % 3 = j := by omega
  have h3 : (#[.int .i64 0, .int .i64 0, .string ⟨#[]⟩] : Array Value).size = 3 := rfl
  simp only [madeCells, Array.toList_map, Array.toList_range, List.getElem?_map, List.getElem?_range h1, Option.map_some, h3, h2]
  match j, hj with
  | 0, _ => rfl
  | 1, _ => rfl
  | 2, _ => rfl
theorem zeroRowB {w : World} {B g n : Nat} (h : w.ownsRow B 42 3 (.slice (some ⟨g, 0, none⟩) n n) n (madeCells #[.int .i64 0, .int .i64 0, .string ⟨#[]⟩] (n * 3)).toList) : RowAt w w.heap.size (some ⟨g, 0, none⟩) (List.replicate n V.zero) := by
  refine ⟨fun v hv => ?_, .inr ⟨g, 0, rfl, (h.lt g rfl).2, fun i hi => ?_⟩⟩
  · rw [(List.mem_replicate.1 hv).2]
    exact ⟨by simp [V.zero], by simp [V.zero], by simp [V.zero, maxLen, ByteArray.size]⟩
  · simp only [List.length_replicate] at hi
    simp only [List.getElem_replicate]
    have c0 := h.cells (g := g) rfl _ _ (made_zeroB n i 0 hi (by omega))
    have c1 := h.cells (g := g) rfl _ _ (made_zeroB n i 1 hi (by omega))
    have c2 := h.cells (g := g) rfl _ _ (made_zeroB n i 2 hi (by omega))
    rw [Go.WideShapes.add_plain] at c0 c1 c2
    exact ⟨by simpa [V.zero] using c0, by simpa [Nat.add_assoc, V.zero] using c1, by simpa [Nat.add_assoc, V.zero] using c2⟩
/-- A row, a list and its rows lie apart from a block. -/
def OffB (g : Nat) (r : SL V) : Prop := r.l = [] ∨ ∀ b o, r.ao = some ⟨b, o, none⟩ → b ≠ g
def Apart (g : Nat) (s : SL Be) : Prop := (s.l = [] ∨ ∀ b o, s.ao = some ⟨b, o, none⟩ → b ≠ g) ∧ ∀ x ∈ s.l, OffB g x.r
theorem Behind.apart {base g : Nat} {s : SL Be} (h : Behind base s) (hg : g < base) : Apart g s := ⟨.inr fun b o e => by have := h.1 b o e; omega, fun x hx => .inr fun b o e => by have := h.2 x hx b o e; omega⟩
theorem RwS.took {w w' : World} {B g : Nat} {r : SL V} (h : RwS w w.heap.size r) (hg : OffB g r) (hT : Took w B g w') : RwS w' w'.heap.size r := by
  rcases hg with hg | hg
  · exact ⟨⟨h.row.1, .inl hg⟩, h.nil, h.cap, h.len⟩
  · exact h.away hT.2.1 fun b o e => by have := hg b o e; simpa using this
theorem BeOk.took {w w' : World} {B g : Nat} {x : Be} (h : BeOk w w.heap.size x) (hg : OffB g x.r) (hT : Took w B g w') : BeOk w' w'.heap.size x := ⟨h.row.took hg hT, h.n⟩
theorem BagS.took {w w' : World} {B g : Nat} {s : SL Be} (h : BagS w w.heap.size s) (hA : Apart g s) (hT : Took w B g w') : BagS w' w'.heap.size s :=
  ⟨hA.1.elim (fun e => .inl e) (fun hA1 => (h.row.away hT.2.1 (Nat.le_refl _) (fun b o e => by have := hA1 b o e; simpa using this)).mono hT.2.1.size), RdS.nil h, h.cap, h.len, fun x hx => (h.each x hx).took (hA.2 x hx) hT⟩
theorem BagS.tookB {w w' : World} {B B0 g : Nat} {s : SL Be} (h : BagS w B0 s) (hA : Apart g s) (hT : Took w B g w') (hB : B0 ≤ w.heap.size) : BagS w' B0 s :=
  ⟨hA.1.elim (fun e => .inl e) (fun hA1 => h.row.away hT.2.1 hB (fun b o e => by have := hA1 b o e; simpa using this)), RdS.nil h, h.cap, h.len, fun x hx => ⟨by
    have hr := (h.each x hx).row
    rcases hA.2 x hx with hg | hg
    · exact ⟨⟨hr.row.1, .inl hg⟩, hr.nil, hr.cap, hr.len⟩
    · exact ⟨hr.row.away hT.2.1 hB (fun b o e => by have := hg b o e; simpa using this), hr.nil, hr.cap, hr.len⟩, (h.each x hx).n⟩⟩
theorem row_off {w : World} {B g : Nat} {r : SL V} (h : RwS w B r) (hg : B ≤ g) : OffB g r := by
  rcases h.row.2 with h0 | ⟨b, off, e, hlt, _⟩
  · exact .inl h0
  · refine .inr fun b' o e' => ?_
    rw [e] at e'
    simp only [Option.some.injEq, Addr.mk.injEq] at e'
    omega
/-- What is older than a block lies apart from it. -/
theorem old_apart {w : World} {B g : Nat} {s : SL Be} (h : BagS w B s) (hg : B ≤ g) : Apart g s := by
  refine ⟨?_, fun x hx => row_off (h.each x hx).row hg⟩
  rcases h.row with h0 | ⟨b, off, e, hlt, _⟩
  · exact .inl h0
  · refine .inr fun b' o e' => ?_
    rw [e] at e'
    simp only [Option.some.injEq, Addr.mk.injEq] at e'
    omega
def SpoilPost (w : World) (B g N : Nat) (e : Ending) (w' : World) : Prop := ∃ ao cap l, e = .returned (.slice ao l.length cap) ∧ l.length ≤ N ∧ Hid (BagS w' w'.heap.size ⟨ao, cap, l⟩) ∧ Took w B g w' ∧ Hid (Apart g ⟨ao, cap, l⟩)
theorem spoil_fin {w w' : World} {B g N b cp : Nat} {l' : List Be} (hown : OwnsR encBe 2 w' w.heap.size 34 (.slice (some ⟨b, 0, none⟩) l'.length cp) l') (hl : l'.length ≤ N) (hT : Took w B g w') (hg : g < w.heap.size)
    (he : ∀ x ∈ l', BeOk w' w'.heap.size x) (hr : ∀ x ∈ l', OffB g x.r) : SpoilPost w B g N (.returned (.slice (some ⟨b, 0, none⟩) l'.length cp)) w' := by
  obtain ⟨ao1, cap1, e, hrr, hf, hn, hc, hm⟩ := OwnsR.rAt encBe_len hown
  simp only [Value.slice.injEq] at e
  obtain ⟨rfl, _, rfl⟩ := e
  exact ⟨_, _, l', rfl, hl, ⟨hrr, hn, hc, Nat.le_trans hc hm, he⟩, hT, .inr fun b o e => by have := (hf b o e).1; omega, hr⟩
theorem mem_set_or {l : List Be} {i : Nat} {y x : Be} (h : x ∈ l.set i y) : x ∈ l ∨ x = y := List.mem_or_eq_of_mem_set h
/-- Both cells of an element. -/
theorem own_setB {w : World} {B g cap : Nat} {l : List Be} {T : TypeId} (h : OwnsR encBe 2 w B T (.slice (some ⟨g, 0, none⟩) l.length cap) l) {i : Nat} (hi : i < l.length) (y : Be) :
    OwnsR encBe 2 ((w.setCell ⟨g, i * 2, none⟩ (.slice y.r.ao y.r.l.length y.r.cap)).setCell ⟨g, i * 2 + 1, none⟩ (.int .i64 y.n)) B T (.slice (some ⟨g, 0, none⟩) (l.set i y).length cap) (l.set i y) := by
  have h1 := own_setR h hi y.r
  have h2 := own_setN h1 (i := i) (by simpa using hi) y.n
  rw [List.set_set, List.getElem_set_self] at h2
  exact h2
theorem row_one (w : World) (k n : Int) (s : ByteArray) (hok : (⟨k, n, s⟩ : V).ok) : RwS (w.alloc (.cells #[.int .i64 k, .int .i64 n, .string s] 42)) (w.alloc (.cells #[.int .i64 k, .int .i64 n, .string s] 42)).heap.size ⟨some ⟨w.heap.size, 0, none⟩, 1, [⟨k, n, s⟩]⟩ := by
  have hn := heap_alloc_new w (.cells #[.int .i64 k, .int .i64 n, .string s] 42)
  refine ⟨⟨fun v hv => by rw [List.mem_singleton] at hv; subst hv; exact hok, .inr ⟨_, _, rfl, by simp, fun i hi => ?_⟩⟩, fun e => by simp at e, Nat.le_refl _, by simp [maxLen]⟩
  have h0 : i = 0 := by simpa using hi
  subst h0
  exact ⟨box_cell hn rfl, box_cell hn rfl, box_cell hn rfl⟩
/-- A call of the tape that gives a row of valid values, with its capacity. -/
def RowsPost (w : World) (B g n : Nat) (e : Ending) (w' : World) : Prop := ∃ ao cap l, e = .returned (.slice ao l.length cap) ∧ l.length ≤ n ∧ (∀ x ∈ l, vB x = true) ∧ RwS w' w'.heap.size ⟨ao, cap, l⟩ ∧ Took w B g w' ∧ (∀ b o, ao = some ⟨b, o, none⟩ → w.heap.size ≤ b)
theorem trow_rws (B g n : Nat) (w : World) (hn : n ≤ 100000000) (h : TapeAt w B g) (hB : B ≤ w.heap.size) :
    Calls Try.prog 14 #[.pointer (some ⟨g, 0, none⟩), .int .i64 n] w (RowsPost w B g n) := by
  have hgB : g < B := by obtain ⟨_, _, _, _, _, _, _, hg, _⟩ := h; exact hg
  have hT := Lib.hid h
  clear h
  go_enter Try.func14, Try.ntmps14
  go_wp2_with fail
  refine (next_any B g ((n : Int) + 1) w (by omega) (by omega) hT.out hB).mono ?_
  rintro e w1 ⟨r, rfl, hr0, hr1, hK⟩
  obtain ⟨m, rfl⟩ : ∃ m : Nat, r = (m : Int) := ⟨r.toNat, by omega⟩
  have hm : m ≤ n := by omega
  have HK := Lib.hid hK
  clear hr0 hr1 hK
  go_wp2_with fail
  go_loopw [5, 6] (fun v i wr => ∃ (k : Nat) (l : List V) (vr : Value), k + l.length = m ∧ i = .int .i64 k ∧ vr = v ∧ Hid (∀ x ∈ l, vB x = true ∧ x.ok) ∧ OwnsV wr w.heap.size vr l ∧ Hid (Took w B g wr) ∧ w.heap.size ≤ wr.heap.size) (fun _ i _ => (intOf i).toNat)
  case atStart => exact ⟨m, [], _, by simp, rfl, rfl, fun x hx => by simp at hx, OwnsV.nil _ _, HK.out, HK.out.2.1.size⟩
  case round =>
    obtain ⟨k, l, vr, hkl, rfl, rfl, hall, hown, hTk, hsz⟩ := hrel
    have hle : l.length ≤ 100000000 := by omega
    have hkb : k ≤ 100000000 := by omega
    have Hkl := Lib.hid hkl
    clear hkl
    by_cases hk : 0 < k
    · go_wp2_with fail
      refine (tvalue_any B g _ hTk.out.1 hTk.out.2.2).mono ?_
      rintro e w2 ⟨k1, n1, s1, rfl, hv, hok, hK2⟩
      have Hv := Lib.hid hv
      have Hok := Lib.hid hok
      have HK2 := Lib.hid hK2
      have hs2 := hK2.2.1.size
      have hown2 : OwnsV w2 w.heap.size vr l := hK2.2.1.owns hown (by
        cases hvb : vr.ownBlock with
        | none => exact .inl rfl
        | some b => right; have := (World.ownsRow.lt hown b hvb).1; simp; omega)
      clear hv hok hK2
      go_wp2_with (at_builtin; refine wpList_appV _ w2 rfl (.tmp 15) (.tmp 18) rfl w.heap.size vr l rfl hown2 ⟨k1, n1, s1⟩ 1 rfl rfl rfl rfl rfl (by omega) (by omega) ?_; intro l3 g3 cap3 w3 hl3 hown3 haw3 hb3 hat3 hlt3)
      refine ⟨⟨k - 1, l3, _, ?_, by rw [show ((k - 1 : Nat) : Int) = (k : Int) - 1 by omega] <;> rfl, rfl, ?_, hown3, ?_, by have := hb3.size; omega⟩, by show ((k : Int) - 1).toNat < ((k : Int)).toNat; omega⟩
      · rw [hl3.out]; have := Hkl.out; simp; omega
      · intro x hx
        rw [hl3.out] at hx
        simp only [List.mem_append, List.mem_singleton] at hx
        rcases hx with hx | rfl
        · exact hall.out x hx
        · exact ⟨Hv.out, Hok.out⟩
      · have h2 := hTk.out.trans HK2.out
        refine ⟨h2.1.away haw3 (fun b hb => by have := (World.ownsRow.lt hown2 b hb).1; omega) h2.2.2, ?_, by have := hb3.size; have := h2.2.2; omega⟩
        exact ⟨haw3.os.trans h2.2.1.os, haw3.tape.trans h2.2.1.tape, haw3.output.trans h2.2.1.output, by have := haw3.size; have := h2.2.1.size; omega, fun b hb hne => (haw3.block b (by have := h2.2.1.size; omega) (fun e => by have := (World.ownsRow.lt hown2 b e.symm).1; omega)).trans (h2.2.1.block b hb hne)⟩
    · have hk0 : k = 0 := by omega
      subst hk0
      obtain ⟨ao, cap, rfl, hrow, hlo⟩ := hown.rws fun x hx => (hall.out x hx).2
      have Hrow := Lib.hid hrow
      have Hlo := Lib.hid hlo
      clear hrow hlo
      go_wp2_with fail
      go_ret
      exact ⟨ao, cap, l, rfl, by have := Hkl.out; omega, fun x hx => (hall.out x hx).1, Hrow.out, hTk.out, fun b o e => (Hlo.out b o e).1⟩
theorem tspoilBag_any (B g : Nat) (ao : Option Addr) (cap : Nat) (l : List Be) (hl : l.length ≤ 1000) (w : World) (hT : TapeAt w B g) (hB : B ≤ w.heap.size) (hS : BagS w w.heap.size ⟨ao, cap, l⟩) (hA : Apart g ⟨ao, cap, l⟩) :
    Calls Try.prog 13 #[.pointer (some ⟨g, 0, none⟩), .slice ao l.length cap] w (SpoilPost w B g (l.length + 1)) := by
  have hgB : g < B := by obtain ⟨_, _, _, _, _, _, _, hg, _⟩ := hT; exact hg
  have hown0 : OwnsR encBe 2 (w.alloc (.cells #[] 34)) w.heap.size 34 (.slice (some ⟨w.heap.size, 0, none⟩) ([] : List Be).length 0) [] := ownsR_new encBe_len (heap_alloc_new _ _) (Nat.le_refl _) rfl (by simp [maxLen])
  have hA1 := hS.row.later (below1 w (.cells #[] 34))
  have hK0 := Lib.hid (tookBelow hT hB (below1 w (.cells #[] 34)))
  have hnil := RdS.nil hS
  have HE := Lib.hid hS.each
  have HA := Lib.hid hA.2
  clear hT hS hA
  dsimp only at hnil hA1
  go_enter Try.func13, Try.ntmps13
  go_wp2_with (at_builtin; refine wpList_copyR (enc := encBe) (m := 2) Try.underlying23 infoE rfl (by decide) encBe_len encBe_one (w.alloc (.cells #[] 34)) rfl (.tmp 7) (.tmp 8) rfl w.heap.size _ [] rfl hown0 _ ao cap l rfl hA1 hnil ?_ ?_ (by simp) ?_)
  · (try simp only [List.length_nil, Nat.zero_add]); omega
  · unfold maxLen; (try simp only [List.length_nil, Nat.zero_add]); omega
  intro l1 v1 w1 hl1' hown1 haw1 hb1 _ hne
  obtain ⟨b, cp, rfl, hbB, hbl⟩ := own_form hown1 hne
  have hl1e : l1 = l := hl1'.out
  subst hl1e
  have HK := Lib.hid (hK0.out.fresh haw1 (fun k hk => by simp [Value.ownBlock] at hk; omega))
  have Hown := Lib.hid hown1
  have hBb : B ≤ b := by omega
  have hgw : g < w.heap.size := by omega
  clear hown1 haw1 hb1 hne hl1' hown0 hA1 hK0
  by_cases hz : l1.length = 0
  · have z1 : ((l1.length : Int) == 0) = true := by rw [hz]; rfl
    clear hz
    go_wp2_with fail
    refine (trow_rws B g 2 w1 (by decide) HK.out.1 HK.out.2.2).mono ?_
    rintro e w2 ⟨xo, xc, x, rfl, hx, hxv, hxr, hxT, hxl⟩
    have HT2 := Lib.hid (HK.out.trans hxT)
    have HR2 := Lib.hid hxr
    have HL2 := Lib.hid (fun b o e => Nat.le_trans HK.out.2.1.size (hxl b o e))
    have hs2 := HT2.out.2.1.size
    clear hx hxv hxr hxT hxl
    go_wp2_with fail
    go_ret
    have ho : OwnsR encBe 2 (w2.alloc (.cells #[.slice xo x.length xc, .int .i64 0] 34)) w.heap.size 34 (.slice (some ⟨w2.heap.size, 0, none⟩) [(⟨⟨xo, xc, x⟩, 0⟩ : Be)].length 1) [⟨⟨xo, xc, x⟩, 0⟩] :=
      ownsR_new (l := [(⟨⟨xo, xc, x⟩, 0⟩ : Be)]) encBe_len (heap_alloc_new w2 _) hs2 rfl (by simp [maxLen])
    refine spoil_fin ho (by simp) (HT2.out.below (below1 w2 _)) hgw (fun y hy => ?_) (fun y hy => ?_)
    · rw [List.mem_singleton] at hy; subst hy
      exact ⟨HR2.out.later (below1 w2 _), by unfold n64; dsimp only; omega⟩
    · rw [List.mem_singleton] at hy; subst hy
      refine .inr fun b o e => ?_
      have := HL2.out b o e
      omega
  · have z1 : ((l1.length : Int) == 0) = false := beq_eq_false_iff_ne.2 (by omega)
    have hpos : 0 < l1.length := by omega
    clear hz
    go_wp2_with fail
    refine (next_any B g l1.length w1 (by omega) (by omega) HK.out.1 HK.out.2.2).mono ?_
    rintro e w2 ⟨i0, rfl, hi0, hi1, hK⟩
    obtain ⟨i, rfl⟩ : ∃ i : Nat, i0 = i := ⟨i0.toNat, by omega⟩
    have hi : i < l1.length := by omega
    have Hown := Lib.hid (ent_away Hown.out hK.2.1 (fun b hb => by simp at hb; omega))
    replace HK := Lib.hid (HK.out.trans hK)
    have Hi := Lib.hid hi
    have hii : (i : Int) < (l1.length : Int) := by omega
    have hi00 : (0 : Int) ≤ (i : Int) := by omega
    clear hK hi0 hi1
    go_wp2_with fail
    refine (next_any B g 6 w2 (by decide) (by decide) HK.out.1 HK.out.2.2).mono ?_
    rintro e w3 ⟨r, rfl, hr0, hr1, hK⟩
    have Hown := Lib.hid (ent_away Hown.out hK.2.1 (fun b hb => by simp at hb; omega))
    replace HK := Lib.hid (HK.out.trans hK)
    have hcase : r = 0 ∨ r = 1 ∨ r = 2 ∨ r = 3 ∨ r = 4 ∨ r = 5 := by omega
    clear hK hr0 hr1
    rcases hcase with rfl | rfl | rfl | rfl | rfl | rfl
    · obtain ⟨c0, c1, f0, f1⟩ := own_cells Hown.out Hi.out
      have hb3 := (Hown.out.lt b rfl).2
      go_wp2_with fail
      go_ret
      have hf := own_setN Hown.out Hi.out 0
      have hT := HK.out.setCell (p := ⟨b, i * 2 + 1, none⟩) hBb hbB (.int .i64 0)
      rw [show l1.length = (l1.set i ⟨l1[i].r, 0⟩).length by simp]
      refine spoil_fin hf (by simp) hT hgw (fun x hx => ?_) (fun x hx => ?_)
      · rcases mem_set_or hx with hx | rfl
        · exact (HE.out x hx).took (HA.out x hx) hT
        · exact ⟨((HE.out _ (List.getElem_mem Hi.out)).took (HA.out _ (List.getElem_mem Hi.out)) hT).row, by unfold n64; dsimp only; omega⟩
      · rcases mem_set_or hx with hx | rfl
        · exact HA.out x hx
        · exact HA.out l1[i] (List.getElem_mem Hi.out)
    · -- a count at the limits
      have hTa := HK.out.below (below1 w3 (.cells #[.int .i64 262144, .int .i64 262145, .int .i64 (-262145)] 2))
      have hCb := Lib.hid (heap_alloc_new w3 (.cells #[.int .i64 262144, .int .i64 262145, .int .i64 (-262145)] 2))
      have hOa := Lib.hid (OwnsR.below Hown.out (below1 w3 (.cells #[.int .i64 262144, .int .i64 262145, .int .i64 (-262145)] 2)))
      obtain ⟨T, hTe⟩ : ∃ T, T = w3.heap.size := ⟨_, rfl⟩
      have hTg : g ≠ T := by have := (Hown.out.lt b rfl).2; omega
      rw [← hTe] at hCb
      go_wp2_with fail
      rw [← hTe]
      generalize (w3.alloc (.cells #[.int .i64 262144, .int .i64 262145, .int .i64 (-262145)] 2)) = wb at *
      have HTa := Lib.hid hTa
      clear hTa hTe
      refine (next_any B g 3 wb (by decide) (by decide) HTa.out.1 HTa.out.2.2).mono ?_
      rintro e w5 ⟨r, rfl, hr0, hr1, hK5⟩
      obtain ⟨rn, rfl⟩ : ∃ rn : Nat, r = (rn : Int) := ⟨r.toNat, by omega⟩
      have hrn : rn = 0 ∨ rn = 1 ∨ rn = 2 := by omega
      have hlt1 : T < wb.heap.size := (Array.getElem?_eq_some_iff.1 hCb.out).1
      have m1 := (hK5.2.1.block T hlt1 (by simp; omega)).trans hCb.out
      obtain ⟨x, e0, hx3⟩ : ∃ x : Int, w5.cell? ⟨T, rn, none⟩ = some (.int .i64 x) ∧ -262145 ≤ x ∧ x ≤ 262145 := by
        rcases hrn with rfl | rfl | rfl
        · exact ⟨_, box_cell m1 rfl, by omega, by omega⟩
        · exact ⟨_, box_cell m1 rfl, by omega, by omega⟩
        · exact ⟨_, box_cell m1 rfl, by omega, by omega⟩
      have hri : (rn : Int) < 3 := by omega
      have HT5 := Lib.hid (HTa.out.trans hK5)
      have Hown5 := Lib.hid (ent_away hOa.out hK5.2.1 (fun b hb => by simp at hb; omega))
      obtain ⟨c0, c1, f0, f1⟩ := own_cells Hown5.out Hi.out
      have HX3 := Lib.hid hx3
      clear m1 hr0 hr1 hrn hK5 hx3 hCb hOa
      go_wp2_with fail
      go_ret
      have hf := own_setN Hown5.out Hi.out x
      have hT := HT5.out.setCell (p := ⟨b, i * 2 + 1, none⟩) hBb hbB (.int .i64 x)
      rw [show l1.length = (l1.set i ⟨l1[i].r, x⟩).length by simp]
      refine spoil_fin hf (by simp) hT hgw (fun y hy => ?_) (fun y hy => ?_)
      · rcases mem_set_or hy with hy | rfl
        · exact (HE.out y hy).took (HA.out y hy) hT
        · exact ⟨((HE.out _ (List.getElem_mem Hi.out)).took (HA.out _ (List.getElem_mem Hi.out)) hT).row, by have := HX3.out; unfold n64; dsimp only; omega⟩
      · rcases mem_set_or hy with hy | rfl
        · exact HA.out y hy
        · exact HA.out l1[i] (List.getElem_mem Hi.out)
    · -- an entry twice
      obtain ⟨c0, c1, f0, f1⟩ := own_cells Hown.out Hi.out
      have hxm := Lib.hid (List.getElem_mem Hi.out)
      generalize l1[i] = x at *
      obtain ⟨⟨xa, xc, xl⟩, n⟩ := x
      dsimp only at *
      have hs3 := HK.out.2.1.size
      have hown3 := Hown.out
      go_wp2_with (at_builtin; refine wpList_appR (enc := encBe) (m := 2) Try.underlying23 infoE rfl (by decide) encBe_len encBe_one _ w3 rfl (.tmp 50) (.tmp 55) rfl w.heap.size _ l1 rfl hown3 [⟨⟨xa, xc, xl⟩, n⟩] 1 1 #[.slice xa xl.length xc, .int .i64 n] rfl rfl rfl rfl rfl rfl rfl (by decide) (by omega) (by unfold maxLen; omega) hs3 ?_; intro l4 g4 cap4 w4 hl4 hown4 haw4 hb4 hat4 hlt4)
      go_ret
      have hT := HK.out.fresh haw4 (fun k hk => by have := (hown3.lt k hk).1; omega)
      refine spoil_fin hown4 (by rw [hl4.out]; simp) hT hgw (fun y hy => ?_) (fun y hy => ?_)
      · rw [hl4.out] at hy
        rcases List.mem_append.1 hy with hy | hy
        · exact (HE.out y hy).took (HA.out y hy) hT
        · rw [List.mem_singleton] at hy; subst hy; exact (HE.out _ hxm.out).took (HA.out _ hxm.out) hT
      · rw [hl4.out] at hy
        rcases List.mem_append.1 hy with hy | hy
        · exact HA.out y hy
        · rw [List.mem_singleton] at hy; subst hy; exact HA.out _ hxm.out
    · -- a row that is not valid
      have hr1 := Lib.hid (row_one w3 1 1 ⟨#[120]⟩ (by simp [V.ok, maxLen, ByteArray.size]))
      have hOa := Lib.hid (OwnsR.below Hown.out (below1 w3 (.cells #[.int .i64 1, .int .i64 1, .string ⟨#[120]⟩] 42)))
      have hTa := Lib.hid (HK.out.below (below1 w3 (.cells #[.int .i64 1, .int .i64 1, .string ⟨#[120]⟩] 42)))
      obtain ⟨c0, c1, f0, f1⟩ := own_cells hOa.out Hi.out
      have hb3 := (Hown.out.lt b rfl).2
      have hgT := HK.out.2.1.size
      go_wp2_with fail
      go_ret
      have hf := own_setR hOa.out Hi.out ⟨some ⟨w3.heap.size, 0, none⟩, 1, [⟨1, 1, ⟨#[120]⟩⟩]⟩
      have hT := hTa.out.setCell (p := ⟨b, i * 2, none⟩) hBb hbB (.slice (some ⟨w3.heap.size, 0, none⟩) 1 1)
      rw [← World.setCell_alloc_past (w := w3) _ b _ _ hb3]
      rw [show l1.length = (l1.set i ⟨⟨some ⟨w3.heap.size, 0, none⟩, 1, [⟨1, 1, ⟨#[120]⟩⟩]⟩, l1[i].n⟩).length by simp]
      refine spoil_fin hf (by simp) hT hgw (fun y hy => ?_) (fun y hy => ?_)
      · rcases mem_set_or hy with hy | rfl
        · exact (HE.out y hy).took (HA.out y hy) hT
        · refine ⟨RwS.away hr1.out (away_setCell _ ⟨b, i * 2, none⟩ _) (fun b' o e => ?_), (HE.out _ (List.getElem_mem Hi.out)).n⟩
          simp only [Option.some.injEq, Addr.mk.injEq] at e
          simp; omega
      · rcases mem_set_or hy with hy | rfl
        · exact HA.out y hy
        · refine .inr fun b' o e => ?_
          simp only [Option.some.injEq, Addr.mk.injEq] at e
          omega
    · -- two entries exchanged
      obtain ⟨c0, c1, f0, f1⟩ := own_cells Hown.out Hi.out
      obtain ⟨d0, d1, g0, g1⟩ := own_cells Hown.out hpos
      have hb3 := (Hown.out.lt b rfl).2
      simp only [Nat.zero_mul, Nat.zero_add] at d0 d1 g0 g1
      have hpi : (0 : Int) < (l1.length : Int) := by omega
      by_cases hi0 : i = 0
      · subst hi0
        clear c0 c1 f0 f1
        go_wp2_with fail
        go_region
        go_wp2_with fail
        go_ret
        have h1 := own_setB Hown.out hpos l1[0]
        have h2 := own_setB h1 (i := 0) (by simpa using hpos) l1[0]
        simp only [Nat.zero_mul, Nat.zero_add] at h2
        have hf : OwnsR encBe 2 (((((w3.setCell ⟨b, 0, none⟩ (.slice l1[0].r.ao l1[0].r.l.length l1[0].r.cap)).setCell ⟨b, 1, none⟩ (.int .i64 l1[0].n)).setCell ⟨b, 0, none⟩ (.slice l1[0].r.ao l1[0].r.l.length l1[0].r.cap)).setCell ⟨b, 1, none⟩ (.int .i64 l1[0].n)).drew) w.heap.size 34 (.slice (some ⟨b, 0, none⟩) ((l1.set 0 l1[0]).set 0 l1[0]).length cp) ((l1.set 0 l1[0]).set 0 l1[0]) := h2
        have hT := ((((HK.out.setCell (p := ⟨b, 0, none⟩) hBb hbB (.slice l1[0].r.ao l1[0].r.l.length l1[0].r.cap)).setCell (p := ⟨b, 1, none⟩) hBb hbB (.int .i64 l1[0].n)).setCell (p := ⟨b, 0, none⟩) hBb hbB (.slice l1[0].r.ao l1[0].r.l.length l1[0].r.cap)).setCell (p := ⟨b, 1, none⟩) hBb hbB (.int .i64 l1[0].n)).below (Below.refl _ _).drew
        have hmem : ∀ y ∈ (l1.set 0 l1[0]).set 0 l1[0], y ∈ l1 := fun y hy => by
          rcases mem_set_or hy with hy | rfl
          · rcases mem_set_or hy with hy | rfl
            · exact hy
            · exact List.getElem_mem hpos
          · exact List.getElem_mem hpos
        have fin := spoil_fin (N := l1.length + 1) hf (by simp) hT hgw (fun y hy => (HE.out y (hmem y hy)).took (HA.out y (hmem y hy)) hT) (fun y hy => HA.out y (hmem y hy))
        rw [List.length_set, List.length_set] at fin
        exact fin
      · go_wp2_with fail
        go_region
        go_wp2_with fail
        go_ret
        have h1 := own_setB Hown.out Hi.out l1[0]
        have h2 := own_setB h1 (i := 0) (by simpa using hpos) l1[i]
        simp only [Nat.zero_mul, Nat.zero_add] at h2
        have hf : OwnsR encBe 2 (((((w3.setCell ⟨b, i * 2, none⟩ (.slice l1[0].r.ao l1[0].r.l.length l1[0].r.cap)).setCell ⟨b, i * 2 + 1, none⟩ (.int .i64 l1[0].n)).setCell ⟨b, 0, none⟩ (.slice l1[i].r.ao l1[i].r.l.length l1[i].r.cap)).setCell ⟨b, 1, none⟩ (.int .i64 l1[i].n)).drew) w.heap.size 34 (.slice (some ⟨b, 0, none⟩) ((l1.set i l1[0]).set 0 l1[i]).length cp) ((l1.set i l1[0]).set 0 l1[i]) := h2
        have hT := ((((HK.out.setCell (p := ⟨b, i * 2, none⟩) hBb hbB (.slice l1[0].r.ao l1[0].r.l.length l1[0].r.cap)).setCell (p := ⟨b, i * 2 + 1, none⟩) hBb hbB (.int .i64 l1[0].n)).setCell (p := ⟨b, 0, none⟩) hBb hbB (.slice l1[i].r.ao l1[i].r.l.length l1[i].r.cap)).setCell (p := ⟨b, 1, none⟩) hBb hbB (.int .i64 l1[i].n)).below (Below.refl _ _).drew
        have hmem : ∀ y ∈ (l1.set i l1[0]).set 0 l1[i], y ∈ l1 := fun y hy => by
          rcases mem_set_or hy with hy | rfl
          · rcases mem_set_or hy with hy | rfl
            · exact hy
            · exact List.getElem_mem hpos
          · exact List.getElem_mem Hi.out
        have fin := spoil_fin (N := l1.length + 1) hf (by simp) hT hgw (fun y hy => (HE.out y (hmem y hy)).took (HA.out y (hmem y hy)) hT) (fun y hy => HA.out y (hmem y hy))
        rw [List.length_set, List.length_set] at fin
        exact fin
    · -- a row that is too long
      obtain ⟨j0, hj, hz0, hz1, hz2⟩ := info_parts infoV
      have Hz2 := Lib.hid hz2
      go_wp2_with fail
      refine (next_any B g 2 w3 (by decide) (by decide) HK.out.1 HK.out.2.2).mono ?_
      rintro e w4 ⟨r, rfl, hr0, hr1, hK⟩
      have Hown4 := Lib.hid (ent_away Hown.out hK.2.1 (fun b hb => by simp at hb; omega))
      have HK4 := Lib.hid (HK.out.trans hK)
      have hs4 := HK4.out.2.1.size
      have hb4 := (Hown4.out.lt b rfl).2
      have hcase : r = 0 ∨ r = 1 := by omega
      clear hK hr0 hr1 hz2
      rcases hcase with rfl | rfl
      · have _t := trivial
        go_wp2_with (at_make; refine wpList_make_full _ rfl (.tmp 27) (.tmp 27) 30 rfl w.heap.size 42 j0 _ 3 Try.underlying30 hj hz0 hz1 .i64 .i64 16 16 16 rfl rfl rfl rfl (by rw [Hz2.out]; decide) (by decide) hs4 ?_; intro w5 hown5 hg5; have hA5 : Away none w4 w5 := ⟨hg5.os, hg5.tape, hg5.output, hg5.size, hg5.block⟩; have Hown5 := Lib.hid (ent_away Hown4.out hA5 (by simp)); obtain ⟨c0, c1, f0, f1⟩ := own_cells Hown5.out Hi.out)
        go_ret
        have hrow : RwS w5 w5.heap.size ⟨some ⟨w4.heap.size, 0, none⟩, 16, List.replicate 16 V.zero⟩ := ⟨zeroRowB hown5, fun e => by simp at e, by simp, by simp [maxLen]⟩
        have hf := own_setR Hown5.out Hi.out ⟨some ⟨w4.heap.size, 0, none⟩, 16, List.replicate 16 V.zero⟩
        have hT := (HK4.out.fresh hA5 (by simp)).setCell (p := ⟨b, i * 2, none⟩) hBb hbB (.slice (some ⟨w4.heap.size, 0, none⟩) 16 16)
        rw [show l1.length = (l1.set i ⟨⟨some ⟨w4.heap.size, 0, none⟩, 16, List.replicate 16 V.zero⟩, l1[i].n⟩).length by simp]
        refine spoil_fin hf (by simp) hT hgw (fun y hy => ?_) (fun y hy => ?_)
        · rcases mem_set_or hy with hy | rfl
          · exact (HE.out y hy).took (HA.out y hy) hT
          · refine ⟨RwS.away hrow (away_setCell _ ⟨b, i * 2, none⟩ _) (fun b' o e => ?_), (HE.out _ (List.getElem_mem Hi.out)).n⟩
            simp only [Option.some.injEq, Addr.mk.injEq] at e
            simp; omega
        · rcases mem_set_or hy with hy | rfl
          · exact HA.out y hy
          · refine .inr fun b' o e => ?_
            simp only [Option.some.injEq, Addr.mk.injEq] at e
            omega
      · have _t := trivial
        go_wp2_with (at_make; refine wpList_make_full _ rfl (.tmp 27) (.tmp 27) 30 rfl w.heap.size 42 j0 _ 3 Try.underlying30 hj hz0 hz1 .i64 .i64 17 17 17 rfl rfl rfl rfl (by rw [Hz2.out]; decide) (by decide) hs4 ?_; intro w5 hown5 hg5; have hA5 : Away none w4 w5 := ⟨hg5.os, hg5.tape, hg5.output, hg5.size, hg5.block⟩; have Hown5 := Lib.hid (ent_away Hown4.out hA5 (by simp)); obtain ⟨c0, c1, f0, f1⟩ := own_cells Hown5.out Hi.out)
        go_ret
        have hrow : RwS w5 w5.heap.size ⟨some ⟨w4.heap.size, 0, none⟩, 17, List.replicate 17 V.zero⟩ := ⟨zeroRowB hown5, fun e => by simp at e, by simp, by simp [maxLen]⟩
        have hf := own_setR Hown5.out Hi.out ⟨some ⟨w4.heap.size, 0, none⟩, 17, List.replicate 17 V.zero⟩
        have hT := (HK4.out.fresh hA5 (by simp)).setCell (p := ⟨b, i * 2, none⟩) hBb hbB (.slice (some ⟨w4.heap.size, 0, none⟩) 17 17)
        rw [show l1.length = (l1.set i ⟨⟨some ⟨w4.heap.size, 0, none⟩, 17, List.replicate 17 V.zero⟩, l1[i].n⟩).length by simp]
        refine spoil_fin hf (by simp) hT hgw (fun y hy => ?_) (fun y hy => ?_)
        · rcases mem_set_or hy with hy | rfl
          · exact (HE.out y hy).took (HA.out y hy) hT
          · refine ⟨RwS.away hrow (away_setCell _ ⟨b, i * 2, none⟩ _) (fun b' o e => ?_), (HE.out _ (List.getElem_mem Hi.out)).n⟩
            simp only [Option.some.injEq, Addr.mk.injEq] at e
            simp; omega
        · rcases mem_set_or hy with hy | rfl
          · exact HA.out y hy
          · refine .inr fun b' o e => ?_
            simp only [Option.some.injEq, Addr.mk.injEq] at e
            omega
end Go.Proofs.Ytdckpjkbchibjaa
