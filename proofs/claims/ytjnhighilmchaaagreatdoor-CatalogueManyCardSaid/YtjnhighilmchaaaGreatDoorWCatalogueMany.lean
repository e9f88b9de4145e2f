/- The walk of the law CatalogueMany. -/
import Derived.Test.YtjnhighilmchaaaGreatDoorEc
import Derived.BigQuiet
import Derived.OpenShut
namespace Go.Proofs.YtjnhighilmchaaaGreatDoor
open Go.RowKit Go.Proofs.EB Go.Proofs.TX
set_option maxHeartbeats 4000000
set_option maxRecDepth 100000
attribute [local go_sem] World.cell?_alloc_some

def pOf (g : Nat) : Option Addr × Nat := (some ⟨g, 0, none⟩, 1)
theorem infoTa : (Tryz.prog.info? 42).map (fun i => (i.zero, i.size, i.bytes)) = some (some (.agg #[.string ⟨#[]⟩, .slice none 0 0, .int .i64 0, .int .i64 0]), 4, 56) := by kernel_rfl
theorem encTa_one (t : Ta) : ∀ u ∈ encTa t, u.oneCell' = true := by intro u hu; simp [encTa] at hu; rcases hu with rfl | rfl | rfl | rfl <;> rfl
/-- The tables so far. -/
structure TabsL (b : Nat) (k : Nat) (w0 w : World) (v : Value) (gs : List Nat) : Prop where
  len : gs.length = k
  own : OwnsR encTa 4 w (b + 3) 42 v (mkTs 0 (gs.map pOf))
  col : ∀ g ∈ gs, b + 3 ≤ g ∧ w.heap[g]? = some (.cells #[.string ⟨#[107]⟩, .int .i64 1, .string ⟨#[]⟩, .string ⟨#[]⟩, .slice none 0 0, .int .i64 0, .int .i64 0] 39 (0, 0)) ∧ v.ownBlock ≠ some g
  c : w.heap[b]? = some (.cells #[v, .slice none 0 0, .slice none 0 0, .slice none 0 0, .slice none 0 0, .slice none 0 0, .slice none 0 0, .slice none 0 0] 31 (0, 0))
  e : w.heap[b + 1]? = some (.cells #[.slice none 0 0, .slice none 0 0, .slice none 0 0, .slice none 0 0, .slice none 0 0, .slice none 0 0, .slice none 0 0, .slice none 0 0] 31 (0, 0))
  f : w.heap[b + 2]? = some (.cells #[.slice none 0 0, .slice none 0 0, .slice none 0 0, .slice none 0 0, .slice none 0 0, .slice none 0 0, .slice none 0 0, .slice none 0 0] 31 (0, 0))
  low : Below w0.heap.size w0 w
theorem u8_ofNat {k : Nat} (h : k ≤ 100) : ∃ x : UInt8, x = UInt8.ofNat (97 + k) ∧ IntKind.u8.wrap (97 + (k : Int)) = (x.toNat : Int) ∧ (97 + (k : Int)) % 256 = (x.toNat : Int) := by
  refine ⟨_, rfl, ?_, by rw [UInt8.toNat_ofNat']; omega⟩
  have h1 : (UInt8.ofNat (97 + k)).toNat = 97 + k := by
    rw [UInt8.toNat_ofNat']; omega
  rw [h1]
  unfold IntKind.wrap
  simp [IntKind.signed, IntKind.bits]
  omega
theorem TabsL.step {b k : Nat} {w0 wr : World} {v : Value} {gs : List Nat} (hT : TabsL b k w0 wr v gs) (hb0 : w0.heap.size = b) (x : UInt8) (hx : x = UInt8.ofNat (97 + k)) (W2 : World) (hW2 : W2 = (wr.alloc (.cells #[.int .u8 116, .int .u8 (x.toNat : Int)] 5)).alloc (.cells #[.string ⟨#[107]⟩, .int .i64 1, .string ⟨#[]⟩, .string ⟨#[]⟩, .slice none 0 0, .int .i64 0, .int .i64 0] 39)) (tsl : List Ta) (htsl : mkTs 0 (gs.map pOf) = tsl) (l3 : List Ta) (g3 cap3 : Nat) (w3 : World)
    (hl3 : l3 = tsl ++ [⟨⟨#[116, x]⟩, ⟨some ⟨wr.heap.size + 1, 0, none⟩, 1, [coK]⟩, 0, 0⟩]) (hown3 : OwnsR encTa 4 w3 (b + 3) 42 (.slice (some ⟨g3, 0, none⟩) l3.length cap3) l3) (haw3 : Away v.ownBlock W2 w3) (hb3 : Below (b + 3) W2 w3) (hat3 : v.ownBlock = some g3 ∨ W2.heap.size ≤ g3) :
    TabsL b (k + 1) w0 (w3.setCell ⟨b, 0, none⟩ (.slice (some ⟨g3, 0, none⟩) l3.length cap3)) (.slice (some ⟨g3, 0, none⟩) l3.length cap3) (gs ++ [wr.heap.size + 1]) := by
  obtain ⟨hx1, hx2⟩ := two_new wr (.cells #[.int .u8 116, .int .u8 (x.toNat : Int)] 5) (.cells #[.string ⟨#[107]⟩, .int .i64 1, .string ⟨#[]⟩, .string ⟨#[]⟩, .slice none 0 0, .int .i64 0, .int .i64 0] 39)
  rw [← hW2] at hx1 hx2
  have hb12 : Below wr.heap.size wr W2 := by rw [hW2]; exact bt (al1 wr _) (al1 _ _)
  have hs2 : W2.heap.size = wr.heap.size + 2 := by rw [hW2, alloc_size, alloc_size]
  have hf : b + 2 < wr.heap.size := (Array.getElem?_eq_some_iff.1 hT.f).1
  have hob := hT.own.lt
  have hg3 := hown3.lt g3 rfl
  have hset : ∀ g, g ≠ b → (w3.setCell ⟨b, 0, none⟩ (.slice (some ⟨g3, 0, none⟩) l3.length cap3)).heap[g]? = w3.heap[g]? := fun g hg => Below.heap_setCell _ _ _ _ hg
  have hlow3 : ∀ g, g < b + 3 → g < wr.heap.size → w3.heap[g]? = wr.heap[g]? := fun g h1 h2 => (hb3.block _ h1).trans (hb12.block _ h2)
  refine ⟨by rw [List.length_append, hT.len]; rfl, ?_, ?_, ?_, ?_, ?_, ?_⟩
  · have he : mkTs 0 ((gs ++ [wr.heap.size + 1]).map pOf) = l3 := by
      rw [List.map_append, List.map_cons, List.map_nil, mkTs_snoc, htsl, hl3, List.length_map, hT.len, hx, Nat.zero_add]; rfl
    rw [he]
    exact hown3.away (away_set w3 b 0 _) (.inr (by show some g3 ≠ some b; intro h; injection h; omega))
  · intro g hg
    rcases List.mem_append.1 hg with hg | hg
    · obtain ⟨h1, h2, h3⟩ := hT.col g hg
      have h4 := (Array.getElem?_eq_some_iff.1 h2).1
      refine ⟨h1, ?_, ?_⟩
      · rw [hset g (by omega), haw3.block g (by omega) (Ne.symm h3), hb12.block g h4]; exact h2
      · show some g3 ≠ some g
        intro h
        injection h with h
        rcases hat3 with h5 | h5
        · exact h3 (by rw [h5, h])
        · omega
    · obtain rfl := List.mem_singleton.1 hg
      refine ⟨by omega, ?_, ?_⟩
      · rw [hset _ (by omega), haw3.block _ (by omega) (fun h => by have := (hob _ h.symm).2; omega)]; exact hx2
      · show some g3 ≠ some (wr.heap.size + 1)
        intro h
        injection h with h
        rcases hat3 with h5 | h5
        · have := (hob _ h5).2; omega
        · omega
  · have h1 := (hlow3 b (by omega) (by omega)).trans hT.c
    rw [heap_setCell_same w3 b 0 _ _ _ h1]; rfl
  · rw [hset _ (by omega), hlow3 _ (by omega) (by omega)]; exact hT.e
  · rw [hset _ (by omega), hlow3 _ (by omega) (by omega)]; exact hT.f
  · exact ((bt hT.low hb12).trans (hb3.mono (by omega))).setCell (by show w0.heap.size ≤ b; omega) _
theorem infoVw : (Tryz.prog.info? 48).map (fun i => (i.zero, i.size, i.bytes)) = some (some (.agg #[.string ⟨#[]⟩, .int .i64 0, .string ⟨#[]⟩, .string ⟨#[]⟩, .slice none 0 0, .slice none 0 0, .slice none 0 0, .bool false, .slice none 0 0]), 9, 160) := by kernel_rfl
theorem infoSt : (Tryz.prog.info? 50).map (fun i => (i.zero, i.size, i.bytes)) = some (some (.agg #[.string ⟨#[]⟩, .string ⟨#[]⟩]), 2, 32) := by kernel_rfl
theorem encVw_one (t : Vw) : ∀ u ∈ encVw t, u.oneCell' = true := by intro u hu; simp [encVw] at hu; rcases hu with rfl | rfl | rfl | rfl | rfl | rfl | rfl | rfl | rfl <;> rfl
theorem encSt_one (t : St) : ∀ u ∈ encSt t, u.oneCell' = true := by intro u hu; simp [encSt] at hu; rcases hu with rfl | rfl <;> rfl
/-- What the second and third loop begin with. -/
structure Tabs7 (b : Nat) (w0 w : World) (gb ob N cap : Nat) (ts : List Ta) (gs : List Nat) : Prop where
  row : RAt encTa 4 w w.heap.size (some ⟨gb, ob, none⟩) ts
  gbb : b + 3 ≤ gb
  col : ∀ g ∈ gs, b + 3 ≤ g ∧ w.heap[g]? = some (.cells #[.string ⟨#[107]⟩, .int .i64 1, .string ⟨#[]⟩, .string ⟨#[]⟩, .slice none 0 0, .int .i64 0, .int .i64 0] 39 (0, 0))
  c : w.heap[b]? = some (.cells #[.slice (some ⟨gb, ob, none⟩) N cap, .slice none 0 0, .slice none 0 0, .slice none 0 0, .slice none 0 0, .slice none 0 0, .slice none 0 0, .slice none 0 0] 31 (0, 0))
  e : w.heap[b + 1]? = some (.cells #[.slice (some ⟨gb, ob, none⟩) 1 cap, .slice none 0 0, .slice none 0 0, .slice none 0 0, .slice none 0 0, .slice none 0 0, .slice none 0 0, .slice none 0 0] 31 (0, 0))
  f : w.heap[b + 2]? = some (.cells #[.slice (some ⟨gb, ob, none⟩) 1 cap, .slice none 0 0, .slice none 0 0, .slice none 0 0, .slice none 0 0, .slice none 0 0, .slice none 0 0, .slice none 0 0] 31 (0, 0))
  low : Below w0.heap.size w0 w
theorem tabs7_of {b N cap gb ob : Nat} {w0 wr W : World} {gs : List Nat} {K : Nat} (hb0 : w0.heap.size = b) (hT : TabsL b K w0 wr (.slice (some ⟨gb, ob, none⟩) N cap) gs) (hrow : RAt encTa 4 wr wr.heap.size (some ⟨gb, ob, none⟩) (mkTs 0 (gs.map pOf))) (hgb : b + 3 ≤ gb) (hos : W.os = wr.os) (htp : W.tape = wr.tape) (hou : W.output = wr.output) (hsz : wr.heap.size ≤ W.heap.size)
    (hk : ∀ k, k < wr.heap.size → k ≠ b + 1 → k ≠ b + 2 → W.heap[k]? = wr.heap[k]?) (he : W.heap[b + 1]? = some (.cells #[.slice (some ⟨gb, ob, none⟩) 1 cap, .slice none 0 0, .slice none 0 0, .slice none 0 0, .slice none 0 0, .slice none 0 0, .slice none 0 0, .slice none 0 0] 31 (0, 0))) (hf : W.heap[b + 2]? = some (.cells #[.slice (some ⟨gb, ob, none⟩) 1 cap, .slice none 0 0, .slice none 0 0, .slice none 0 0, .slice none 0 0, .slice none 0 0, .slice none 0 0, .slice none 0 0] 31 (0, 0))) : Tabs7 b w0 W gb ob N cap (mkTs 0 (gs.map pOf)) gs := by
  refine ⟨?_, hgb, fun g hg => ?_, ?_, he, hf, ?_⟩
  · rcases hrow with h0 | ⟨b2, o2, e2, hlt, hc⟩
    · exact .inl h0
    · refine .inr ⟨b2, o2, e2, Nat.lt_of_lt_of_le hlt hsz, fun i hi j u hu => ?_⟩
      have hbb : gb = b2 := by simpa using congrArg (fun x : Option Addr => x.map (·.block)) e2
      rw [World.cell?_of_block (hk b2 hlt (by omega) (by omega))]
      exact hc i hi j u hu
  · obtain ⟨h1, h2, _⟩ := hT.col g hg
    exact ⟨h1, by rw [hk g (Array.getElem?_eq_some_iff.1 h2).1 (by omega) (by omega)]; exact h2⟩
  · rw [hk b (Array.getElem?_eq_some_iff.1 hT.c).1 (by omega) (by omega)]; exact hT.c
  · exact hT.low.trans ⟨hos, htp, hou, hsz, fun k hkk => hk k (by have := hT.low.size; omega) (by omega) (by omega)⟩
/-- A loop that appends to one field of a box: i is the field. -/
structure LoopL {α : Type} (enc : α → List Value) (m : Nat) (T : TypeId) (i b : Nat) (C : Value → Array Value) (W7 w : World) (v : Value) (l : List α) : Prop where
  own : OwnsR enc m w W7.heap.size T v l
  box : w.heap[b]? = some (.cells (C v) 31 (0, 0))
  keep : Keep (fun k => k ≠ b) W7 w
theorem LoopL.step {α : Type} {enc : α → List Value} {m : Nat} {T : TypeId} {i b : Nat} {C : Value → Array Value} (hC : ∀ u v, (C u).setIfInBounds i v = C v) {W7 wr : World} {v : Value} {l : List α} (h : LoopL enc m T i b C W7 wr v l) (hbW : b < W7.heap.size) (W2 : World) (hb12 : Below wr.heap.size wr W2) (l3 : List α) (g3 cap3 : Nat) (w3 : World)
    (hown3 : OwnsR enc m w3 W7.heap.size T (.slice (some ⟨g3, 0, none⟩) l3.length cap3) l3) (_haw3 : Away v.ownBlock W2 w3) (hb3 : Below W7.heap.size W2 w3) :
    LoopL enc m T i b C W7 (w3.setCell ⟨b, i, none⟩ (.slice (some ⟨g3, 0, none⟩) l3.length cap3)) (.slice (some ⟨g3, 0, none⟩) l3.length cap3) l3 := by
  have hg3 := hown3.lt g3 rfl
  have hbx : w3.heap[b]? = some (.cells (C v) 31 (0, 0)) := (hb3.block b hbW).trans ((hb12.block b (Array.getElem?_eq_some_iff.1 h.box).1).trans h.box)
  refine ⟨hown3.away (away_set w3 b i _) (.inr (by show some g3 ≠ some b; intro h; injection h; omega)), ?_, ?_⟩
  · rw [heap_setCell_same w3 b i _ _ _ hbx, hC]
  · refine ⟨hb3.os.trans (hb12.os.trans h.keep.os), hb3.tape.trans (hb12.tape.trans h.keep.tape), hb3.output.trans (hb12.output.trans h.keep.output), ?_, fun k hk hp => ?_⟩
    · have h1 := h.keep.size
      have h2 := hb12.size
      have h3 := hb3.size
      have h4 : (w3.setCell ⟨b, i, none⟩ (.slice (some ⟨g3, 0, none⟩) l3.length cap3)).heap.size = w3.heap.size := by simp [World.setCell]
      omega
    · rw [Below.heap_setCell _ _ _ _ (show k ≠ b from hp)]
      exact (hb3.block k hk).trans ((hb12.block k (by have := h.keep.size; omega)).trans (h.keep.block k hk hp))
theorem i64_0 : i64B 0 := ⟨by decide, by decide⟩
theorem i64_1 : i64B 1 := ⟨by decide, by decide⟩
theorem i64_2 : i64B 2 := ⟨by decide, by decide⟩
theorem sz2 {s : ByteArray} (h : s.size ≤ 2) : s.size ≤ maxLen := by unfold maxLen; omega
theorem mkTa_ok {w : World} {g k : Nat} (h : w.heap[g]? = some (.cells #[.string ⟨#[107]⟩, .int .i64 1, .string ⟨#[]⟩, .string ⟨#[]⟩, .slice none 0 0, .int .i64 0, .int .i64 0] 39 (0, 0))) : TaOk w w.heap.size (mkTa (pOf g) k) :=
  ⟨sz2 (Nat.le_refl 2), i64_0, i64_0, ⟨rAt_block (enc := encCo) (m := 7) (fun _ => rfl) h rfl, (fun e => by cases e), Nat.le_refl _, (by show 1 ≤ maxLen; decide), fun x hx => by
    obtain rfl : x = coK := by simpa [mkTa] using hx
    exact ⟨sz2 (by decide), sz2 (by decide), sz2 (by decide), i64_1, i64_0, i64_0, nilS_ok⟩⟩⟩
theorem mkV_ok {w : World} {B : Nat} (j : Nat) : VwOk w B (mkV j) := ⟨sz2 (Nat.le_refl 2), sz2 (Nat.le_refl 2), sz2 (Nat.le_refl 2), i64_2, nilS_ok, nilS_ok, nilS_ok, nilS_ok⟩
theorem mkM_ok {w : World} {B : Nat} (j : Nat) : StOk w B (mkM j) := ⟨sz2 (Nat.le_refl 2), sz2 (Nat.le_refl 2)⟩
theorem catC_at {w : World} {B : Nat} {ts : SL Ta} {vs : SL Vw} {ms : SL St} (h1 : RdS encTa 4 TaOk w B ts) (h2 : RdS encVw 9 VwOk w B vs) (h3 : RdS encSt 2 StOk w B ms) : CatAt w B (catC ts vs ms) := ⟨h1, h2, nilS_ok, nilS_ok, nilS_ok, nilS_ok, h3, nilS_ok⟩
theorem catC_sml {ts : SL Ta} {vs : SL Vw} {ms : SL St} (h1 : ts.l.length ≤ 100) (h2 : ∀ t ∈ ts.l, ∃ p k, t = mkTa p k) (h3 : vs.l.length ≤ 100) (h4 : ∀ v ∈ vs.l, ∃ j, v = mkV j) (h5 : ms.l.length ≤ 100) : (catC ts vs ms).Sml := by
  refine ⟨h1, ?_, ?_, h3, ?_, ?_, ?_, ?_, Nat.zero_le _, Nat.zero_le _, Nat.zero_le _, Nat.zero_le _, h5, Nat.zero_le _, fun b hb => by cases hb⟩
  · intro t ht
    obtain ⟨p, k, rfl⟩ := h2 t ht
    simp [mkTa]
  · intro t ht x hx
    obtain ⟨p, k, rfl⟩ := h2 t ht
    obtain rfl : x = coK := by simpa [mkTa] using hx
    simp [coK, nilS]
  all_goals
    intro v hv
    obtain ⟨j, rfl⟩ := h4 v hv
    simp [mkV, nilS]
theorem manyT (D : Nat) (hD : D = 0 ∨ D = 1) (gs : List Nat) (h : gs.length = 8 + D) (ao : Option Addr) (cap : Nat) : ((catC ⟨ao, cap, mkTs 0 (gs.map pOf)⟩ nilS nilS).chk.2 == 0) = decide (D = 0) := by
  obtain ⟨a0, l0, rfl⟩ := List.exists_cons_of_length_eq_add_one (l := gs) (n := 7 + D) (by omega)
  obtain ⟨a1, l1, rfl⟩ := List.exists_cons_of_length_eq_add_one (l := l0) (n := 6 + D) (by simp at h; omega)
  obtain ⟨a2, l2, rfl⟩ := List.exists_cons_of_length_eq_add_one (l := l1) (n := 5 + D) (by simp at h; omega)
  obtain ⟨a3, l3, rfl⟩ := List.exists_cons_of_length_eq_add_one (l := l2) (n := 4 + D) (by simp at h; omega)
  obtain ⟨a4, l4, rfl⟩ := List.exists_cons_of_length_eq_add_one (l := l3) (n := 3 + D) (by simp at h; omega)
  obtain ⟨a5, l5, rfl⟩ := List.exists_cons_of_length_eq_add_one (l := l4) (n := 2 + D) (by simp at h; omega)
  obtain ⟨a6, l6, rfl⟩ := List.exists_cons_of_length_eq_add_one (l := l5) (n := 1 + D) (by simp at h; omega)
  obtain ⟨a7, l7, rfl⟩ := List.exists_cons_of_length_eq_add_one (l := l6) (n := D) (by simp at h; omega)
  rcases hD with rfl | rfl
  · obtain rfl : l7 = [] := by simpa using h
    simp only [List.map_cons, List.map_nil]
    rw [manyT8]; rfl
  · obtain ⟨a8, l8, rfl⟩ := List.exists_cons_of_length_eq_add_one (l := l7) (n := 0) (by simp at h; omega)
    obtain rfl : l8 = [] := by simpa using h
    simp only [List.map_cons, List.map_nil]
    rw [manyT9]; rfl
theorem manyV (D : Nat) (hD : D = 0 ∨ D = 1) (p : Option Addr × Nat) (ao a2 : Option Addr) (cap c2 : Nat) : ((catC ⟨ao, cap, [mkTa p 0]⟩ ⟨a2, c2, (List.range (12 + D)).map mkV⟩ nilS).chk.2 == 0) = decide (D = 0) := by
  rcases hD with rfl | rfl
  · rw [manyV12]; rfl
  · rw [manyV13]; rfl
theorem manyM (D : Nat) (hD : D = 0 ∨ D = 1) (p : Option Addr × Nat) (ao a2 : Option Addr) (cap c2 : Nat) : ((catC ⟨ao, cap, [mkTa p 0]⟩ nilS ⟨a2, c2, (List.range (16 + D)).map mkM⟩).chk.2 == 0) = decide (D = 0) := by
  rcases hD with rfl | rfl
  · rw [manyM16]; rfl
  · rw [manyM17]; rfl
theorem box8 {w : World} {g : Nat} {a0 a1 a2 a3 a4 a5 a6 a7 : Value} (h : w.heap[g]? = some (.cells #[a0, a1, a2, a3, a4, a5, a6, a7] 31 (0, 0))) : w.cell? ⟨g, 0, none⟩ = some a0 ∧ w.cell? ⟨g, 1, none⟩ = some a1 ∧ w.cell? ⟨g, 2, none⟩ = some a2 ∧ w.cell? ⟨g, 3, none⟩ = some a3 ∧ w.cell? ⟨g, 4, none⟩ = some a4 ∧ w.cell? ⟨g, 5, none⟩ = some a5 ∧ w.cell? ⟨g, 6, none⟩ = some a6 ∧ w.cell? ⟨g, 7, none⟩ = some a7 :=
  ⟨box_at (i := 0) h rfl, box_at (i := 1) h rfl, box_at (i := 2) h rfl, box_at (i := 3) h rfl, box_at (i := 4) h rfl, box_at (i := 5) h rfl, box_at (i := 6) h rfl, box_at (i := 7) h rfl⟩
theorem many_k (D : Nat) (hD : D ≤ 1) (n : Int) (hn : 0 ≤ n ∧ n < 256) (hm : n.tmod 2 = (D : Int)) (w : World) (hO : Ops w) :
    Calls Tryz.prog 4 #[.int .u8 n] w (Gives (.bool true) w) := by
  obtain ⟨h1, h2⟩ := two_new w (.cells #[.slice none 0 0, .slice none 0 0, .slice none 0 0, .slice none 0 0, .slice none 0 0, .slice none 0 0, .slice none 0 0, .slice none 0 0] 31) (.cells #[.slice none 0 0, .slice none 0 0, .slice none 0 0, .slice none 0 0, .slice none 0 0, .slice none 0 0, .slice none 0 0, .slice none 0 0] 31)
  have h3 := alloc_new ((w.alloc (.cells #[.slice none 0 0, .slice none 0 0, .slice none 0 0, .slice none 0 0, .slice none 0 0, .slice none 0 0, .slice none 0 0, .slice none 0 0] 31)).alloc (.cells #[.slice none 0 0, .slice none 0 0, .slice none 0 0, .slice none 0 0, .slice none 0 0, .slice none 0 0, .slice none 0 0, .slice none 0 0] 31)) (.cells #[.slice none 0 0, .slice none 0 0, .slice none 0 0, .slice none 0 0, .slice none 0 0, .slice none 0 0, .slice none 0 0, .slice none 0 0] 31)
  have hs2 : ((w.alloc (.cells #[.slice none 0 0, .slice none 0 0, .slice none 0 0, .slice none 0 0, .slice none 0 0, .slice none 0 0, .slice none 0 0, .slice none 0 0] 31)).alloc (.cells #[.slice none 0 0, .slice none 0 0, .slice none 0 0, .slice none 0 0, .slice none 0 0, .slice none 0 0, .slice none 0 0, .slice none 0 0] 31)).heap.size = w.heap.size + 2 := by rw [alloc_size, alloc_size]
  rw [hs2] at h3
  have hal3 := al1 ((w.alloc (.cells #[.slice none 0 0, .slice none 0 0, .slice none 0 0, .slice none 0 0, .slice none 0 0, .slice none 0 0, .slice none 0 0, .slice none 0 0] 31)).alloc (.cells #[.slice none 0 0, .slice none 0 0, .slice none 0 0, .slice none 0 0, .slice none 0 0, .slice none 0 0, .slice none 0 0, .slice none 0 0] 31)) (.cells #[.slice none 0 0, .slice none 0 0, .slice none 0 0, .slice none 0 0, .slice none 0 0, .slice none 0 0, .slice none 0 0, .slice none 0 0] 31)
  obtain ⟨W3, hW3⟩ : ∃ W3, W3 = ((w.alloc (.cells #[.slice none 0 0, .slice none 0 0, .slice none 0 0, .slice none 0 0, .slice none 0 0, .slice none 0 0, .slice none 0 0, .slice none 0 0] 31)).alloc (.cells #[.slice none 0 0, .slice none 0 0, .slice none 0 0, .slice none 0 0, .slice none 0 0, .slice none 0 0, .slice none 0 0, .slice none 0 0] 31)).alloc (.cells #[.slice none 0 0, .slice none 0 0, .slice none 0 0, .slice none 0 0, .slice none 0 0, .slice none 0 0, .slice none 0 0, .slice none 0 0] 31) := ⟨_, rfl⟩
  rw [← hW3] at h3 hal3
  have hst : TabsL w.heap.size 0 w W3 (.slice none 0 0) [] := ⟨rfl, .nil, (fun g hg => by cases hg), keep_box hal3 h1, keep_box hal3 h2, h3, bt (bt (al1 w _) (al1 _ _)) hal3⟩
  have Hst := Lib.hid hst
  have HW3 := Lib.hid hW3
  have HO := Lib.hid hO
  clear h1 h2 h3 hs2 hal3 hW3 hst hO
  obtain ⟨hn0, hn1⟩ := hn
  go_enter Tryz.func4, Tryz.ntmps4
  go_upto_region 3 with fail
  rw [← HW3.out]
  have hD8 : (D : Int) ≤ 1 := by omega
  go_wp2_with fail
  go_loopw [7] (fun i wr => ∃ (k : Nat) (v : Value) (gs : List Nat), k ≤ 8 + D ∧ i = .int .i64 k ∧ Hid (TabsL w.heap.size k w wr v gs)) (fun i _ => 8 + D - (intOf i).toNat)
  case atStart => exact ⟨0, _, [], Nat.zero_le _, rfl, Hst.out⟩
  case round =>
    obtain ⟨k, v, gs, hk, rfl, HT⟩ := hrel
    by_cases hlt : k < 8 + D
    · have hT := HT.out
      have hk2 : (k : Int) < 8 + (D : Int) := by omega
      obtain ⟨x, hxe, hw8, hw9⟩ := u8_ofNat (k := k) (by omega)
      have Hxe := Lib.hid hxe
      clear hxe
      have d1 := (box_at (i := 0) hT.c rfl : wr.cell? ⟨w.heap.size, 0, none⟩ = some v)
      have hsz := hT.low.size
      -- the bytes of the name
      have hlt3 : w.heap.size + 3 ≤ wr.heap.size := (Array.getElem?_eq_some_iff.1 hT.f).1
      have hn1 := alloc_new wr (.cells #[.int .u8 116, .int .u8 (x.toNat : Int)] 5)
      have hown1 : OwnsB (wr.alloc (.cells #[.int .u8 116, .int .u8 (x.toNat : Int)] 5)) wr.heap.size 5 (.slice (some ⟨wr.heap.size, 0, none⟩) 2 2) [116, x] := owns_of_block _ hn1 (Nat.le_refl _) rfl (by simp [maxLen])
      have hb12 : Below wr.heap.size wr ((wr.alloc (.cells #[.int .u8 116, .int .u8 (x.toNat : Int)] 5)).alloc (.cells #[.string ⟨#[107]⟩, .int .i64 1, .string ⟨#[]⟩, .string ⟨#[]⟩, .slice none 0 0, .int .i64 0, .int .i64 0] 39)) := bt (al1 wr _) (al1 _ _)
      obtain ⟨hx1, hx2⟩ := two_new wr (.cells #[.int .u8 116, .int .u8 (x.toNat : Int)] 5) (.cells #[.string ⟨#[107]⟩, .int .i64 1, .string ⟨#[]⟩, .string ⟨#[]⟩, .slice none 0 0, .int .i64 0, .int .i64 0] 39)
      have hown2 := OwnsR.below hT.own hb12
      obtain ⟨tsl, htsl⟩ : ∃ l, mkTs 0 (gs.map pOf) = l := ⟨_, rfl⟩
      have htl : tsl.length ≤ k := by rw [← htsl, mkTs_len, List.length_map, hT.len]; exact Nat.le_refl _
      have Htsl := Lib.hid htsl
      rw [htsl] at hown2
      have hob : ∀ g, v.ownBlock = some g → w.heap.size + 3 ≤ g ∧ g < wr.heap.size := fun g hg => hT.own.lt g hg
      have HTc := Lib.hid (fun (W : World) (hb : Below (w.heap.size + 3) ((wr.alloc (.cells #[.int .u8 116, .int .u8 (x.toNat : Int)] 5)).alloc (.cells #[.string ⟨#[107]⟩, .int .i64 1, .string ⟨#[]⟩, .string ⟨#[]⟩, .slice none 0 0, .int .i64 0, .int .i64 0] 39)) W) => (⟨hb.block _ (by omega), hb.block (w.heap.size + 1) (by omega), hb.block (w.heap.size + 2) (by omega)⟩ : W.heap[w.heap.size]? = _ ∧ W.heap[w.heap.size + 1]? = _ ∧ W.heap[w.heap.size + 2]? = _))
      have Hb12 := Lib.hid hb12
      have Hx2 := Lib.hid hx2
      have Hob := Lib.hid hob
      have hB2 : w.heap.size + 3 ≤ ((wr.alloc (.cells #[.int .u8 116, .int .u8 (x.toNat : Int)] 5)).alloc (.cells #[.string ⟨#[107]⟩, .int .i64 1, .string ⟨#[]⟩, .string ⟨#[]⟩, .slice none 0 0, .int .i64 0, .int .i64 0] 39)).heap.size := Nat.le_trans hlt3 hb12.size
      clear hT hsz hn1 hb12 hx1 hx2 htsl hob
      go_wp2_with (first
        | (refine wpList_b2s Tryz.underlying9 Tryz.underlying36 Tryz.underlying5 _ rfl (.tmp 24) rfl _ (.slice (some ⟨wr.heap.size, 0, none⟩) 2 2) [116, x] rfl hown1 ?_)
        | (at_builtin; refine wpList_appR (enc := encTa) (m := 4) Tryz.underlying22 infoTa rfl (by decide) (fun _ => rfl) encTa_one _ ((wr.alloc (.cells #[.int .u8 116, .int .u8 (x.toNat : Int)] 5)).alloc (.cells #[.string ⟨#[107]⟩, .int .i64 1, .string ⟨#[]⟩, .string ⟨#[]⟩, .slice none 0 0, .int .i64 0, .int .i64 0] 39)) rfl (.tmp 20) (.tmp 29) rfl (w.heap.size + 3) _ tsl rfl hown2 [⟨⟨#[116, x]⟩, ⟨some ⟨wr.heap.size + 1, 0, none⟩, 1, [coK]⟩, 0, 0⟩] 1 1 #[.string ⟨#[116, x]⟩, .slice (some ⟨wr.heap.size + 1, 0, none⟩) 1 1, .int .i64 0, .int .i64 0] (by simp [go_sem]) rfl rfl rfl rfl rfl rfl (by decide) (by omega) (by unfold maxLen; omega) hB2 ?_; intro l3 g3 cap3 w3 hl3 hown3 haw3 hb3 hat3 hlt3; have hc3 := (((HTc.out w3 hb3).1.trans (Hb12.out.block _ (by omega))).trans HT.out.c); have hfz := frozen_box (i := 0) hc3; have hcv := (box_at (i := 0) hc3 rfl : w3.cell? ⟨w.heap.size, 0, none⟩ = some v)))
      exact ⟨⟨k + 1, _, _, by omega, by go_num, HT.out.step rfl x Hxe.out _ rfl tsl Htsl.out l3 g3 cap3 w3 hl3.out hown3 haw3 hb3 hat3⟩, by simp [intOf]; omega⟩
    · have Hke := Lib.hid (show k = 8 + D by omega)
      have hk3 : ¬ ((k : Int) < 8 + (D : Int)) := by omega
      have hk8 : 8 ≤ k := by omega
      have hT := HT.out
      have hf : w.heap.size + 2 < wr.heap.size := (Array.getElem?_eq_some_iff.1 hT.f).1
      obtain ⟨ao, cap, rfl, hrow, hlo, _, hc1, hc2⟩ := OwnsR.rAt (enc := encTa) (m := 4) (fun _ => rfl) hT.own
      have htl : (mkTs 0 (gs.map pOf)).length = k := by rw [mkTs_len, List.length_map, hT.len]
      have Htl := Lib.hid htl
      obtain ⟨gb, ob, hao, _⟩ := hrow.form (by omega)
      subst hao
      have q0 := (box_at (i := 0) hT.c rfl : wr.cell? ⟨w.heap.size, 0, none⟩ = some (.slice (some ⟨gb, ob, none⟩) (mkTs 0 (gs.map pOf)).length cap))
      have q1 := (box_at (i := 0) hT.e rfl : wr.cell? ⟨w.heap.size + 1, 0, none⟩ = some (.slice none 0 0))
      have q2 := (box_at (i := 0) hT.f rfl : wr.cell? ⟨w.heap.size + 2, 0, none⟩ = some (.slice none 0 0))
      have z1 : wr.frozen? ⟨w.heap.size + 1, 0, none⟩ = false := frozen_box hT.e
      have z2 : wr.frozen? ⟨w.heap.size + 2, 0, none⟩ = false := frozen_box hT.f
      have y1 : 1 ≤ cap := by omega
      have y3 : (1 : Int) ≤ (cap : Int) := by omega
      have y4 : cap ≤ maxLen := hc2
      unfold maxLen at y4
      have y2 : 1 ≤ (mkTs 0 (gs.map pOf)).length := by omega
      obtain ⟨N, hN⟩ : ∃ N, (mkTs 0 (gs.map pOf)).length = N := ⟨_, rfl⟩
      rw [hN] at HT q0 y2
      have HN := Lib.hid hN
      clear hN
      have Hgb := Lib.hid (hlo gb ob rfl).1
      have Hrow := Lib.hid hrow
      have Hcap := Lib.hid (show N ≤ cap ∧ cap ≤ maxLen by rw [← HN.out]; exact ⟨hc1, hc2⟩)
      have HLen := Lib.hid hT.len
      have he' : (wr.setCell ⟨w.heap.size + 1, 0, none⟩ (.slice (some ⟨gb, ob, none⟩) 1 cap)).heap[w.heap.size + 1]? = some (.cells #[.slice (some ⟨gb, ob, none⟩) 1 cap, .slice none 0 0, .slice none 0 0, .slice none 0 0, .slice none 0 0, .slice none 0 0, .slice none 0 0, .slice none 0 0] 31 (0, 0)) := by rw [heap_setCell_same wr _ 0 _ _ _ hT.e]; rfl
      have hf' : (wr.setCell ⟨w.heap.size + 1, 0, none⟩ (.slice (some ⟨gb, ob, none⟩) 1 cap)).heap[w.heap.size + 2]? = some (.cells #[.slice none 0 0, .slice none 0 0, .slice none 0 0, .slice none 0 0, .slice none 0 0, .slice none 0 0, .slice none 0 0, .slice none 0 0] 31 (0, 0)) := by rw [Below.heap_setCell _ _ _ _ (by show w.heap.size + 2 ≠ w.heap.size + 1; omega)]; exact hT.f
      have h7 : Tabs7 w.heap.size w (((wr.setCell ⟨w.heap.size + 1, 0, none⟩ (.slice (some ⟨gb, ob, none⟩) 1 cap)).setCell ⟨w.heap.size + 2, 0, none⟩ (.slice (some ⟨gb, ob, none⟩) 1 cap)).drew) gb ob N cap (mkTs 0 (gs.map pOf)) gs := by
        refine tabs7_of rfl (by have := HT.out; exact this) hrow (hlo gb ob rfl).1 rfl rfl rfl (by show wr.heap.size ≤ ((wr.setCell _ _).setCell _ _).heap.size; simp [World.setCell]) (fun k _ h1 h2 => ?_) ?_ ?_
        · show ((wr.setCell _ _).setCell _ _).heap[k]? = _
          rw [Below.heap_setCell _ _ _ _ (by exact h2), Below.heap_setCell _ _ _ _ (by exact h1)]
        · show ((wr.setCell _ _).setCell _ _).heap[_]? = _
          rw [Below.heap_setCell _ _ _ _ (by show w.heap.size + 1 ≠ w.heap.size + 2; omega)]
          exact he'
        · show ((wr.setCell _ _).setCell _ _).heap[_]? = _
          rw [heap_setCell_same _ _ 0 _ _ _ hf']; rfl
      have H7 := Lib.hid h7
      clear hT hrow hlo hc1 hc2 he' hf' h7
      go_upto_region 7 with fail
      go_cut [3] from 32 to 39 (fun p wx => p = .int .i64 (D : Int) ∧ Hid (Tabs7 w.heap.size w wx gb ob N cap (mkTs 0 (gs.map pOf)) gs))
      case first =>
        go_region_law (fail)
        all_goals
          go_wp2_with fail
          go_meet
          exact ⟨rfl, H7.out⟩
      case rest =>
        clear q0 q1 q2 z1 z2 y1 y2 y3 y4 H7 Hrow HT
        obtain ⟨rfl, H7⟩ := hcut
        generalize wc = W7 at *
        have Hb7 := Lib.hid (Array.getElem?_eq_some_iff.1 H7.out.e).1
        have Hb7f := Lib.hid (Array.getElem?_eq_some_iff.1 H7.out.f).1
        have HSTART : Hid (LoopL encVw 9 48 1 (w.heap.size + 1) (fun u => #[.slice (some ⟨gb, ob, none⟩) 1 cap, u, .slice none 0 0, .slice none 0 0, .slice none 0 0, .slice none 0 0, .slice none 0 0, .slice none 0 0]) W7 W7 (.slice none 0 0) ((List.range 0).map mkV)) := ⟨.nil, H7.out.e, Keep.refl _ _⟩
        go_wp2_with fail
        go_loopw [8] (fun i wr => ∃ (k : Nat) (v : Value), k ≤ 12 + D ∧ i = .int .i64 k ∧ Hid (LoopL encVw 9 48 1 (w.heap.size + 1) (fun u => #[.slice (some ⟨gb, ob, none⟩) 1 cap, u, .slice none 0 0, .slice none 0 0, .slice none 0 0, .slice none 0 0, .slice none 0 0, .slice none 0 0]) W7 wr v ((List.range k).map mkV))) (fun i _ => 12 + D - (intOf i).toNat)
        case atStart => exact ⟨0, _, Nat.zero_le _, rfl, HSTART.out⟩
        case round =>
          obtain ⟨k, v2, hk, rfl, HL⟩ := hrel
          by_cases hlt : k < 12 + D
          · have hL := HL.out
            have hk2 : (k : Int) < 12 + (D : Int) := by omega
            obtain ⟨x, hxe, hw8, hw9⟩ := u8_ofNat (k := k) (by omega)
            have Hxe := Lib.hid hxe
            clear hxe
            have d1 := (box_at (i := 1) hL.box rfl : wr.cell? ⟨w.heap.size + 1, 1, none⟩ = some v2)
            have hn1 := alloc_new wr (.cells #[.int .u8 118, .int .u8 (x.toNat : Int)] 5)
            have hown1 : OwnsB (wr.alloc (.cells #[.int .u8 118, .int .u8 (x.toNat : Int)] 5)) wr.heap.size 5 (.slice (some ⟨wr.heap.size, 0, none⟩) 2 2) [118, x] := owns_of_block _ hn1 (Nat.le_refl _) rfl (by simp [maxLen])
            have hb12 := al1 wr (.cells #[.int .u8 118, .int .u8 (x.toNat : Int)] 5)
            have hown2 := OwnsR.below hL.own hb12
            obtain ⟨vl, hvl⟩ : ∃ l, (List.range k).map mkV = l := ⟨_, rfl⟩
            have hvn : vl.length ≤ k := by rw [← hvl, List.length_map, List.length_range]; exact Nat.le_refl _
            rw [hvl] at hown2
            have Hvl := Lib.hid hvl
            have hB2 : W7.heap.size ≤ (wr.alloc (.cells #[.int .u8 118, .int .u8 (x.toNat : Int)] 5)).heap.size := Nat.le_trans hL.keep.size hb12.size
            have Hb12 := Lib.hid hb12
            have HbW := Hb7
            have hbr := (Array.getElem?_eq_some_iff.1 hL.box).1
            have Hc3 := Lib.hid (fun (W : World) (hb : Below W7.heap.size (wr.alloc (.cells #[.int .u8 118, .int .u8 (x.toNat : Int)] 5)) W) => ((hb.block (w.heap.size + 1) HbW.out).trans (Hb12.out.block (w.heap.size + 1) hbr)).trans HL.out.box)
            clear hL hn1 hvl hb12 hbr
            go_wp2_with (first
              | (refine wpList_b2s Tryz.underlying9 Tryz.underlying36 Tryz.underlying5 _ rfl (.tmp 51) rfl _ (.slice (some ⟨wr.heap.size, 0, none⟩) 2 2) [118, x] rfl hown1 ?_)
              | (at_builtin; refine wpList_appR (enc := encVw) (m := 9) Tryz.underlying23 infoVw rfl (by decide) (fun _ => rfl) encVw_one _ (wr.alloc (.cells #[.int .u8 118, .int .u8 (x.toNat : Int)] 5)) rfl (.tmp 47) (.tmp 54) rfl W7.heap.size _ vl rfl hown2 [⟨⟨#[118, x]⟩, 2, sTa, sTa, nilS, nilS, nilS, false, nilS⟩] 1 1 #[.string ⟨#[118, x]⟩, .int .i64 2, .string ⟨#[116, 97]⟩, .string ⟨#[116, 97]⟩, .slice none 0 0, .slice none 0 0, .slice none 0 0, .bool false, .slice none 0 0] (by simp [go_sem]) rfl rfl rfl rfl rfl rfl (by decide) (by omega) (by unfold maxLen; omega) hB2 ?_; intro l3 g3 cap3 w3 hl3 hown3 haw3 hb3 hat3 hlt3; have hc3 := Hc3.out w3 hb3; have hfz := frozen_box (i := 1) hc3; have hcv := (box_at (i := 1) hc3 rfl : w3.cell? ⟨w.heap.size + 1, 1, none⟩ = some v2)))
            have hl4 : (List.range (k + 1)).map mkV = l3 := by rw [List.range_succ, List.map_append, Hvl.out, hl3.out, Hxe.out]; rfl
            exact ⟨⟨k + 1, _, by omega, by go_num, by rw [hl4]; exact HL.out.step (fun _ _ => rfl) HbW.out _ Hb12.out l3 g3 cap3 w3 hown3 haw3 hb3⟩, by simp [intOf]; omega⟩
          · have Hk12 := Lib.hid (show k = 12 + D by omega)
            have hk3 : ¬ ((k : Int) < 12 + (D : Int)) := by omega
            have HL2 : Hid (LoopL encVw 9 48 1 (w.heap.size + 1) (fun u => #[.slice (some ⟨gb, ob, none⟩) 1 cap, u, .slice none 0 0, .slice none 0 0, .slice none 0 0, .slice none 0 0, .slice none 0 0, .slice none 0 0]) W7 wr v2 ((List.range (12 + D)).map mkV)) := by have := HL.out; rw [Hk12.out] at this; exact this
            clear HL HSTART hlt hk
            generalize wr = W8 at *
            have Hb8 := Lib.hid (Nat.lt_of_lt_of_le Hb7f.out HL2.out.keep.size)
            have HSTART : Hid (LoopL encSt 2 50 6 (w.heap.size + 2) (fun u => #[.slice (some ⟨gb, ob, none⟩) 1 cap, .slice none 0 0, .slice none 0 0, .slice none 0 0, .slice none 0 0, .slice none 0 0, u, .slice none 0 0]) W8 W8 (.slice none 0 0) ((List.range 0).map mkM)) := ⟨.nil, (HL2.out.keep.block _ Hb7f.out (by show w.heap.size + 2 ≠ w.heap.size + 1; omega)).trans H7.out.f, Keep.refl _ _⟩
            go_wp2_with fail
            go_loopw [9] (fun i wr => ∃ (k : Nat) (v : Value), k ≤ 16 + D ∧ i = .int .i64 k ∧ Hid (LoopL encSt 2 50 6 (w.heap.size + 2) (fun u => #[.slice (some ⟨gb, ob, none⟩) 1 cap, .slice none 0 0, .slice none 0 0, .slice none 0 0, .slice none 0 0, .slice none 0 0, u, .slice none 0 0]) W8 wr v ((List.range k).map mkM))) (fun i _ => 16 + D - (intOf i).toNat)
            case atStart => exact ⟨0, _, Nat.zero_le _, rfl, HSTART.out⟩
            case round =>
              obtain ⟨k, v, hk, rfl, HL⟩ := hrel
              by_cases hlt : k < 16 + D
              · have hL := HL.out
                have hk2 : (k : Int) < 16 + (D : Int) := by omega
                obtain ⟨x, hxe, hw8, hw9⟩ := u8_ofNat (k := k) (by omega)
                have Hxe := Lib.hid hxe
                clear hxe
                have d1 := (box_at (i := 6) hL.box rfl : wr.cell? ⟨w.heap.size + 2, 6, none⟩ = some v)
                have hn1 := alloc_new wr (.cells #[.int .u8 109, .int .u8 (x.toNat : Int)] 5)
                have hown1 : OwnsB (wr.alloc (.cells #[.int .u8 109, .int .u8 (x.toNat : Int)] 5)) wr.heap.size 5 (.slice (some ⟨wr.heap.size, 0, none⟩) 2 2) [109, x] := owns_of_block _ hn1 (Nat.le_refl _) rfl (by simp [maxLen])
                have hb12 := al1 wr (.cells #[.int .u8 109, .int .u8 (x.toNat : Int)] 5)
                have hown2 := OwnsR.below hL.own hb12
                obtain ⟨vl, hvl⟩ : ∃ l, (List.range k).map mkM = l := ⟨_, rfl⟩
                have hvn : vl.length ≤ k := by rw [← hvl, List.length_map, List.length_range]; exact Nat.le_refl _
                rw [hvl] at hown2
                have Hvl := Lib.hid hvl
                have hB2 : W8.heap.size ≤ (wr.alloc (.cells #[.int .u8 109, .int .u8 (x.toNat : Int)] 5)).heap.size := Nat.le_trans hL.keep.size hb12.size
                have Hb12 := Lib.hid hb12
                have HbW := Hb8
                have hbr := (Array.getElem?_eq_some_iff.1 hL.box).1
                have Hc3 := Lib.hid (fun (W : World) (hb : Below W8.heap.size (wr.alloc (.cells #[.int .u8 109, .int .u8 (x.toNat : Int)] 5)) W) => ((hb.block (w.heap.size + 2) HbW.out).trans (Hb12.out.block (w.heap.size + 2) hbr)).trans HL.out.box)
                clear hL hn1 hvl hb12 hbr
                go_wp2_with (first
                  | (refine wpList_b2s Tryz.underlying9 Tryz.underlying36 Tryz.underlying5 _ rfl (.tmp 68) rfl _ (.slice (some ⟨wr.heap.size, 0, none⟩) 2 2) [109, x] rfl hown1 ?_)
                  | (at_builtin; refine wpList_appR (enc := encSt) (m := 2) Tryz.underlying28 infoSt rfl (by decide) (fun _ => rfl) encSt_one _ (wr.alloc (.cells #[.int .u8 109, .int .u8 (x.toNat : Int)] 5)) rfl (.tmp 64) (.tmp 71) rfl W8.heap.size _ vl rfl hown2 [⟨⟨#[109, x]⟩, sTa⟩] 1 1 #[.string ⟨#[109, x]⟩, .string ⟨#[116, 97]⟩] (by simp [go_sem]) rfl rfl rfl rfl rfl rfl (by decide) (by omega) (by unfold maxLen; omega) hB2 ?_; intro l3 g3 cap3 w3 hl3 hown3 haw3 hb3 hat3 hlt3; have hc3 := Hc3.out w3 hb3; have hfz := frozen_box (i := 6) hc3; have hcv := (box_at (i := 6) hc3 rfl : w3.cell? ⟨w.heap.size + 2, 6, none⟩ = some v)))
                have hl4 : (List.range (k + 1)).map mkM = l3 := by rw [List.range_succ, List.map_append, Hvl.out, hl3.out, Hxe.out]; rfl
                exact ⟨⟨k + 1, _, by omega, by go_num, by rw [hl4]; exact HL.out.step (fun _ _ => rfl) HbW.out _ Hb12.out l3 g3 cap3 w3 hown3 haw3 hb3⟩, by simp [intOf]; omega⟩
              · have Hk16 := Lib.hid (show k = 16 + D by omega)
                have hk3 : ¬ ((k : Int) < 16 + (D : Int)) := by omega
                have HL3 : Hid (LoopL encSt 2 50 6 (w.heap.size + 2) (fun u => #[.slice (some ⟨gb, ob, none⟩) 1 cap, .slice none 0 0, .slice none 0 0, .slice none 0 0, .slice none 0 0, .slice none 0 0, u, .slice none 0 0]) W8 wr v ((List.range (16 + D)).map mkM)) := by have := HL.out; rw [Hk16.out] at this; exact this
                clear HL HSTART hlt hk
                generalize wr = W9 at *
                have hD01 : D = 0 ∨ D = 1 := by omega
                obtain ⟨va, vc, rfl, hrv, hlv, _, hcv1, hcv2⟩ := OwnsR.rAt (enc := encVw) (m := 9) (fun _ => rfl) HL2.out.own
                obtain ⟨ma, mc, rfl, hrm, _, hnm, hcm1, hcm2⟩ := OwnsR.rAt (enc := encSt) (m := 2) (fun _ => rfl) HL3.out.own
                have hnv : va = none → vc = 0 := by
                  rcases HL2.out.own.2 with ⟨e, _⟩ | ⟨_, _, _, e, _⟩
                  · intro _; simp only [Value.slice.injEq] at e; exact e.2.2
                  · simp only [Value.slice.injEq] at e; intro h; rw [h] at e; cases e.1
                have k78 := HL2.out.keep
                have k89 := HL3.out.keep
                have hk8 : ∀ g, g < W7.heap.size → g ≠ w.heap.size + 1 → g ≠ w.heap.size + 2 → W9.heap[g]? = W7.heap[g]? := fun g h1 h2 h3 => (k89.block g (Nat.lt_of_lt_of_le h1 k78.size) h3).trans (k78.block g h1 h2)
                have hlt0 : w.heap.size < W7.heap.size := (Array.getElem?_eq_some_iff.1 H7.out.c).1
                have hC9 : W9.heap[w.heap.size]? = some (.cells #[.slice (some ⟨gb, ob, none⟩) N cap, .slice none 0 0, .slice none 0 0, .slice none 0 0, .slice none 0 0, .slice none 0 0, .slice none 0 0, .slice none 0 0] 31 (0, 0)) := (hk8 _ hlt0 (by omega) (by omega)).trans H7.out.c
                have hE9 : W9.heap[w.heap.size + 1]? = _ := (k89.block _ (Nat.lt_of_lt_of_le Hb7.out k78.size) (by show w.heap.size + 1 ≠ w.heap.size + 2; omega)).trans HL2.out.box
                have hF9 : W9.heap[w.heap.size + 2]? = _ := HL3.out.box
                have hw9 : Below w.heap.size w W9 := H7.out.low.trans ⟨k89.os.trans k78.os, k89.tape.trans k78.tape, k89.output.trans k78.output, Nat.le_trans k78.size k89.size, fun g hg => by
                  have h1 := H7.out.low.size
                  exact hk8 g (by omega) (by omega) (by omega)⟩
                have hrow9 : RAt encTa 4 W9 W9.heap.size (some ⟨gb, ob, none⟩) (mkTs 0 (gs.map pOf)) := RAt.keep (RAt.keep H7.out.row k78 (fun b o e => by
                  have h1 := H7.out.gbb
                  simp only [Option.some.injEq, Addr.mk.injEq] at e
                  show b ≠ w.heap.size + 1
                  omega)) k89 (fun b o e => by
                  have h1 := H7.out.gbb
                  simp only [Option.some.injEq, Addr.mk.injEq] at e
                  show b ≠ w.heap.size + 2
                  omega)
                have hta : ∀ t ∈ mkTs 0 (gs.map pOf), TaOk W9 W9.heap.size t := fun t ht => by
                  obtain ⟨p, k, hp, _, rfl⟩ := mkTs_mem _ _ _ ht
                  obtain ⟨g, hg, rfl⟩ := List.mem_map.1 hp
                  obtain ⟨h1, h2⟩ := H7.out.col g hg
                  exact mkTa_ok ((hk8 g (Array.getElem?_eq_some_iff.1 h2).1 (by omega) (by omega)).trans h2)
                obtain ⟨g0, gr, hgs⟩ := List.exists_cons_of_length_eq_add_one (l := gs) (n := 7 + D) (by have := HLen.out; have := Hke.out; omega)
                have hfst : (mkTs 0 (gs.map pOf)).take 1 = [mkTa (pOf g0) 0] := by rw [hgs]; rfl
                have hrow1 : RAt encTa 4 W9 W9.heap.size (some ⟨gb, ob, none⟩) [mkTa (pOf g0) 0] := by rw [← hfst]; exact hrow9.take 1
                have hN : (mkTs 0 (gs.map pOf)).length = N := HN.out
                have hN2 : N = 8 + D := by rw [← hN, mkTs_len, List.length_map, HLen.out]; exact Hke.out
                have hcatC : CatAt W9 W9.heap.size (catC ⟨some ⟨gb, ob, none⟩, cap, mkTs 0 (gs.map pOf)⟩ nilS nilS) := catC_at ⟨hrow9, (fun e => by cases e), by rw [hN]; exact Hcap.out.1, by rw [hN]; exact Nat.le_trans Hcap.out.1 Hcap.out.2, hta⟩ nilS_ok nilS_ok
                have hT1 : RdS encTa 4 TaOk W9 W9.heap.size (⟨some ⟨gb, ob, none⟩, cap, [mkTa (pOf g0) 0]⟩ : SL Ta) := ⟨hrow1, (fun e => by cases e), (by have := Hcap.out.1; show 1 ≤ cap; omega), (by show 1 ≤ maxLen; decide), fun t ht => by
                  obtain rfl := List.mem_singleton.1 ht
                  exact hta _ (by rw [hgs]; exact List.mem_cons_self)⟩
                have hrv9 := RAt.keep hrv k89 (fun b o e => by
                  have h1 := (hlv b o e).1
                  have h2 := Hb7f.out
                  show b ≠ w.heap.size + 2
                  omega)
                have hcatE : CatAt W9 W9.heap.size (catC ⟨some ⟨gb, ob, none⟩, cap, [mkTa (pOf g0) 0]⟩ ⟨va, vc, (List.range (12 + D)).map mkV⟩ nilS) := catC_at hT1 ⟨hrv9, hnv, hcv1, Nat.le_trans hcv1 hcv2, fun v hv => by
                  obtain ⟨j, _, rfl⟩ := List.mem_map.1 hv
                  exact mkV_ok j⟩ nilS_ok
                have hcatF : CatAt W9 W9.heap.size (catC ⟨some ⟨gb, ob, none⟩, cap, [mkTa (pOf g0) 0]⟩ nilS ⟨ma, mc, (List.range (16 + D)).map mkM⟩) := catC_at hT1 nilS_ok ⟨hrm, hnm, hcm1, Nat.le_trans hcm1 hcm2, fun v hv => by
                  obtain ⟨j, _, rfl⟩ := List.mem_map.1 hv
                  exact mkM_ok j⟩
                have smC : (catC ⟨some ⟨gb, ob, none⟩, cap, mkTs 0 (gs.map pOf)⟩ nilS nilS).Sml := catC_sml (by rw [hN, hN2]; omega) (fun t ht => by obtain ⟨p, k, _, _, e⟩ := mkTs_mem _ _ _ ht; exact ⟨p, k, e⟩) (Nat.zero_le _) (fun v hv => by cases hv) (Nat.zero_le _)
                have smE : (catC ⟨some ⟨gb, ob, none⟩, cap, [mkTa (pOf g0) 0]⟩ ⟨va, vc, (List.range (12 + D)).map mkV⟩ nilS).Sml := catC_sml (by show 1 ≤ 100; decide) (fun t ht => ⟨_, _, List.mem_singleton.1 ht⟩) (by rw [List.length_map, List.length_range]; omega) (fun v hv => by obtain ⟨j, _, e⟩ := List.mem_map.1 hv; exact ⟨j, e.symm⟩) (Nat.zero_le _)
                have smF : (catC ⟨some ⟨gb, ob, none⟩, cap, [mkTa (pOf g0) 0]⟩ nilS ⟨ma, mc, (List.range (16 + D)).map mkM⟩).Sml := catC_sml (by show 1 ≤ 100; decide) (fun t ht => ⟨_, _, List.mem_singleton.1 ht⟩) (Nat.zero_le _) (fun v hv => by cases hv) (by rw [List.length_map, List.length_range]; omega)
                have hOp := fun (W : World) (hb : Below W9.heap.size W9 W) => HO.out.below (bt hw9 hb)
                have c1 := fun (W : World) (hb : Below W9.heap.size W9 W) => checks_any _ smC W (hOp W hb) (hcatC.later hb)
                have c2 := fun (W : World) (hb : Below W9.heap.size W9 W) => checks_any _ smE W (hOp W hb) (hcatE.later hb)
                have c3 := fun (W : World) (hb : Below W9.heap.size W9 W) => checks_any _ smF W (hOp W hb) (hcatF.later hb)
                have c4 := fun (W : World) (hb : Below W9.heap.size W9 W) => Valid_any _ smC W (hOp W hb) (hcatC.later hb)
                have c5 := fun (W : World) (hb : Below W9.heap.size W9 W) => Valid_any _ smE W (hOp W hb) (hcatE.later hb)
                have c6 := fun (W : World) (hb : Below W9.heap.size W9 W) => Valid_any _ smF W (hOp W hb) (hcatF.later hb)
                have c7 := fun (W : World) (hb : Below W9.heap.size W9 W) => awake4_any W (hOp W hb)
                rw [manyT D hD01 gs (by rw [HLen.out]; exact Hke.out)] at c4
                rw [manyV D hD01] at c5
                rw [manyM D hD01] at c6
                obtain ⟨NV, hNV⟩ : ∃ n, ((List.range (12 + D)).map mkV).length = n := ⟨_, rfl⟩
                obtain ⟨NM, hNM⟩ : ∃ n, ((List.range (16 + D)).map mkM).length = n := ⟨_, rfl⟩
                rw [hNV] at hE9
                rw [hNM] at hF9
                unfold catC Cat.val nilS at c1 c2 c3 c4 c5 c6
                dsimp only at c1 c2 c3 c4 c5 c6
                rw [hN] at c1 c4
                rw [hNV] at c2 c5
                rw [hNM] at c3 c6
                have HB := Lib.hid (fun (W : World) (hb : Below W9.heap.size W9 W) => (⟨box8 (keep_box hb hC9), box8 (keep_box hb hE9), box8 (keep_box hb hF9), bt hw9 hb⟩ : _ ∧ _ ∧ _ ∧ Below w.heap.size w W))
                have C1 := Lib.hid c1
                have C2 := Lib.hid c2
                have C3 := Lib.hid c3
                have C4 := Lib.hid c4
                have C5 := Lib.hid c5
                have C6 := Lib.hid c6
                have C7 := Lib.hid c7
                clear c1 c2 c3 c4 c5 c6 c7 hOp smC smE smF hcatC hcatE hcatF hrv9 hT1 hN2 hN hrow1 hfst hgs hta hrow9 hw9 hF9 hE9 hC9 hlt0 hk8 k89 k78 hnv hrm hnm hcm1 hcm2 hrv hlv hcv1 hcv2 hNV hNM HL2 HL3
                have hdz : ((D : Int) == 0) = decide (D = 0) := by rw [Bool.eq_iff_iff]; simp
                obtain ⟨dz, hdz2⟩ : ∃ b, decide (D = 0) = b := ⟨_, rfl⟩
                rw [hdz2] at hdz C4 C5 C6
                clear hdz2 hD01
                obtain ⟨⟨c0, c1, c2, c3, c4, c5, c6, c7⟩, ⟨e0, e1, e2, e3, e4, e5, e6, e7⟩, ⟨f0, f1, f2, f3, f4, f5, f6, f7⟩, _⟩ := HB.out W9 (Below.refl _ _)
                go_upto_region 16 with fail
                go_wp2_with fail
                refine (C1.out W9 (Below.refl _ _)).mono ?_
                rintro e wa ⟨rfl, hba⟩
                have HA := Lib.hid hba
                clear hba c0 c1 c2 c3 c4 c5 c6 c7 e0 e1 e2 e3 e4 e5 e6 e7 f0 f1 f2 f3 f4 f5 f6 f7
                obtain ⟨⟨c0, c1, c2, c3, c4, c5, c6, c7⟩, ⟨e0, e1, e2, e3, e4, e5, e6, e7⟩, ⟨f0, f1, f2, f3, f4, f5, f6, f7⟩, _⟩ := HB.out wa HA.out
                go_wp2_with fail
                refine (C2.out wa HA.out).mono ?_
                rintro e wb ⟨rfl, hbb⟩
                have HB2 := Lib.hid (bt HA.out hbb)
                clear hbb c0 c1 c2 c3 c4 c5 c6 c7 e0 e1 e2 e3 e4 e5 e6 e7 f0 f1 f2 f3 f4 f5 f6 f7
                obtain ⟨⟨c0, c1, c2, c3, c4, c5, c6, c7⟩, ⟨e0, e1, e2, e3, e4, e5, e6, e7⟩, ⟨f0, f1, f2, f3, f4, f5, f6, f7⟩, _⟩ := HB.out wb HB2.out
                go_wp2_with fail
                refine (C3.out wb HB2.out).mono ?_
                rintro e wc3 ⟨rfl, hbc⟩
                have HB3 := Lib.hid (bt HB2.out hbc)
                clear hbc c0 c1 c2 c3 c4 c5 c6 c7 e0 e1 e2 e3 e4 e5 e6 e7 f0 f1 f2 f3 f4 f5 f6 f7
                obtain ⟨⟨c0, c1, c2, c3, c4, c5, c6, c7⟩, ⟨e0, e1, e2, e3, e4, e5, e6, e7⟩, ⟨f0, f1, f2, f3, f4, f5, f6, f7⟩, _⟩ := HB.out wc3 HB3.out
                go_wp2_with fail
                refine (C4.out wc3 HB3.out).mono ?_
                rintro e wd ⟨rfl, hbd⟩
                have HB4 := Lib.hid (bt HB3.out hbd)
                clear hbd c0 c1 c2 c3 c4 c5 c6 c7 e0 e1 e2 e3 e4 e5 e6 e7 f0 f1 f2 f3 f4 f5 f6 f7
                obtain ⟨_, ⟨e0, e1, e2, e3, e4, e5, e6, e7⟩, ⟨f0, f1, f2, f3, f4, f5, f6, f7⟩, _⟩ := HB.out wd HB4.out
                cases dz
                all_goals
                  go_wp2_with fail
                  refine (C5.out wd HB4.out).mono ?_
                  rintro e we ⟨rfl, hbe⟩
                  have HB5 := Lib.hid (bt HB4.out hbe)
                  clear hbe
                  obtain ⟨_, _, ⟨f0, f1, f2, f3, f4, f5, f6, f7⟩, _⟩ := HB.out we HB5.out
                  go_wp2_with fail
                  refine (C6.out we HB5.out).mono ?_
                  rintro e wf ⟨rfl, hbf⟩
                  have HB6 := Lib.hid (bt HB5.out hbf)
                  clear hbf
                  go_wp2_with fail
                  refine (C7.out wf HB6.out).mono ?_
                  rintro e wg ⟨rfl, hbg⟩
                  have Hfin := Lib.hid (HB.out wg (bt HB6.out hbg)).2.2.2
                  clear hbg
                  go_wp2_with fail
                  go_ret
                  exact ⟨rfl, Hfin.out⟩
theorem W_CatalogueMany (n : Int) (w : World) (hwf : (Lit.int .u8 n).wf = true) (hO : Ops w) :
    Calls Tryz.prog 4 #[.int .u8 n] w fun e w' => e = .returned (.bool true) ∧ Below w.heap.size w w' := by
  have hn' := bounds_u8 hwf
  have hn : 0 ≤ n ∧ n < 256 := by omega
  have h2 : n.tmod 2 = 0 ∨ n.tmod 2 = 1 := by rw [Int.tmod_eq_emod_of_nonneg hn.1]; omega
  rcases h2 with h | h
  · exact many_k 0 (by omega) n hn h w hO
  · exact many_k 1 (by omega) n hn h w hO
end Go.Proofs.YtjnhighilmchaaaGreatDoor
