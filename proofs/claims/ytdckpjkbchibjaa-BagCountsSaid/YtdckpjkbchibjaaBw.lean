/- Sorting a list of entries by the program's function. -/
import Derived.Test.YtdckpjkbchibjaaBt
import Derived.Test.YtdckpjkbchibjaaSc
import Derived.Shelf.SlSortCmp.NoneTotal
import Derived.Lib.QuietBelow
namespace Go.Proofs.Ytdckpjkbchibjaa
open Go.RowKit Go.Proofs.EB Go.Sort
set_option maxHeartbeats 4000000
set_option maxRecDepth 100000

theorem grown_of_belowD {w w' : World} (h : BelowD w.heap.size w w') : ∃ q os', w' = grow (w.drewN q) os' := by
  obtain ⟨⟨p, os⟩, rfl⟩ := regrown_of_below h.b
  have hd : w.drawn ≤ p := h.d
  refine ⟨p - w.drawn, os, ?_⟩
  show grow (redrawn w p) os = _
  have e : w.drewN (p - w.drawn) = redrawn w p := by
    show ({ w with drawn := w.drawn + (p - w.drawn) } : World) = { w with drawn := p }
    rw [Nat.add_sub_cancel' hd]
  rw [e]
/-- Off the block g: empty, or elsewhere. -/
def OffG (g : Nat) (r : SL V) : Prop := r.l = [] ∨ ∀ b o, r.ao = some ⟨b, o, none⟩ → b ≠ g
/-- The elements of a sort at block g in world w: entries that can be read there. -/
def SE (w : World) (g : Nat) : Type := { x : Be // BeOk w w.heap.size x ∧ OffG g x.r }
theorem row_none {w : World} {B : Nat} {ao : Option Addr} : RowAt w B ao [] := ⟨fun _ h => by simp at h, .inl rfl⟩
instance instSE (w : World) (g : Nat) : Inhabited (SE w g) := ⟨⟨⟨⟨none, 0, []⟩, 0⟩, ⟨⟨row_none, fun _ => rfl, Nat.le_refl _, by simp [maxLen]⟩, by unfold n64; simp only; omega⟩, .inl rfl⟩⟩
theorem RwS.offG {w w' : World} {g : Nat} {r : SL V} (h : RwS w w.heap.size r) (hg : OffG g r) (ha : Away (some g) w w') : RwS w' w'.heap.size r := by
  rcases hg with h0 | hb
  · refine ⟨?_, h.nil, h.cap, h.len⟩
    have := h.row.1
    rw [h0] at *
    exact row_none
  · exact h.away ha (fun b o e h => hb b o e (by simpa using h))
theorem sort_away {α : Type} [Inhabited α] (enc : α → List Value) (k : Nat) (w : World) (g off m : Nat) (d : Array α) (os : Array Obj) : Away (some g) w (sortWorldK enc k w g off m d os) := by
  refine ⟨rfl, rfl, rfl, size_sortWorldK_c enc k w g off m d os, fun j hj hne => ?_⟩
  have hne' : g ≠ j := fun e => hne (by rw [e])
  show ((mapBlock (Sort.ahead w m) g _).heap ++ os)[j]? = _
  have hs : j < (mapBlock (Sort.ahead w m) g (putCells id off (flatK enc k d))).heap.size := by simpa [mapBlock] using hj
  rw [Array.getElem?_append_left hs]
  simp [mapBlock, Sort.ahead, Array.getElem?_modify, hne']
def encSE (w : World) (g : Nat) (x : SE w g) : List Value := encBe x.1
def cmpSE (w : World) (g : Nat) (x y : SE w g) : Int := cmpRows x.1.r.l y.1.r.l
theorem ltSE {w : World} {g : Nat} {x y : SE w g} {b : Bool} (h : ltOf (cmpSE w g) x y = b) : (cmpRows x.1.r.l y.1.r.l < 0) ↔ b = true := by
  rw [← h]
  exact decide_eq_true_iff.symm
theorem swoSE (w : World) (g : Nat) : SWO (ltOf (cmpSE w g)) where
  irrefl x := by
    show decide (cmpRows x.1.r.l x.1.r.l < 0) = false
    rw [cmp_refl]; rfl
  trans x y z h1 h2 := by
    have k1 := (ltSE h1).2 rfl
    have k2 := (ltSE h2).2 rfl
    exact decide_eq_true (cmp_lt_trans k1 (by omega))
  ntrans x y z h1 h2 := by
    have k1 : ¬ cmpRows x.1.r.l y.1.r.l < 0 := fun h => by simpa using (ltSE h1).1 h
    have k2 : ¬ cmpRows y.1.r.l z.1.r.l < 0 := fun h => by simpa using (ltSE h2).1 h
    refine decide_eq_false fun h => ?_
    have h : cmpRows x.1.r.l z.1.r.l < 0 := h
    have h3 := cmp_anti y.1.r.l z.1.r.l
    have h4 := cmp_lt_trans h (c := y.1.r.l) (by omega)
    omega
theorem cmpLaysSE (w : World) (g off n : Nat) : CmpLays Try.prog 40 #[] (encSE w g) 2 (cmpSE w g) g off n w := by
  intro m os dk _ x y
  have ha := sort_away (encSE w g) 2 w g off m dk os
  refine (pcmp_anyD x.1.r.ao y.1.r.ao x.1.r.cap y.1.r.cap x.1.r.l y.1.r.l x.1.n y.1.n _ (x.2.1.row.offG x.2.2 ha) (y.2.1.row.offG y.2.2 ha)).mono ?_
  rintro e w' ⟨h1, h2⟩
  exact ⟨h1, grown_of_belowD h2⟩
theorem aggE (w : World) : (isAgg 34).run Try.prog w = .ok true w := by kernel_rfl
theorem sizeE2 (w : World) : (Go.sizeOf 34).run Try.prog w = .ok 2 w := by kernel_rfl
theorem lift_list {P : Be → Prop} (l : List Be) (h : ∀ x ∈ l, P x) : ∃ dl : List { x : Be // P x }, dl.map (fun x => x.1) = l := ⟨l.attachWith P h, by simp⟩
/-- A sorted list. -/
def Rising (l : List Be) : Prop := (ens l).Pairwise fun x y => cmpRows y.1 x.1 < 0 → False
/-- A call that has sorted the list in block g. -/
def SortedAt (w : World) (g : Nat) (l : List Be) (e : Ending) (w' : World) : Prop := e = .returned (.tuple #[]) ∧ ∃ l', Hid (l'.Perm l) ∧ Hid (Rising l') ∧ Hid (RAt encBe 2 w' w'.heap.size (some ⟨g, 0, none⟩) l') ∧ Away (some g) w w'
theorem psort_any (B g cap : Nat) (l : List Be) (w : World) (hown : OwnsR encBe 2 w B 34 (.slice (some ⟨g, 0, none⟩) l.length cap) l) (hl : l.length ≤ 1000000) (he : ∀ x ∈ l, BeOk w w.heap.size x ∧ OffG g x.r) :
    Calls Try.prog 71 #[.slice (some ⟨g, 0, none⟩) l.length cap, .func (.func 40) #[] #[]] w (SortedAt w g l) := by
  have eg : ∀ args w, (callFunc 40 args).run Try.prog w = .ok (.enter 40 args) w := enters_of Try.func40 (by kernel_rfl) rfl
  obtain ⟨dl, hdm⟩ : ∃ dl : List (SE w g), dl.map (fun x => x.1) = l := lift_list l he
  have hdn : dl.length = l.length := by rw [← hdm, List.length_map]
  have hlt : g < w.heap.size := (hown.lt g rfl).2
  have hat : ∀ i, i < dl.toArray.size → ∃ hi : i < l.length, (dl.toArray[i]!).1 = l[i] := by
    intro i hi
    simp only [List.size_toArray] at hi
    refine ⟨by omega, ?_⟩
    rw [getElem!_pos _ i (by simpa using hi)]
    simp only [List.getElem_toArray, ← hdm, List.getElem_map]
  have hH : HoldsK (encSE w g) 2 w g 0 dl.toArray := by
    obtain ⟨ao, cp, e, hr, _, _, _, _⟩ := OwnsR.rAt encBe_len hown
    have hfz : ∀ o, w.frozen? ⟨g, o, none⟩ = false := by
      rcases hown.2 with ⟨h0, _⟩ | ⟨g', cap', cur, hv, hg, hh, _⟩
      · cases h0
      · cases hv
        intro o
        simp [World.frozen?, hh]
    cases e
    intro t ht
    rw [size_flatK] at ht
    have hi : t / 2 < dl.toArray.size := by omega
    obtain ⟨hil, hx⟩ := hat (t / 2) hi
    rw [get_flatK _ _ _ _ ht]
    refine ⟨?_, hfz _⟩
    have h2 : t % 2 < (encBe l[t / 2]).length := by rw [encBe_len]; omega
    have := hr.cell hil (j := t % 2) (u := (encBe l[t / 2])[t % 2]) (List.getElem?_eq_getElem h2)
    rw [show 0 + t / 2 * 2 + t % 2 = 0 + t by omega] at this
    rw [this]
    unfold encSE
    rw [hx, getElem!_pos (encBe l[t / 2]) (t % 2) h2]
    rfl
  have hcon := AnyQ.slices_SortFunc Try.sortE 2 aggE sizeE2 (encSE w g) (fun _ => rfl) (fun x v hv => encBe_one x.1 v hv) (cmpSE w g) (swoSE w g) 40 #[] g 0 cap dl.toArray w eg (cmpLaysSE w g 0 _) hH hlt (by rw [List.size_toArray]; omega)
  have hsz : dl.toArray.size = l.length := by rw [List.size_toArray, hdn]
  rw [hsz] at hcon
  refine Calls.mono (show Calls Try.prog 71 _ _ _ from hcon) ?_
  rintro e w' ⟨rfl, d', n, os, hp, hs, rfl⟩
  have hps : d'.size = l.length := by rw [hp.1, hsz]
  have hperm : d'.toList.Perm dl := by
    have := hp.2.2
    have e1 : d'.extract 0 dl.toArray.size = d' := Array.extract_eq_self_of_le (by omega)
    have e2 : dl.toArray.extract 0 dl.toArray.size = dl.toArray := Array.extract_eq_self_of_le (Nat.le_refl _)
    rw [hsz] at e1 e2
    rw [e1, e2] at this
    exact this
  refine ⟨rfl, d'.toList.map (fun x => x.1), ?_, ?_, ?_, sort_away (encSE w g) 2 w g 0 n d' os⟩
  · show List.Perm _ _
    rw [← hdm]
    exact hperm.map _
  · show List.Pairwise _ _
    unfold ens
    rw [List.map_map, List.pairwise_map, List.pairwise_iff_getElem]
    intro i j hi hj hij
    have := hs i j (Nat.zero_le _) hij (by simpa [hps] using hj)
    rw [getElem!_pos _ i (by simpa using hi), getElem!_pos _ j (by simpa using hj)] at this
    exact fun h => by simpa using (ltSE this).1 h
  · have hSW : SWK (encSE w g) 2 w g 0 d' (sortWorldK (encSE w g) 2 w g 0 n d' os) := ⟨n, os, rfl⟩
    have hh := hSW.holds hlt hH (by rw [hps, hsz])
    refine .inr ⟨g, 0, rfl, Nat.lt_of_lt_of_le hlt (sort_away (encSE w g) 2 w g 0 n d' os).size, fun i hi j u hu => ?_⟩
    have hi' : i < d'.size := by simpa using hi
    have hj2 : j < 2 := by
      have := (List.getElem?_eq_some_iff.1 hu).1
      rwa [encBe_len] at this
    have hc := (hh.cell hi' hj2).1
    rw [hc]
    rw [getElem!_pos _ i hi']
    simp only [List.getElem_map, Array.getElem_toList] at hu
    unfold encSE
    obtain ⟨hj3, hu2⟩ := List.getElem?_eq_some_iff.1 hu
    rw [getElem!_pos (encBe d'[i].1) j hj3, hu2]
theorem psort_nil (w : World) : Calls Try.prog 71 #[.slice none 0 0, .func (.func 40) #[] #[]] w fun e w' => e = .returned (.tuple #[]) ∧ w' = w :=
  AnyF.slices_SortFunc_none Try.sortE none 0 _ w
end Go.Proofs.Ytdckpjkbchibjaa
