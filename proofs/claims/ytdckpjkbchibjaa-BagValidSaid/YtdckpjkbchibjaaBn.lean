/- The map of sums, plain: what it holds of a list of entries, and the bag that its entries make, in whatever order they come. -/
import Derived.Test.YtdckpjkbchibjaaBa
import Derived.Maps.Ext
import Derived.Lib.SlMapFilter
import Derived.Sort.KeysCollected
namespace Go.Proofs.Ytdckpjkbchibjaa
open Go.RowKit Go.Maps

abbrev MD := DataW Unit
def keyL (r : List V) : Lit := .string (encRow r)
def sumL (n : Int) : MD := .lit (.int .i64 n)
theorem keyL_is (r : List V) : WideAt.IsKeyLit (keyL r) := by simp [keyL, WideAt.IsKeyLit]
theorem key_cmp {a b : List V} : keyL a = keyL b ↔ cmpRows a b = 0 := by
  unfold keyL
  constructor
  · intro h
    have h' : encRow a = encRow b := by simpa using h
    rw [← cb_rows, h']; exact cb_refl _
  · intro h
    rw [← cb_rows] at h
    rw [cb_eq _ _ h]
/-- The map of the sums of a list. -/
structure SumsAre (D : MD) (l : List En) : Prop where
  keys : ∀ k, Maps.has D k = true ↔ ∃ e ∈ l, k = keyL e.1
  sums : ∀ r z, Maps.has D (keyL r) = true → D.atKey (keyL r) z = sumL (cnt l r)
theorem cnt_zero {l : List En} {r : List V} (h : ∀ e ∈ l, cmpRows e.1 r ≠ 0) : cnt l r = 0 :=
  cnt_none fun _ hi => h _ (List.getElem_mem hi)
theorem SumsAre.start : SumsAre (.map []) [] := ⟨fun k => by simp [Maps.has], fun r z h => by simp [Maps.has] at h⟩
theorem SumsAre.at {D : MD} {l : List En} (h : SumsAre D l) (r : List V) : D.atKey (keyL r) (sumL 0) = sumL (cnt l r) := by
  cases hh : Maps.has D (keyL r)
  · rw [atKey_of_not_has hh, cnt_zero]
    intro e he h0
    have := (h.keys (keyL r)).2 ⟨e, he, (key_cmp.2 h0).symm⟩
    rw [hh] at this; cases this
  · exact h.sums r _ hh
theorem SumsAre.step {D : MD} {l : List En} (h : SumsAre D l) (hD : IsMap D) (r : List V) (n : Int) : SumsAre (D.put (keyL r) (sumL (cnt l r + n))) (l ++ [(r, n)]) := by
  refine ⟨fun k => ?_, fun r' z hh => ?_⟩
  · by_cases hk : k = keyL r
    · subst hk
      rw [has_put_same hD (keyL_is r)]
      simp
    · rw [has_put_other hk, h.keys k]
      constructor
      · rintro ⟨e, he, h1⟩; exact ⟨e, by simp [he], h1⟩
      · rintro ⟨e, he, h1⟩
        rcases List.mem_append.1 he with he | he
        · exact ⟨e, he, h1⟩
        · simp only [List.mem_singleton] at he; subst he; exact absurd h1 hk
  · rw [cnt_app]
    by_cases hk : keyL r' = keyL r
    · have h0 := key_cmp.1 hk
      rw [hk, atKey_put_same hD (keyL_is r)]
      simp only [cnt]
      rw [if_pos (cmp_swap h0), cnt_congr h0]
      rw [Int.add_zero]
    · have h0 : ¬ cmpRows r r' = 0 := fun e => hk (key_cmp.2 (cmp_swap e))
      rw [atKey_put_other hk]
      rw [has_put_other hk] at hh
      simp only [cnt]
      rw [h.sums r' z hh, if_neg h0, Int.add_zero, Int.add_zero]
/-- What DeleteFunc strikes. -/
def isZ (_ : Lit) : MD → Bool
  | .lit (.int _ v) => v == 0
  | _ => false
theorem has_of_mem {es : List (Lit × MD)} (p : Lit × MD) (hk : WideAt.IsKeyLit p.1) (h : p ∈ es) : Maps.has (.map es) p.1 = true :=
  List.any_eq_true.2 ⟨p, h, WideAt.sameKey_self hk⟩
theorem mem_of_has {es : List (Lit × MD)} {k : Lit} (h : Maps.has (.map es) k = true) : ∃ p ∈ es, p.1 = k := by
  obtain ⟨p, hp, hs⟩ := List.any_eq_true.1 h
  exact ⟨p, hp, WideAt.sameKey_eq hs⟩
theorem has_delF {pd : Lit → MD → Bool} {es : List (Lit × MD)} (hap : es.Pairwise (fun p q => p.1 ≠ q.1)) (hkey : ∀ p ∈ es, WideAt.IsKeyLit p.1) (k : Lit) :
    Maps.has (Lib.deleteFuncD pd (.map es)) k = true ↔ Maps.has (.map es) k = true ∧ pd k ((DataW.map es).atKey k .nil) = false := by
  constructor
  · intro h
    obtain ⟨p, hp, rfl⟩ := mem_of_has (es := es.filter fun p => !pd p.1 p.2) h
    obtain ⟨hp1, hp2⟩ := List.mem_filter.1 hp
    refine ⟨has_of_mem p (hkey p hp1) hp1, ?_⟩
    rw [WideAt.atKey_mem .nil (hkey p hp1) hap (d := p.2) hp1]
    simpa using hp2
  · rintro ⟨h, h2⟩
    obtain ⟨p, hp, rfl⟩ := mem_of_has h
    rw [WideAt.atKey_mem .nil (hkey p hp) hap (d := p.2) hp] at h2
    exact has_of_mem (es := es.filter fun p => !pd p.1 p.2) p (hkey p hp) (List.mem_filter.2 ⟨hp, by simp [h2]⟩)
theorem at_delF {pd : Lit → MD → Bool} {es : List (Lit × MD)} (hap : es.Pairwise (fun p q => p.1 ≠ q.1)) (hkey : ∀ p ∈ es, WideAt.IsKeyLit p.1) {k : Lit} (h : Maps.has (Lib.deleteFuncD pd (.map es)) k = true) (z : MD) :
    (Lib.deleteFuncD pd (.map es)).atKey k z = (DataW.map es).atKey k z := by
  obtain ⟨p, hp, rfl⟩ := mem_of_has (es := es.filter fun p => !pd p.1 p.2) h
  obtain ⟨hp1, hp2⟩ := List.mem_filter.1 hp
  rw [WideAt.atKey_mem z (hkey p hp1) hap (d := p.2) hp1]
  exact WideAt.atKey_mem z (hkey p hp1) (hap.filter _) hp
/-- The map whose entries are those of a bag. -/
structure MapIs (D : MD) (b : List En) : Prop where
  keys : ∀ k, Maps.has D k = true ↔ ∃ e ∈ b, k = keyL e.1
  sums : ∀ e ∈ b, ∀ z, D.atKey (keyL e.1) z = sumL e.2
theorem bag_has {b : List En} (hb : IsBag b) {r : List V} : cnt b r ≠ 0 ↔ ∃ e ∈ b, cmpRows e.1 r = 0 := by
  constructor
  · intro h
    apply Classical.byContradiction
    intro hn
    exact h (cnt_zero fun e he h0 => hn ⟨e, he, h0⟩)
  · rintro ⟨e, he, h0⟩
    obtain ⟨i, hi, rfl⟩ := List.getElem_of_mem he
    rw [cnt_find hb.asc hi h0]
    exact hb.nz _ he
theorem bag_at {b : List En} (hb : IsBag b) {e : En} (he : e ∈ b) : cnt b e.1 = e.2 := by
  obtain ⟨i, hi, rfl⟩ := List.getElem_of_mem he
  exact cnt_find hb.asc hi (cmp_refl _)
theorem SumsAre.struck {D : MD} {l : List En} (h : SumsAre D l) (hv : VR l) (hE : ∃ es, D = .map es ∧ es.Pairwise (fun p q => p.1 ≠ q.1) ∧ ∀ p ∈ es, WideAt.IsKeyLit p.1) : MapIs (Lib.deleteFuncD isZ D) (bagOf l) := by
  obtain ⟨es, rfl, hap, hk⟩ := hE
  have hb := bagOf_is hv
  have key : ∀ r, Maps.has (Lib.deleteFuncD isZ (.map es)) (keyL r) = true ↔ ∃ e ∈ bagOf l, cmpRows e.1 r = 0 := by
    intro r
    rw [has_delF hap hk]
    constructor
    · rintro ⟨h1, h2⟩
      rw [h.sums r .nil h1] at h2
      refine (bag_has hb).1 ?_
      rw [bagOf_cnt]
      simpa [isZ, sumL] using h2
    · intro h1
      have h2 := (bag_has hb).2 h1
      rw [bagOf_cnt] at h2
      have h3 : Maps.has (.map es) (keyL r) = true := by
        apply Classical.byContradiction
        intro hn
        exact h2 (cnt_zero fun e he h0 => hn ((h.keys (keyL r)).2 ⟨e, he, (key_cmp.2 h0).symm⟩))
      refine ⟨h3, ?_⟩
      rw [h.sums r .nil h3]
      simpa [isZ, sumL] using h2
  refine ⟨fun k => ?_, fun e he z => ?_⟩
  · constructor
    · intro h1
      have h2 := ((has_delF hap hk k).1 h1).1
      obtain ⟨e, _, rfl⟩ := (h.keys k).1 h2
      obtain ⟨e', he', h0⟩ := (key e.1).1 h1
      exact ⟨e', he', (key_cmp.2 h0).symm⟩
    · rintro ⟨e, he, rfl⟩
      exact (key e.1).2 ⟨e, he, cmp_refl _⟩
  · have h1 := (key e.1).2 ⟨e, he, cmp_refl _⟩
    rw [at_delF hap hk h1, h.sums _ _ ((has_delF hap hk _).1 h1).1, ← bagOf_cnt, bag_at hb he]
theorem keys_nodup {b : List En} (hb : AscE b) : (b.map fun e => encRow e.1).Nodup := by
  refine List.pairwise_map.2 (hb.imp fun {x y} h e => ?_)
  have : cmpRows x.1 y.1 = 0 := key_cmp.1 (congrArg Lit.string e)
  omega
theorem MapIs.size {D : MD} {b : List En} (h : MapIs D b) (hb : AscE b) (hE : ∃ es, D = .map es ∧ es.Pairwise (fun p q => p.1 ≠ q.1) ∧ ∀ p ∈ es, WideAt.IsKeyLit p.1) : Maps.size D = b.length := by
  obtain ⟨es, rfl, hap, hk⟩ := hE
  have hs : ∀ p ∈ es, ∃ x, p.1 = .string x := by
    intro p hp
    obtain ⟨e, _, he⟩ := (h.keys p.1).1 (has_of_mem p (hk p hp) hp)
    exact ⟨_, he⟩
  have hp := perm_strKeys hap hs (keys_nodup hb) (fun x => by
    rw [h.keys]
    simp only [List.mem_map, keyL, Lit.string.injEq]
    constructor
    · rintro ⟨e, he, rfl⟩; exact ⟨e, he, rfl⟩
    · rintro ⟨e, he, rfl⟩; exact ⟨e, he, rfl⟩)
  have := hp.length_eq
  simp only [List.length_map, strKeys] at this
  rw [size_eq]; omega
/-- What has been collected: the entries of the bag that are no longer to come. -/
structure Coll (b : List En) (left : Lit → Bool) (l : List En) : Prop where
  nd : l.Nodup
  mem : ∀ e, e ∈ l ↔ e ∈ b ∧ left (keyL e.1) = false
theorem Coll.start {D : MD} {b : List En} (h : MapIs D b) : Coll b (Maps.has D) [] := ⟨List.nodup_nil, fun e => by
  constructor
  · intro h; simp at h
  · rintro ⟨he, h1⟩
    rw [(h.keys (keyL e.1)).2 ⟨e, he, rfl⟩] at h1; cases h1⟩
theorem bag_inj {b : List En} (hb : AscE b) {x y : En} (hx : x ∈ b) (hy : y ∈ b) (h : cmpRows x.1 y.1 = 0) : x = y := by
  obtain ⟨i, hi, rfl⟩ := List.getElem_of_mem hx
  obtain ⟨j, hj, rfl⟩ := List.getElem_of_mem hy
  rcases Nat.lt_trichotomy i j with h1 | h1 | h1
  · have := List.pairwise_iff_getElem.1 hb i j hi hj h1; omega
  · subst h1; rfl
  · have := List.pairwise_iff_getElem.1 hb j i hj hi h1; have h2 := cmp_swap h; omega
theorem Coll.step {b l : List En} {left : Lit → Bool} (h : Coll b left l) (hb : AscE b) {e : En} (he : e ∈ b) (hlk : left (keyL e.1) = true) : Coll b (fun z => left z && !z.sameKey (keyL e.1)) (l ++ [e]) := by
  refine ⟨List.nodup_append.2 ⟨h.nd, by simp, fun a ha x hx => ?_⟩, fun x => ?_⟩
  · simp only [List.mem_singleton] at hx; subst hx
    rintro rfl
    have := ((h.mem a).1 ha).2
    rw [hlk] at this; cases this
  · rw [List.mem_append, List.mem_singleton, h.mem]
    constructor
    · rintro (⟨h1, h2⟩ | rfl)
      · exact ⟨h1, by rw [h2]; rfl⟩
      · exact ⟨he, by rw [WideAt.sameKey_self (keyL_is _)]; simp⟩
    · rintro ⟨h1, h2⟩
      by_cases hx : left (keyL x.1) = false
      · exact .inl ⟨h1, hx⟩
      · have h3 : (keyL x.1).sameKey (keyL e.1) = true := by
          cases hs : (keyL x.1).sameKey (keyL e.1)
          · rw [hs] at h2; simp at h2; exact absurd h2 hx
          · rfl
        exact .inr (bag_inj hb h1 he (key_cmp.1 (WideAt.sameKey_eq h3)))
theorem asc_nodup {b : List En} (hb : AscE b) : b.Nodup := hb.imp fun {x y} h e => by
  subst e; have := cmp_refl x.1; omega
theorem Coll.done {b l : List En} {left : Lit → Bool} (h : Coll b left l) (hb : AscE b) (hl : ∀ k, left k = false) : l.Perm b :=
  (List.perm_ext_iff_of_nodup h.nd (asc_nodup hb)).2 fun x => by rw [h.mem, hl]; simp
theorem cnt_perm {a b : List En} (h : a.Perm b) (r : List V) : cnt a r = cnt b r := by
  induction h with
  | nil => rfl
  | cons x _ ih => simp only [cnt, ih]
  | swap x y l => simp only [cnt]; omega
  | trans _ _ ih1 ih2 => rw [ih1, ih2]
/-- What is sorted and holds the entries of a bag is the bag. -/
theorem sorted_bag {b l : List En} (hb : IsBag b) (hp : l.Perm b) (hs : l.Pairwise fun x y => cmpRows y.1 x.1 < 0 → False) : l = b := by
  have hnd : l.Nodup := hp.nodup_iff.2 (asc_nodup hb.asc)
  refine bag_unique ⟨?_, fun e he => hb.nz e (hp.mem_iff.1 he), fun e he => hb.vr e (hp.mem_iff.1 he)⟩ hb fun r => cnt_perm hp r
  refine (hs.and hnd).imp_of_mem fun {x y} hx hy h => ?_
  have h1 : ¬ cmpRows y.1 x.1 < 0 := h.1
  have h2 := cmp_anti x.1 y.1
  by_cases h0 : cmpRows x.1 y.1 = 0
  · exact absurd (bag_inj hb.asc (hp.mem_iff.1 hx) (hp.mem_iff.1 hy) h0) h.2
  · omega
end Go.Proofs.Ytdckpjkbchibjaa
