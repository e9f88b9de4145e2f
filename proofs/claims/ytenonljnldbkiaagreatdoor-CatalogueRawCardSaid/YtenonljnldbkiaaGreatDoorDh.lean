/- The reference of layer 4: the types of the columns of every store below which all is well. -/
import Derived.Test.YtenonljnldbkiaaGreatDoorDd
import Derived.Test.YtenonljnldbkiaaGreatDoorML
namespace Go.Proofs.YtenonljnldbkiaaGreatDoor
open Go.RowKit Go.Proofs.EB Go.Proofs.TX
set_option maxHeartbeats 4000000
set_option maxRecDepth 100000

theorem addE_vals : ∀ (l : List (ByteArray × (Int × Int))) (ns : List ByteArray) (ts : List Int), (addE ns ts l).1 = 0 → (addE ns ts l).2 = (ns ++ l.map (·.1), ts ++ l.map (·.2.1)) ∧ ∀ e ∈ l, e.2.2 = 0
  | [], ns, ts, _ => by simp [addE]
  | (x, p) :: l, ns, ts, h => by
    unfold addE at h ⊢
    by_cases h1 : nameE x ns ≠ 0
    · rw [if_pos h1] at h; exact absurd h h1
    · rw [if_neg h1] at h ⊢
      by_cases h2 : p.2 ≠ 0
      · rw [if_pos h2] at h; exact absurd h h2
      · rw [if_neg h2] at h ⊢
        obtain ⟨h3, h4⟩ := addE_vals l _ _ h
        refine ⟨by rw [h3]; simp, fun e he => ?_⟩
        rcases List.mem_cons.1 he with rfl | he
        · simpa using h2
        · exact h4 e he
theorem agT_val {ins : List Int} {fn : Int} {ex : List Tm} (h : (agT ins fn ex).2 = 0) : (agT ins fn ex).1 = if (fn == 0 || fn == 1) = true then 1 else (tyL ins ex).1 := by
  unfold agT at h ⊢
  by_cases h0 : fn = 0
  · subst h0
    rw [if_pos rfl] at h ⊢
    by_cases he : ex = []
    · rw [if_pos he]; rfl
    · rw [if_neg he] at h; cases h
  · rw [if_neg h0] at h ⊢
    by_cases h1 : fn = 1
    · subst h1
      rw [if_pos rfl] at h ⊢
      rw [if_pos (by rfl)]
      unfold reqI at h ⊢
      by_cases h2 : (tyL ins ex).2 = 0 ∧ (tyL ins ex).1 ≠ 1
      · rw [if_pos h2] at h; cases h
      · rw [if_neg h2] at h ⊢
        exact Classical.byContradiction fun hn => h2 ⟨h, hn⟩
    · rw [if_neg h1] at h ⊢
      have hf : ¬ (fn == 0 || fn == 1) = true := by simp [h0, h1]
      rw [if_neg hf]
      by_cases h2 : fn = 2 ∨ fn = 3 ∨ fn = 4
      · rw [if_pos h2]
      · rw [if_neg h2] at h; cases h
theorem derE_types {v : Vw} {L R : Cs} (hk : v.kind ≠ 2) (h : (derE v L R).1 = 0) : (derE v L R).2.2 = v.its.l.map (itT (L.2 ++ R.2)) ++ v.ags.l.map (agTy (L.2 ++ R.2)) := by
  unfold derE at h ⊢
  rw [if_neg hk] at h ⊢
  by_cases h1 : pairE L.2 R.2 v.on.l ≠ 0
  · rw [if_pos h1] at h; exact absurd h h1
  · rw [if_neg h1] at h ⊢
    by_cases h2 : whE v.wh.l (L.2 ++ R.2) ≠ 0
    · rw [if_pos h2] at h; exact absurd h h2
    · rw [if_neg h2] at h ⊢
      obtain ⟨h3, h4⟩ := addE_vals _ _ _ h
      rw [h3]
      simp only [List.nil_append]
      unfold entries at h4 ⊢
      rw [List.map_append, List.map_map, List.map_map]
      congr 1
      refine List.map_congr_left fun a ha => ?_
      have h5 := h4 (a.name, agT (L.2 ++ R.2) a.fn a.ex.l) (List.mem_append.2 (.inr (List.mem_map.2 ⟨a, ha, rfl⟩)))
      exact agT_val h5
theorem derE_union {v : Vw} {L R : Cs} (hk : v.kind = 2) (h : (derE v L R).1 = 0) : (derE v L R).2 = L := by
  unfold derE at h ⊢
  rw [if_pos hk] at h ⊢
  by_cases h1 : L.2 = R.2
  · rw [if_pos h1]
  · rw [if_neg h1] at h; cases h
theorem right_len {c : Cat} {n : Nat} {x : ByteArray} {R : Cs} (hg : c.Good n) (hn : n ≤ c.nS) (h : (if emp x = true then some ([], []) else srcOf (c.names.take n) (c.sts.take n) x) = some R) : R.2.length ≤ 8 := by
  by_cases he : emp x = true
  · rw [if_pos he] at h; obtain rfl := Option.some.inj h; simp
  · rw [if_neg he] at h
    obtain ⟨_, _, _, _, _, h8⟩ := srcOf_at hg hn h
    exact h8
theorem rcolTypes_any (c : Cat) (hs : c.Sml) : ∀ k, k < c.nS → c.Good (k + 1) → TysP c k := by
  intro k
  induction k using Nat.strongRecOn with
  | _ k ih =>
    intro hk hg w hcat
    by_cases ht : k < c.ts.l.length
    · have h1 := rcolTab_any c hs k ht w hcat
      have h2 : (c.sts.getD k ([], [])).2 = c.ts.l[k].cols.l.map (·.ty) := by rw [List.getD_eq_getElem?_getD, c.sts_tab ht]; rfl
      rw [h2]; exact h1
    · obtain ⟨j, rfl⟩ : ∃ j, k = c.nT + j := ⟨k - c.nT, by unfold Cat.nT; omega⟩
      have hj : j < c.vs.l.length := by unfold Cat.nS Cat.nT at hk; omega
      have hg1 := hg.mono (Nat.le_succ _)
      have hv := hg.view hj (Nat.lt_succ_self _)
      have hsv : c.sts.getD (c.nT + j) ([], []) = (vwE (c.names.take (c.nT + j)) (c.sts.take (c.nT + j)) c.vs.l[j]).2 := by rw [List.getD_eq_getElem?_getD, c.sts_view hj]; rfl
      obtain ⟨_, _, L, R, hL, hR, he, hz⟩ := vwE_ok hv
      have he' : vwE (c.names.take (c.nT + j)) (c.sts.take (c.nT + j)) c.vs.l[j] = derE c.vs.l[j] L R := he
      rw [hsv, he']
      obtain ⟨k2, hk2, hi2, hLe, _, hl8⟩ := srcOf_at hg1 (by omega) hL
      have hr8 := right_len hg1 (by omega) hR
      by_cases h2 : c.vs.l[j].kind = 2
      · rw [derE_union h2 hz]
        refine rcolUnion_any c hs j hj h2 k2 hi2 L.2 (fun W hW => ?_) w hcat
        have := ih k2 hk2 (by omega) (hg.mono (by omega)) W hW
        rw [← hLe] at this
        exact this
      · rw [derE_types h2 hz]
        refine rcolView_any c hs j hj h2 (L.2 ++ R.2) (by rw [List.length_append]; omega) (fun W hW => ?_) w hcat
        exact rinputs_any c hs j hj hg1 L R hL hR (fun k3 h3 => ih k3 h3 (by omega) (hg.mono (by omega))) W hW
end Go.Proofs.YtenonljnldbkiaaGreatDoor
