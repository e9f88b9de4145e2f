/- SmallBag of the laws' builder. -/
import Derived.Test.YtdckpjkbchibjaaBk
namespace Go.Proofs.Ytdckpjkbchibjaa
open Go.RowKit Go.Proofs.EB
set_option maxHeartbeats 8000000
set_option maxRecDepth 100000
attribute [local go_sem] World.cell?_alloc_some

def smlR (l : List V) : Bool := decide (l.length ≤ 20) && l.all fun v => decide (v.s.size ≤ 100)
def smlB (l : List Be) : Bool := decide (l.length ≤ 40) && l.all fun x => smlR x.r.l
theorem sml_long {l : List Be} (h : 40 < l.length) : smlB l = false := by
  unfold smlB
  rw [Bool.and_eq_false_iff]
  left
  simpa using h
theorem sml_fail {l : List Be} {i : Nat} (hi : i < l.length) (h : smlR l[i].r.l = false) : smlB l = false := by
  unfold smlB
  rw [Bool.and_eq_false_iff]
  right
  rw [Bool.eq_false_iff]
  intro ha
  have := List.all_eq_true.1 ha l[i] (List.getElem_mem hi)
  rw [h] at this
  simp at this
theorem sml_done {l : List Be} (hl : l.length ≤ 40) (h : ∀ i (hi : i < l.length), smlR l[i].r.l = true) : smlB l = true := by
  unfold smlB
  rw [Bool.and_eq_true, List.all_eq_true, decide_eq_true_iff]
  refine ⟨hl, fun x hx => ?_⟩
  obtain ⟨i, hi, rfl⟩ := List.getElem_of_mem hx
  exact h i hi
theorem smlR_long {l : List V} (h : 20 < l.length) : smlR l = false := by
  unfold smlR
  rw [Bool.and_eq_false_iff]
  left
  simpa using h
theorem smlR_fail {l : List V} {i : Nat} (hi : i < l.length) (h : 100 < l[i].s.size) : smlR l = false := by
  unfold smlR
  rw [Bool.and_eq_false_iff]
  right
  rw [Bool.eq_false_iff]
  intro ha
  have := List.all_eq_true.1 ha l[i] (List.getElem_mem hi)
  rw [decide_eq_true_iff] at this
  omega
theorem smlR_done {l : List V} (hl : l.length ≤ 20) (h : ∀ i (hi : i < l.length), l[i].s.size ≤ 100) : smlR l = true := by
  unfold smlR
  rw [Bool.and_eq_true, List.all_eq_true, decide_eq_true_iff]
  refine ⟨hl, fun x hx => ?_⟩
  obtain ⟨i, hi, rfl⟩ := List.getElem_of_mem hx
  rw [decide_eq_true_iff]
  exact h i hi
theorem smallBag_any (ao : Option Addr) (cap : Nat) (l : List Be) (w : World) (h : BagS w w.heap.size ⟨ao, cap, l⟩) :
    Calls Try.prog 11 #[.slice ao l.length cap] w fun e w' => e = .returned (.bool (smlB l)) ∧ w = w' := by
  have hlen := h.len
  unfold maxLen at hlen
  simp only at hlen
  obtain ⟨r, hr⟩ : ∃ r, r = smlB l := ⟨_, rfl⟩
  rw [← hr]
  have Hr := Lib.hid hr
  have HS := Lib.hid h
  clear hr h
  by_cases hbig : 40 < l.length
  · have Hx := Lib.hid (Hr.out.trans (sml_long hbig))
    go_enter Try.func11, Try.ntmps11
    go_wp2_with fail
    go_ret
    exact ⟨yields_bool Hx.out.symm, rfl⟩
  · have h4 : l.length ≤ 40 := by omega
    go_enter Try.func11, Try.ntmps11
    go_wp2_with fail
    go_loop [3] (fun i => ∃ k : Nat, k ≤ l.length ∧ i = .int .i64 k ∧ Hid (∀ j (h : j < l.length), j < k → smlR l[j].r.l = true)) (fun i => l.length - (intOf i).toNat)
    case atStart => exact ⟨0, Nat.zero_le _, rfl, fun j _ h => absurd h (by omega)⟩
    case round =>
      obtain ⟨i, hi, rfl, hall⟩ := hrel
      by_cases hlt : i < l.length
      · obtain ⟨b, off, hao, _⟩ := HS.out.row.form (by show 0 < l.length; omega)
        simp only at hao
        subst hao
        obtain ⟨c0, _⟩ := be_cells HS.out.row hlt
        have hR := (HS.out.each _ (List.getElem_mem hlt)).row
        have hF := sml_fail hlt
        have q0 : (i : Int) < (l.length : Int) := by omega
        have q1 : (0 : Int) ≤ (i : Int) := by omega
        obtain ⟨x, hx⟩ : ∃ x, l[i] = x := ⟨_, rfl⟩
        rw [hx] at hF c0 hR
        have Hx := Lib.hid hx
        clear hx
        obtain ⟨⟨ra, rc, rl⟩, n⟩ := x
        dsimp only at *
        have hrl := hR.len
        unfold maxLen at hrl
        dsimp only at hrl
        have HF := Lib.hid hF
        have HR := Lib.hid hR
        clear hF hR
        by_cases h20 : 20 < rl.length
        · have Hy := Lib.hid (Hr.out.trans (HF.out (smlR_long h20)))
          go_wp2_with fail
          go_ret
          exact ⟨yields_bool Hy.out.symm, rfl⟩
        · have h20b : rl.length ≤ 20 := by omega
          go_wp2_with fail
          go_loop [4] (fun j => ∃ q : Nat, q ≤ rl.length ∧ j = .int .i64 q ∧ Hid (∀ p (h : p < rl.length), p < q → rl[p].s.size ≤ 100)) (fun j => rl.length - (intOf j).toNat)
          case atStart => exact ⟨0, Nat.zero_le _, rfl, fun j _ h => absurd h (by omega)⟩
          case round =>
            obtain ⟨q, hq, rfl, hall2⟩ := hrel
            by_cases hqt : q < rl.length
            · obtain ⟨b2, o2, k2, n2, s2, hra, _, hv2, hok2, _, _, d2⟩ := HR.out.row.at hqt
              dsimp only at hra
              subst hra
              have Hv2 := Lib.hid hv2
              have hs2 : s2.size ≤ maxLen := hok2.2.2
              unfold maxLen at hs2
              have q2 : (q : Int) < (rl.length : Int) := by omega
              have q3 : (0 : Int) ≤ (q : Int) := by omega
              clear hv2 hok2
              by_cases h100 : 100 < s2.size
              · have Hy := Lib.hid (Hr.out.trans (HF.out (smlR_fail hqt (by rw [Hv2.out]; exact h100))))
                go_wp2_with fail
                go_ret
                exact ⟨yields_bool Hy.out.symm, rfl⟩
              · have h100b : s2.size ≤ 100 := by omega
                go_wp2_with fail
                go_round
                case rel =>
                  refine ⟨q + 1, by omega, by go_num, ?_⟩
                  intro j hj hjk
                  by_cases hje : j < q
                  · exact hall2.out j hj hje
                  · obtain rfl : j = q := by omega
                    rw [Hv2.out]; exact h100b
                case measure => simp [intOf]; omega
            · have Hok := Lib.hid (smlR_done h20b (fun p hp => hall2.out p hp (by omega)))
              have q2 : ¬ (q : Int) < (rl.length : Int) := by omega
              go_wp2_with fail
              go_round
              case rel =>
                refine ⟨i + 1, by omega, by go_num, ?_⟩
                intro j hj hjk
                by_cases hje : j < i
                · exact hall.out j hj hje
                · obtain rfl : j = i := by omega
                  rw [Hx.out]; exact Hok.out
              case measure => simp [intOf]; omega
      · have Hy := Lib.hid (Hr.out.trans (sml_done h4 (fun j hj => hall.out j hj (by omega))))
        go_wp2_with fail
        go_ret
        exact ⟨yields_bool Hy.out.symm, rfl⟩
end Go.Proofs.Ytdckpjkbchibjaa
