/- The tape's Name and Pieces: some string of bounded size. -/
import Derived.Test.YtninmolgkkhikaaDoorTc
import Derived.Test.YtninmolgkkhikaaDoorPf
namespace Go.Proofs.YtninmolgkkhikaaDoor
open Go.RowKit Go.Proofs.EB
set_option maxHeartbeats 2000000
attribute [local go_sem] World.cell?_alloc_some

def nameCells : Array Value := #[.string ⟨#[97]⟩, .string ⟨#[98]⟩, .string ⟨#[105, 100]⟩, .string ⟨#[119, 104, 111]⟩, .string ⟨#[109, 97, 105, 108]⟩, .string ⟨#[99, 105, 116, 121]⟩, .string ⟨#[110, 49]⟩, .string ⟨#[120, 95, 50]⟩, .string ⟨#[116, 111, 116, 97, 108]⟩, .string ⟨#[114, 111, 119]⟩]
/-- A row of strings, each of at most 20 bytes. -/
def Strs (C : Array Value) : Prop := ∀ i, i < C.size → ∃ s : ByteArray, C[i]? = some (.string s) ∧ s.size ≤ 20
theorem strs_of {C : Array Value} (h : C.toList.all (fun v => match v with | .string s => decide (s.size ≤ 20) | _ => false) = true) : Strs C := by
  intro i hi
  have hm := List.all_eq_true.1 h C[i] (by simp)
  cases hc : C[i] with
  | string s => rw [hc] at hm; exact ⟨s, by rw [Array.getElem?_eq_getElem hi, hc], by simpa using hm⟩
  | _ => rw [hc] at hm; simp at hm
theorem nameStrs : Strs nameCells := strs_of (by rfl)
theorem name_any (B g : Nat) (w : World) (h : TapeAt w B g) (hB : B ≤ w.heap.size) :
    Calls Tryd.prog 22 #[.pointer (some ⟨g, 0, none⟩)] w (StrPost w B g 20) := by
  have hgB : g < B := by obtain ⟨_, _, _, _, _, _, _, hg, _⟩ := h; exact hg
  have hn1 : (w.alloc (.cells nameCells 9)).heap[w.heap.size]? = some (.cells nameCells 9 (0, 0)) := heap_alloc_new _ _
  have hTk := tookBelow h hB ((Below.refl _ _).alloc (Nat.le_refl _) (.cells nameCells 9))
  have HTk := Lib.hid hTk
  have Hn1 := Lib.hid hn1
  have hec : (w.alloc (.cells nameCells 9)).heap.size = w.heap.size + 1 := by simp
  have Hec := Lib.hid hec
  clear h hn1 hTk hec
  go_enter Tryd.func22, Tryd.ntmps22
  go_wp2_with fail
  have hx : (#[.string ⟨#[97]⟩, .string ⟨#[98]⟩, .string ⟨#[105, 100]⟩, .string ⟨#[119, 104, 111]⟩, .string ⟨#[109, 97, 105, 108]⟩, .string ⟨#[99, 105, 116, 121]⟩, .string ⟨#[110, 49]⟩, .string ⟨#[120, 95, 50]⟩, .string ⟨#[116, 111, 116, 97, 108]⟩, .string ⟨#[114, 111, 119]⟩] : Array Value) = nameCells := rfl
  rw [hx]
  clear hx
  generalize w.alloc (.cells nameCells 9) = wb at *
  refine (next_any B g 10 wb (by decide) (by decide) HTk.out.1 HTk.out.2.2).mono ?_
  rintro e w2 ⟨r, rfl, hr0, hr1, hK2⟩
  obtain ⟨q, rfl⟩ : ∃ q : Nat, r = (q : Int) := ⟨r.toNat, by omega⟩
  have hq : q < 10 := by omega
  obtain ⟨s, hs, hss⟩ := nameStrs q hq
  have m1 := (hK2.2.1.block w.heap.size (by rw [Hec.out]; omega) (by simp; omega)).trans Hn1.out
  have d0 := (cell_of_row w2 w.heap.size q _ _ _ m1).trans hs
  have hqi : (q : Int) < 10 := by omega
  have H2 := Lib.hid (HTk.out.trans hK2)
  have Hss := Lib.hid hss
  clear m1 hr0 hr1 hK2 hs hss
  go_wp2_with fail
  go_ret
  exact ⟨s, rfl, Hss.out, H2.out⟩
end Go.Proofs.YtninmolgkkhikaaDoor
