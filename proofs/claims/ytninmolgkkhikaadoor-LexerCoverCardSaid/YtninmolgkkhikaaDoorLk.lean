/- The tape's Pieces. -/
import Derived.Test.YtninmolgkkhikaaDoorLj
namespace Go.Proofs.YtninmolgkkhikaaDoor
open Go.RowKit Go.Proofs.EB
set_option maxHeartbeats 4000000
attribute [local go_sem] World.cell?_alloc_some
def signC : Array Value := #[.string ⟨#[40]⟩, .string ⟨#[41]⟩, .string ⟨#[44]⟩, .string ⟨#[46]⟩, .string ⟨#[59]⟩, .string ⟨#[43]⟩, .string ⟨#[45]⟩, .string ⟨#[42]⟩, .string ⟨#[47]⟩, .string ⟨#[61]⟩, .string ⟨#[60]⟩, .string ⟨#[43, 43]⟩, .string ⟨#[60, 61]⟩]
theorem signCStrs : Strs signC := strs_of (by rfl)
def wordC : Array Value := #[.string ⟨#[116, 97, 98, 108, 101, 32]⟩, .string ⟨#[118, 105, 101, 119, 32]⟩, .string ⟨#[112, 101, 114, 115, 111, 110, 97, 108, 32, 98, 121, 32]⟩, .string ⟨#[32, 102, 114, 111, 109, 32]⟩, .string ⟨#[32, 119, 104, 101, 114, 101, 32]⟩, .string ⟨#[101, 114, 97, 115, 101, 32, 114, 111, 119]⟩, .string ⟨#[110, 97, 109, 101, 115, 112, 97, 99, 101, 32]⟩]
theorem wordCStrs : Strs wordC := strs_of (by rfl)
def restC : Array Value := #[.string ⟨#[32]⟩, .string ⟨#[10]⟩, .string ⟨#[35, 32, 110, 111, 116, 101, 10]⟩, .string ⟨#[9, 13]⟩, .string ⟨#[32, 35, 32, 34, 120]⟩, .string ⟨#[34]⟩, .string ⟨#[48, 48, 55]⟩, .string ⟨#[57]⟩, .string ⟨#[60]⟩, .string ⟨#[43]⟩]
theorem restCStrs : Strs restC := strs_of (by rfl)
theorem pieces_any (B g n : Nat) (w : World) (hn : n ≤ 1000) (h : TapeAt w B g) (hB : B ≤ w.heap.size) :
    Calls Tryd.prog 27 #[.pointer (some ⟨g, 0, none⟩), .int .i64 n] w (StrPost w B g (100 * n)) := by
  have hgB : g < B := by obtain ⟨_, _, _, _, _, _, _, hg, _⟩ := h; exact hg
  have hT := Lib.hid h
  clear h
  go_enter Tryd.func27, Tryd.ntmps27
  go_wp2_with fail
  refine (next_any B g ((n : Int) + 1) w (by omega) (by omega) hT.out hB).mono ?_
  rintro e w0 ⟨r, rfl, hr0, hr1, hK⟩
  obtain ⟨m, rfl⟩ : ∃ m : Nat, r = (m : Int) := ⟨r.toNat, by omega⟩
  have hm : m ≤ n := by omega
  have HK := Lib.hid hK
  clear hr0 hr1 hK
  go_wp2_with fail
  go_loopw [5, 6] (fun v i wr => ∃ (k : Nat) (u : ByteArray), k ≤ m ∧ i = .int .i64 k ∧ v = .string u ∧ u.size + 100 * k ≤ 100 * m ∧ Hid (Took w B g wr)) (fun _ i _ => (intOf i).toNat)
  case atStart => exact ⟨m, ⟨#[]⟩, Nat.le_refl _, rfl, rfl, by simp [ByteArray.size], HK.out⟩
  case round =>
    obtain ⟨k, u, hk, rfl, rfl, hsz, hTk⟩ := hrel
    by_cases h0 : 0 < k
    · have hki : (0 : Int) < (k : Int) := by omega
      go_wp2_with fail
      refine (next_any B g 6 wr (by decide) (by decide) hTk.out.1 hTk.out.2.2).mono ?_
      rintro e w1 ⟨r, rfl, hr0, hr1, hK1⟩
      have H1 := Lib.hid (hTk.out.trans hK1)
      have hB1 := H1.out.2.2
      have hcases : (r = 0 ∨ r = 1) ∨ r = 2 ∨ r = 3 ∨ r = 4 ∨ r = 5 := by omega
      clear hr0 hr1 hK1
      rcases hcases with (rfl | rfl) | rfl | rfl | rfl | rfl
      · go_wp2_with fail
        refine (name_any B g w1 H1.out.1 H1.out.2.2).mono ?_
        rintro e w2 ⟨t, rfl, hts, hK2⟩
        have H2 := Lib.hid (H1.out.trans hK2)
        clear hK2
        go_wp2_with fail
        refine ⟨⟨k - 1, u ++ t, by omega, by rw [show ((k - 1 : Nat) : Int) = (k : Int) - 1 by omega], rfl, by simp; omega, H2.out⟩, by show ((k : Int) - 1).toNat < ((k : Int)).toNat; omega⟩
      · go_wp2_with fail
        refine (name_any B g w1 H1.out.1 H1.out.2.2).mono ?_
        rintro e w2 ⟨t, rfl, hts, hK2⟩
        have H2 := Lib.hid (H1.out.trans hK2)
        clear hK2
        go_wp2_with fail
        refine ⟨⟨k - 1, u ++ t, by omega, by rw [show ((k - 1 : Nat) : Int) = (k : Int) - 1 by omega], rfl, by simp; omega, H2.out⟩, by show ((k : Int) - 1).toNat < ((k : Int)).toNat; omega⟩
      · go_wp2_with fail
        refine (tvalue_any B g w1 H1.out.1 H1.out.2.2).mono ?_
        rintro e w2 ⟨vk, vn, vs, rfl, hv, hok, hK2⟩
        have H2 := Lib.hid (H1.out.trans hK2)
        have hF := fun w => rformat_any vk vn vs w hok.2.2
        have hfl := fmt_len ⟨vk, vn, vs⟩
        obtain ⟨t, hf⟩ : ∃ f : ByteArray, f = ⟨(fmtV (cleanV ⟨vk, vn, vs⟩)).toArray⟩ := ⟨_, rfl⟩
        have hts : t.size ≤ 100 := by rw [hf]; simp only [ByteArray.size, List.size_toArray]; omega
        rw [← hf] at hF
        have HF := Lib.hid hF
        clear hv hok hK2 hF hfl hf
        go_wp2_with fail
        refine (HF.out _).mono ?_
        rintro e w3 ⟨rfl, hb3⟩
        have H3 := Lib.hid (H2.out.below hb3)
        clear hb3
        go_wp2_with fail
        refine ⟨⟨k - 1, u ++ t, by omega, by rw [show ((k - 1 : Nat) : Int) = (k : Int) - 1 by omega], rfl, by simp; omega, H3.out⟩, by show ((k : Int) - 1).toNat < ((k : Int)).toNat; omega⟩
      · have hn1 : (w1.alloc (.cells signC 9)).heap[w1.heap.size]? = some (.cells signC 9 (0, 0)) := heap_alloc_new _ _
        have hTk2 := H1.out.below ((Below.refl _ _).alloc (Nat.le_refl _) (.cells signC 9))
        have HTk2 := Lib.hid hTk2
        have Hn1 := Lib.hid hn1
        have hec : (w1.alloc (.cells signC 9)).heap.size = w1.heap.size + 1 := by simp
        have Hec := Lib.hid hec
        clear hn1 hTk2 hec
        go_wp2_with fail
        have hx : (#[.string ⟨#[40]⟩, .string ⟨#[41]⟩, .string ⟨#[44]⟩, .string ⟨#[46]⟩, .string ⟨#[59]⟩, .string ⟨#[43]⟩, .string ⟨#[45]⟩, .string ⟨#[42]⟩, .string ⟨#[47]⟩, .string ⟨#[61]⟩, .string ⟨#[60]⟩, .string ⟨#[43, 43]⟩, .string ⟨#[60, 61]⟩] : Array Value) = signC := rfl
        rw [hx]
        clear hx
        generalize w1.alloc (.cells signC 9) = wb at *
        refine (next_any B g 13 wb (by decide) (by decide) HTk2.out.1 HTk2.out.2.2).mono ?_
        rintro e w2 ⟨r2, rfl, hr2, hr3, hK2⟩
        obtain ⟨q, rfl⟩ : ∃ q : Nat, r2 = (q : Int) := ⟨r2.toNat, by omega⟩
        have hq : q < 13 := by omega
        obtain ⟨t, ht, hts⟩ := signCStrs q hq
        have m1 := (hK2.2.1.block w1.heap.size (by rw [Hec.out]; omega) (by simp; omega)).trans Hn1.out
        have d0 := (cell_of_row w2 w1.heap.size q _ _ _ m1).trans ht
        have hqi : (q : Int) < 13 := by omega
        have H2 := Lib.hid (HTk2.out.trans hK2)
        clear m1 hr2 hr3 hK2 ht
        go_wp2_with fail
        refine ⟨⟨k - 1, u ++ t, by omega, by rw [show ((k - 1 : Nat) : Int) = (k : Int) - 1 by omega], rfl, by simp; omega, H2.out⟩, by show ((k : Int) - 1).toNat < ((k : Int)).toNat; omega⟩
      · have hn1 : (w1.alloc (.cells wordC 9)).heap[w1.heap.size]? = some (.cells wordC 9 (0, 0)) := heap_alloc_new _ _
        have hTk2 := H1.out.below ((Below.refl _ _).alloc (Nat.le_refl _) (.cells wordC 9))
        have HTk2 := Lib.hid hTk2
        have Hn1 := Lib.hid hn1
        have hec : (w1.alloc (.cells wordC 9)).heap.size = w1.heap.size + 1 := by simp
        have Hec := Lib.hid hec
        clear hn1 hTk2 hec
        go_wp2_with fail
        have hx : (#[.string ⟨#[116, 97, 98, 108, 101, 32]⟩, .string ⟨#[118, 105, 101, 119, 32]⟩, .string ⟨#[112, 101, 114, 115, 111, 110, 97, 108, 32, 98, 121, 32]⟩, .string ⟨#[32, 102, 114, 111, 109, 32]⟩, .string ⟨#[32, 119, 104, 101, 114, 101, 32]⟩, .string ⟨#[101, 114, 97, 115, 101, 32, 114, 111, 119]⟩, .string ⟨#[110, 97, 109, 101, 115, 112, 97, 99, 101, 32]⟩] : Array Value) = wordC := rfl
        rw [hx]
        clear hx
        generalize w1.alloc (.cells wordC 9) = wb at *
        refine (next_any B g 7 wb (by decide) (by decide) HTk2.out.1 HTk2.out.2.2).mono ?_
        rintro e w2 ⟨r2, rfl, hr2, hr3, hK2⟩
        obtain ⟨q, rfl⟩ : ∃ q : Nat, r2 = (q : Int) := ⟨r2.toNat, by omega⟩
        have hq : q < 7 := by omega
        obtain ⟨t, ht, hts⟩ := wordCStrs q hq
        have m1 := (hK2.2.1.block w1.heap.size (by rw [Hec.out]; omega) (by simp; omega)).trans Hn1.out
        have d0 := (cell_of_row w2 w1.heap.size q _ _ _ m1).trans ht
        have hqi : (q : Int) < 7 := by omega
        have H2 := Lib.hid (HTk2.out.trans hK2)
        clear m1 hr2 hr3 hK2 ht
        go_wp2_with fail
        refine ⟨⟨k - 1, u ++ t, by omega, by rw [show ((k - 1 : Nat) : Int) = (k : Int) - 1 by omega], rfl, by simp; omega, H2.out⟩, by show ((k : Int) - 1).toNat < ((k : Int)).toNat; omega⟩
      · have hn1 : (w1.alloc (.cells restC 9)).heap[w1.heap.size]? = some (.cells restC 9 (0, 0)) := heap_alloc_new _ _
        have hTk2 := H1.out.below ((Below.refl _ _).alloc (Nat.le_refl _) (.cells restC 9))
        have HTk2 := Lib.hid hTk2
        have Hn1 := Lib.hid hn1
        have hec : (w1.alloc (.cells restC 9)).heap.size = w1.heap.size + 1 := by simp
        have Hec := Lib.hid hec
        clear hn1 hTk2 hec
        go_wp2_with fail
        have hx : (#[.string ⟨#[32]⟩, .string ⟨#[10]⟩, .string ⟨#[35, 32, 110, 111, 116, 101, 10]⟩, .string ⟨#[9, 13]⟩, .string ⟨#[32, 35, 32, 34, 120]⟩, .string ⟨#[34]⟩, .string ⟨#[48, 48, 55]⟩, .string ⟨#[57]⟩, .string ⟨#[60]⟩, .string ⟨#[43]⟩] : Array Value) = restC := rfl
        rw [hx]
        clear hx
        generalize w1.alloc (.cells restC 9) = wb at *
        refine (next_any B g 10 wb (by decide) (by decide) HTk2.out.1 HTk2.out.2.2).mono ?_
        rintro e w2 ⟨r2, rfl, hr2, hr3, hK2⟩
        obtain ⟨q, rfl⟩ : ∃ q : Nat, r2 = (q : Int) := ⟨r2.toNat, by omega⟩
        have hq : q < 10 := by omega
        obtain ⟨t, ht, hts⟩ := restCStrs q hq
        have m1 := (hK2.2.1.block w1.heap.size (by rw [Hec.out]; omega) (by simp; omega)).trans Hn1.out
        have d0 := (cell_of_row w2 w1.heap.size q _ _ _ m1).trans ht
        have hqi : (q : Int) < 10 := by omega
        have H2 := Lib.hid (HTk2.out.trans hK2)
        clear m1 hr2 hr3 hK2 ht
        go_wp2_with fail
        refine ⟨⟨k - 1, u ++ t, by omega, by rw [show ((k - 1 : Nat) : Int) = (k : Int) - 1 by omega], rfl, by simp; omega, H2.out⟩, by show ((k : Int) - 1).toNat < ((k : Int)).toNat; omega⟩
    · have hk0 : k = 0 := by omega
      subst hk0
      go_wp2_with fail
      go_ret
      exact ⟨u, rfl, by omega, hTk.out⟩
end Go.Proofs.YtninmolgkkhikaaDoor
