/- Contracts of the functions of package lexer that read one token. -/
import Derived.Test.YtninmolgkkhikaaDoorLb
import Derived.Test.YtninmolgkkhikaaDoorPe
namespace Go.Proofs.TX
open Go.Lib
theorem sign1_idx (c : UInt8) : (0 ≤ indexByte (⟨#[40, 41, 44, 46, 59, 43, 45, 42, 47, 61, 60]⟩ : ByteArray).data.toList c) ↔ sign1 c = true := by
  have h : ∀ j : Fin 256, (0 ≤ indexByte (⟨#[40, 41, 44, 46, 59, 43, 45, 42, 47, 61, 60]⟩ : ByteArray).data.toList (UInt8.ofNat j.val)) ↔ sign1 (UInt8.ofNat j.val) = true := by decide +kernel
  have := h ⟨c.toNat, c.toNat_lt⟩
  simpa using this
theorem signN_two' (l : List UInt8) (h : hasPrefix l [43, 43] = true ∨ hasPrefix l [60, 61] = true) : signN l = 2 := by
  rcases l with _ | ⟨c, _ | ⟨d, l⟩⟩
  · simp [hasPrefix] at h
  · simp [hasPrefix] at h
  · simp [hasPrefix] at h
    rw [signN_two, if_pos]
    rcases h with ⟨rfl, rfl⟩ | ⟨rfl, rfl⟩ <;> rfl
def sign0 : List UInt8 → Nat
  | [] => 0
  | c :: _ => if sign1 c = true then 1 else 0
theorem signN_one' (l : List UInt8) (h1 : hasPrefix l [43, 43] = false) (h2 : hasPrefix l [60, 61] = false) : signN l = sign0 l := by
  rcases l with _ | ⟨c, _ | ⟨d, l⟩⟩
  · rfl
  · rfl
  · rw [signN_two, if_neg]
    · rfl
    intro h
    simp only [hasPrefix, List.isPrefixOf, Bool.and_true, Bool.and_eq_false_iff, beq_eq_false_iff_ne] at h1 h2
    simp only [Bool.or_eq_true, Bool.and_eq_true, beq_iff_eq] at h
    rcases h with ⟨rfl, rfl⟩ | ⟨rfl, rfl⟩
    · simp at h1
    · simp at h2
end Go.Proofs.TX
namespace Go.Proofs.YtninmolgkkhikaaDoor
open Go.RowKit Go.Proofs.EB Go.Proofs.TX
set_option maxHeartbeats 1000000
attribute [local go_sem] World.cell?_alloc_some

theorem box4 {w : World} {g : Nat} {T : TypeId} {a b c d : Value} (h : w.heap[g]? = some (.cells #[a, b, c, d] T (0, 0))) :
    w.cell? ⟨g, 0, none⟩ = some a ∧ w.cell? ⟨g, 1, none⟩ = some b ∧ w.cell? ⟨g, 2, none⟩ = some c ∧ w.cell? ⟨g, 3, none⟩ = some d ∧ w.frozen? ⟨g, 0, none⟩ = false ∧ w.frozen? ⟨g, 1, none⟩ = false ∧ w.frozen? ⟨g, 2, none⟩ = false ∧ w.frozen? ⟨g, 3, none⟩ = false := by
  simp [World.cell?, World.frozen?, h]
theorem extract_head (s : ByteArray) (n : Nat) : s.extract 0 n = ⟨(s.data.toList.take n).toArray⟩ := by
  have h := extract_sub s 0 n
  rw [List.drop_zero, Nat.sub_zero] at h
  rw [← h]
theorem clone_any (s : ByteArray) (w : World) (hs : s.size ≤ 1000000) : Calls Tryd.prog 92 #[.string s] w fun e w' => e = .returned (.string s) ∧ Below w.heap.size w w' := by
  go_enter Tryd.func92, Tryd.ntmps92
  go_wp2_with fail
  refine (Tryd.stringslite_Clone s w (by omega)).mono ?_
  rintro e w' ⟨rfl, hb⟩
  go_wp2_with fail
  go_ret
  exact ⟨rfl, hb⟩
/-- What a reader of one token gives. -/
def TkPost (r : TR) (w : World) (e : Ending) (w' : World) : Prop := Below w.heap.size w w' ∧ match r with
  | .err c => e = .returned (.tuple #[.agg #[.int .i64 0, .string ⟨#[]⟩, .int .i64 0, .int .i64 0], .int .i64 0, .int .i64 c])
  | .ok t n => e = .returned (.tuple #[.agg #[.int .i64 t.k, .string ⟨t.s.toArray⟩, .int .i64 t.n, .int .i64 0], .int .i64 (n : Nat), .int .i64 0])
theorem tkPost_eq {r r' : TR} {w w' : World} {e : Ending} (h : r = r') (hp : TkPost r' w e w') : TkPost r w e w' := h ▸ hp
def tok0 : Obj := .cells #[.int .i64 0, .string ⟨#[]⟩, .int .i64 0, .int .i64 0] 50
theorem set4 {w w1 : World} {g : Nat} (hb : Below w.heap.size w w1) (hg : w.heap.size ≤ g) (a b c d : Value) : Below w.heap.size w ((((w1.setCell ⟨g, 0, none⟩ a).setCell ⟨g, 1, none⟩ b).setCell ⟨g, 2, none⟩ c).setCell ⟨g, 3, none⟩ d) :=
  (((hb.setCell hg _).setCell hg _).setCell hg _).setCell hg _

theorem tkPost_ok {t : Tk} {n : Nat} {u : ByteArray} {w w' : World} {e : Ending} (hb : Below w.heap.size w w') (hu : u = ⟨t.s.toArray⟩) (he : e = .returned (.tuple #[.agg #[.int .i64 t.k, .string u, .int .i64 t.n, .int .i64 0], .int .i64 (n : Nat), .int .i64 0])) : TkPost (.ok t n) w e w' :=
  ⟨hb, by subst hu; exact he⟩
theorem tkPost_err {c : Int} {w w' : World} {e : Ending} (hb : Below w.heap.size w w') (he : e = .returned (.tuple #[.agg #[.int .i64 0, .string ⟨#[]⟩, .int .i64 0, .int .i64 0], .int .i64 0, .int .i64 c])) : TkPost (.err c) w e w' := ⟨hb, he⟩
theorem clone_head (s : ByteArray) (n : Nat) (hs : s.size ≤ 1000000) (u : ByteArray) (hu : s.extract 0 n = u) (w : World) : Calls Tryd.prog 92 #[.string u] w fun e w' => e = .returned (.string u) ∧ Below w.heap.size w w' := by
  subst hu
  exact clone_any _ w (by simp; omega)
/-- A struct of four cells that was filled before another was laid. -/
theorem filled {w1 : World} {g : Nat} {T : TypeId} {x0 x1 x2 x3 : Value} (h : w1.heap[g]? = some (.cells #[x0, x1, x2, x3] T (0, 0))) (a b c d : Value) (o : Obj) :
    (((((w1.setCell ⟨g, 0, none⟩ a).setCell ⟨g, 1, none⟩ b).setCell ⟨g, 2, none⟩ c).setCell ⟨g, 3, none⟩ d).alloc o).cell? ⟨g, 0, none⟩ = some a ∧
    (((((w1.setCell ⟨g, 0, none⟩ a).setCell ⟨g, 1, none⟩ b).setCell ⟨g, 2, none⟩ c).setCell ⟨g, 3, none⟩ d).alloc o).cell? ⟨g, 1, none⟩ = some b ∧
    (((((w1.setCell ⟨g, 0, none⟩ a).setCell ⟨g, 1, none⟩ b).setCell ⟨g, 2, none⟩ c).setCell ⟨g, 3, none⟩ d).alloc o).cell? ⟨g, 2, none⟩ = some c ∧
    (((((w1.setCell ⟨g, 0, none⟩ a).setCell ⟨g, 1, none⟩ b).setCell ⟨g, 2, none⟩ c).setCell ⟨g, 3, none⟩ d).alloc o).cell? ⟨g, 3, none⟩ = some d := by
  obtain ⟨c0, c1, c2, c3, f0, f1, f2, f3⟩ := box4 h
  have key : ∀ (W : World) (q : Addr) (v : Value), W.cell? q = some v → (W.alloc o).cell? q = some v := fun W q v h => (World.cell?_alloc_some W q o (by rw [h]; rfl)).trans h
  refine ⟨?_, ?_, ?_, ?_⟩ <;> refine key _ _ _ ?_ <;> simp [go_sem, c0, c1, c2, c3]
theorem scanName_any (s : ByteArray) (w : World) (hs : s.size ≤ 1000000) :
    Calls Tryd.prog 74 #[.string s] w (TkPost (if runC nameC s.data.toList ≤ 16 then .ok ⟨1, s.data.toList.take (runC nameC s.data.toList), 0⟩ (runC nameC s.data.toList) else .err 1) w) := by
  have hrun := fun w => runName_any s w hs
  have hle := runC_le nameC s.data.toList
  have hsl : s.data.toList.length = s.size := by simp
  generalize runC nameC s.data.toList = n at *
  have hb0 : Below w.heap.size w (w.alloc (.cells #[.int .i64 0, .string ⟨#[]⟩, .int .i64 0, .int .i64 0] 50)) := (Below.refl _ _).alloc (Nat.le_refl _) _
  have Hb0 := Lib.hid hb0
  have hn0 : (w.alloc (.cells #[.int .i64 0, .string ⟨#[]⟩, .int .i64 0, .int .i64 0] 50)).heap[w.heap.size]? = some (.cells #[.int .i64 0, .string ⟨#[]⟩, .int .i64 0, .int .i64 0] 50) := heap_alloc_new _ _
  have Hn0 := Lib.hid hn0
  clear hb0 hn0
  have Hrun := Lib.hid hrun
  have hns : n ≤ s.size := by omega
  clear hrun hle hsl
  by_cases h16 : n ≤ 16
  · have z1 : decide ((16 : Int) < (n : Int)) = false := by simp; omega
    rw [if_pos h16]
    have hx := extract_head s n
    obtain ⟨u, hu⟩ : ∃ u, s.extract 0 n = u := ⟨_, rfl⟩
    have Hcl := Lib.hid (clone_head s n hs u hu)
    have Hu : Hid (u = ⟨(s.data.toList.take n).toArray⟩) := hu.symm.trans hx
    clear hx h16
    go_enter Tryd.func74, Tryd.ntmps74
    go_wp2_with fail
    refine (Hrun.out _).mono ?_
    rintro e w' ⟨rfl, rfl⟩
    go_wp2_with fail
    refine (Hcl.out _).mono ?_
    rintro e w1 ⟨rfl, hb1⟩
    obtain ⟨c0, c1, c2, c3, _, _, _, _⟩ := box4 ((hb1.block _ (by simp)).trans Hn0.out)
    have hb2 := Hb0.out.trans (hb1.mono (by simp))
    clear hb1
    go_wp2_with fail
    refine bodyPost_ret (v := .tuple #[.agg #[.int .i64 1, .string u, .int .i64 0, .int .i64 0], .int .i64 n, .int .i64 0]) (by simp [results, Tryd.results74, go_sem, c0, c1, c2, c3]) rfl ?_
    exact tkPost_ok (set4 hb2 (Nat.le_refl _) _ _ _ _) Hu.out rfl
  · have z1 : decide ((16 : Int) < (n : Int)) = true := by simp; omega
    rw [if_neg h16]
    clear h16
    go_enter Tryd.func74, Tryd.ntmps74
    go_wp2_with fail
    refine (Hrun.out _).mono ?_
    rintro e w' ⟨rfl, rfl⟩
    go_wp2_with fail
    refine bodyPost_ret (v := .tuple #[.agg #[.int .i64 0, .string ⟨#[]⟩, .int .i64 0, .int .i64 0], .int .i64 0, .int .i64 1]) (by simp [results, Tryd.results74, go_sem]) rfl ?_
    exact tkPost_err Hb0.out rfl
theorem parse_digits (d : List UInt8) (hne : d ≠ []) (hd : d.all digB = true) : parseS d = if isDec d = true then (if valD d ≤ 4294967296 then (⟨1, valD d, ⟨#[]⟩⟩, 0) else (V.zero, 1)) else (V.zero, 2) := by
  rcases d with _ | ⟨c, r⟩
  · exact absurd rfl hne
  · have hc := digB_iff (by simpa using (List.all_eq_true.1 hd c (by simp)))
    have hnull : (c :: r) ≠ [110, 117, 108, 108] := by
      intro e; have : c = 110 := (List.cons.inj e).1; subst this; simp at hc
    have hq : unqO (c :: r) = none := by
      unfold unqO
      rw [if_neg]
      simp only [Lib.hasPrefix, List.isPrefixOf, Bool.and_true, beq_iff_eq]
      intro e; subst e; simp at hc
    have hp : Lib.hasPrefix (c :: r) [45] = false := by
      simp only [Lib.hasPrefix, List.isPrefixOf, Bool.and_true, beq_eq_false_iff_ne, ne_eq]
      intro e; subst e; simp at hc
    have hs : signD (c :: r) = c :: r := by unfold signD Lib.trimPrefix; rw [if_neg (by rw [hp]; decide)]
    have h45 : (c :: r) ≠ [45, 48] := by
      intro e; have : c = 45 := (List.cons.inj e).1; subst this; simp at hc
    rw [parseS_none hnull hq]
    by_cases h1 : isDec (c :: r) = true
    · rw [if_pos h1]
      by_cases h2 : valD (c :: r) ≤ 4294967296
      · rw [if_pos h2, intR_ok (by rw [hs]; exact h1) h45 (by rw [hs]; exact h2)]
        congr 2
        unfold signV
        rw [if_neg (by rw [hp]; decide), hs]
      · rw [if_neg h2, intR_big (by rw [hs]; exact h1) h45 (by rw [hs]; exact h2)]
    · rw [if_neg h1, intR_syn (.inl (by rw [hs]; simpa using h1))]
/-- What a call of Parse gives a scanner. -/
theorem parse_head (s : ByteArray) (n : Nat) (hs : s.size ≤ 1000000) (u : ByteArray) (hu : s.extract 0 n = u) (k x r : Int) (t : ByteArray) (hR : parseS (s.data.toList.take n) = (⟨k, x, t⟩, r)) (w : World) (hE : ErrV w) : Calls Tryd.prog 14 #[.string u] w fun e w' => e = .returned (.tuple #[.agg #[.int .i64 k, .int .i64 x, .string t], .int .i64 r]) ∧ Below w.heap.size w w' := by
  have h := parse_any u w (by subst hu; simp; omega) hE
  have hd : u.data.toList = s.data.toList.take n := by subst hu; rw [extract_sub]; simp
  rw [hd, hR] at h
  exact h.mono fun _ _ hp => ⟨hp.2, hp.1⟩
theorem scanNumber_any (s : ByteArray) (w : World) (hs : s.size ≤ 1000000) (hn : 0 < runC digB s.data.toList) (hE : ErrV w) :
    Calls Tryd.prog 75 #[.string s] w (TkPost (if isDec (s.data.toList.take (runC digB s.data.toList)) = true then (if valD (s.data.toList.take (runC digB s.data.toList)) ≤ 4294967296 then .ok ⟨2, [], valD (s.data.toList.take (runC digB s.data.toList))⟩ (runC digB s.data.toList) else .err 1) else .err 2) w) := by
  have hrun := fun w => runDig_any s w hs
  have hle := runC_le digB s.data.toList
  have hsl : s.data.toList.length = s.size := by simp
  have hpd := parse_digits (s.data.toList.take (runC digB s.data.toList)) (by intro e; have := congrArg List.length e; rw [List.length_take] at this; simp only [List.length_nil] at this; omega) (runC_take _ _)
  generalize runC digB s.data.toList = n at *
  have hb0 : Below w.heap.size w (w.alloc (.cells #[.int .i64 0, .string ⟨#[]⟩, .int .i64 0, .int .i64 0] 50)) := (Below.refl _ _).alloc (Nat.le_refl _) _
  have Hb0 := Lib.hid hb0
  have hn0 : (w.alloc (.cells #[.int .i64 0, .string ⟨#[]⟩, .int .i64 0, .int .i64 0] 50)).heap[w.heap.size]? = some (.cells #[.int .i64 0, .string ⟨#[]⟩, .int .i64 0, .int .i64 0] 50) := heap_alloc_new _ _
  have Hn0 := Lib.hid hn0
  clear hb0 hn0
  have Hrun := Lib.hid hrun
  have hns : n ≤ s.size := by omega
  have HE := Lib.hid hE
  obtain ⟨u, hu⟩ : ∃ u, s.extract 0 n = u := ⟨_, rfl⟩
  by_cases h1 : isDec (s.data.toList.take n) = true
  · rw [if_pos h1] at hpd ⊢
    by_cases h2 : valD (s.data.toList.take n) ≤ 4294967296
    · rw [if_pos h2] at hpd ⊢
      have HP := Lib.hid (parse_head s n hs u hu _ _ _ _ hpd)
      generalize valD (s.data.toList.take n) = x at *
      clear hrun hle hsl hn hE h1 h2 hpd
      go_enter Tryd.func75, Tryd.ntmps75
      go_wp2_with fail
      refine (Hrun.out _).mono ?_
      rintro e w' ⟨rfl, rfl⟩
      go_wp2_with fail
      refine (HP.out _ (err_below HE.out Hb0.out)).mono ?_
      rintro e w1 ⟨rfl, hb1⟩
      have hb2 := Hb0.out.trans (hb1.mono (by simp))
      have hlt1 : w.heap.size < w1.heap.size := by have := hb1.size; simp at this; omega
      have hn1 := (hb1.block _ (by simp)).trans Hn0.out
      obtain ⟨c0, c1, c2, c3, _, _, _, _⟩ := box4 hn1
      have hs2 := hb2.size
      have Hc := Lib.hid hn1
      clear hb1 hn1
      go_wp2_with fail
      obtain ⟨e0, e1, e2, e3⟩ := filled Hc.out (.int .i64 2) (.string ⟨#[]⟩) (.int .i64 (x : Int)) (.int .i64 0) (.cells #[.int .i64 1, .int .i64 (x : Int), .string ⟨#[]⟩] 24)
      refine bodyPost_ret (v := .tuple #[.agg #[.int .i64 2, .string ⟨#[]⟩, .int .i64 (x : Int), .int .i64 0], .int .i64 n, .int .i64 0]) (by simp [results, Tryd.results75, go_sem, e0, e1, e2, e3]) rfl ?_
      exact tkPost_ok ((set4 hb2 (Nat.le_refl _) _ _ _ _).alloc (by simp; omega) _) rfl rfl
    · rw [if_neg h2] at hpd ⊢
      have HP := Lib.hid (parse_head s n hs u hu _ _ _ _ hpd)
      clear hrun hle hsl hn hE h1 h2 hpd
      go_enter Tryd.func75, Tryd.ntmps75
      go_wp2_with fail
      refine (Hrun.out _).mono ?_
      rintro e w' ⟨rfl, rfl⟩
      go_wp2_with fail
      refine (HP.out _ (err_below HE.out Hb0.out)).mono ?_
      rintro e w1 ⟨rfl, hb1⟩
      have hb2 := Hb0.out.trans (hb1.mono (by simp))
      have hlt1 : w.heap.size < w1.heap.size := by have := hb1.size; simp at this; omega
      have hn1 := (hb1.block _ (by simp)).trans Hn0.out
      obtain ⟨c0, c1, c2, c3, _, _, _, _⟩ := box4 hn1
      have hs2 := hb2.size
      have Hc := Lib.hid hn1
      clear hb1 hn1
      go_wp2_with fail
      obtain ⟨e0, e1, e2, e3⟩ := filled Hc.out (.int .i64 0) (.string ⟨#[]⟩) (.int .i64 0) (.int .i64 0) (.cells #[.int .i64 0, .int .i64 0, .string ⟨#[]⟩] 24)
      refine bodyPost_ret (v := .tuple #[.agg #[.int .i64 0, .string ⟨#[]⟩, .int .i64 0, .int .i64 0], .int .i64 0, .int .i64 1]) (by simp [results, Tryd.results75, go_sem, e0, e1, e2, e3]) rfl ?_
      exact tkPost_err ((set4 hb2 (Nat.le_refl _) _ _ _ _).alloc (by simp; omega) _) rfl
  · rw [if_neg h1] at hpd ⊢
    have HP := Lib.hid (parse_head s n hs u hu _ _ _ _ hpd)
    clear hrun hle hsl hn hE h1 hpd
    go_enter Tryd.func75, Tryd.ntmps75
    go_wp2_with fail
    refine (Hrun.out _).mono ?_
    rintro e w' ⟨rfl, rfl⟩
    go_wp2_with fail
    refine (HP.out _ (err_below HE.out Hb0.out)).mono ?_
    rintro e w1 ⟨rfl, hb1⟩
    have hb2 := Hb0.out.trans (hb1.mono (by simp))
    have hlt1 : w.heap.size < w1.heap.size := by have := hb1.size; simp at this; omega
    have hn1 := (hb1.block _ (by simp)).trans Hn0.out
    obtain ⟨c0, c1, c2, c3, _, _, _, _⟩ := box4 hn1
    have hs2 := hb2.size
    have Hc := Lib.hid hn1
    clear hb1 hn1
    go_wp2_with fail
    obtain ⟨e0, e1, e2, e3⟩ := filled Hc.out (.int .i64 0) (.string ⟨#[]⟩) (.int .i64 0) (.int .i64 0) (.cells #[.int .i64 0, .int .i64 0, .string ⟨#[]⟩] 24)
    refine bodyPost_ret (v := .tuple #[.agg #[.int .i64 0, .string ⟨#[]⟩, .int .i64 0, .int .i64 0], .int .i64 0, .int .i64 2]) (by simp [results, Tryd.results75, go_sem, e0, e1, e2, e3]) rfl ?_
    exact tkPost_err ((set4 hb2 (Nat.le_refl _) _ _ _ _).alloc (by simp; omega) _) rfl
end Go.Proofs.YtninmolgkkhikaaDoor
