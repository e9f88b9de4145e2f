/- DecodeRow of package value: the rows that byte forms give. -/
import Derived.Test.YtdckpjkbchibjaaVl
import Derived.Test.YtdckpjkbchibjaaTb
namespace Go.Proofs.Ytdckpjkbchibjaa
open Go.RowKit Go.Proofs.EB
open Go.Lib (byteCells)
set_option maxHeartbeats 1000000
attribute [local go_sem] World.cell?_alloc_some

/-- The row of the bytes, behind the values that were read before; none where the bytes are no row. -/
def decR : Nat → List UInt8 → List V → Option (List V)
  | _, [], acc => some acc
  | 0, _ :: _, _ => none
  | n + 1, m :: l, acc => match decV (m :: l) with
    | some (v, r) => if vB v = true ∧ acc.length ≠ 16 then decR n r (acc ++ [v]) else none
    | none => none
/-- What DecodeRow returns. -/
def RowRes (w : World) (o : Option (List V)) (e : Ending) (w' : World) : Prop := Below w.heap.size w w' ∧ match o with
  | some l => ∃ ao cap, e = .returned (.tuple #[.slice ao l.length cap, .int .i64 0]) ∧ l.length ≤ 16 ∧ (∀ x ∈ l, vB x = true) ∧ RowAt w' w'.heap.size ao l ∧ (∀ b o, ao = some ⟨b, o, none⟩ → w.heap.size ≤ b) ∧ (ao = none → cap = 0)
  | none => e = .returned (.tuple #[.slice none 0 0, .int .i64 1])
theorem decT_suffix : ∀ (n : Nat) (l : List UInt8), l.length ≤ n → ∀ t r, decT l = some (t, r) → ∃ k, k ≤ l.length ∧ r = l.drop k := by
  intro n
  induction n with
  | zero =>
    intro l hl t r h
    have e : l = [] := List.eq_nil_of_length_eq_zero (by omega)
    subst e
    simp [decT] at h
  | succ n ih =>
    intro l hl t r h
    match l, hl, h with
    | [], _, h => simp [decT] at h
    | [_], _, h => simp [decT] at h
    | a :: b :: m, hl, h =>
      simp only [decT] at h
      split at h
      · split at h
        · simp at h; obtain ⟨rfl, rfl⟩ := h; exact ⟨2, by simp, rfl⟩
        · split at h
          · simp only [Option.map_eq_some_iff, Prod.mk.injEq] at h
            obtain ⟨⟨t', r'⟩, h1, rfl, rfl⟩ := h
            obtain ⟨k, hk, rfl⟩ := ih m (by simp at hl; omega) t' r' h1
            exact ⟨k + 2, by simp; omega, by simp⟩
          · simp at h
      · simp only [Option.map_eq_some_iff, Prod.mk.injEq] at h
        obtain ⟨⟨t', r'⟩, h1, rfl, rfl⟩ := h
        obtain ⟨k, hk, rfl⟩ := ih (b :: m) (by simp at hl ⊢; omega) t' r' h1
        exact ⟨k + 1, by simp at hk ⊢; omega, by simp⟩
theorem decV_suffix {l : List UInt8} {v : V} {r : List UInt8} (h : decV l = some (v, r)) : ∃ k, 0 < k ∧ k ≤ l.length ∧ r = l.drop k := by
  match l, h with
  | [], h => simp [decV] at h
  | m :: l, h =>
    simp only [decV] at h
    split at h
    · simp at h; obtain ⟨rfl, rfl⟩ := h; exact ⟨1, by simp, by simp, rfl⟩
    · split at h
      · split at h
        · simp at h
        · simp at h; obtain ⟨rfl, rfl⟩ := h; exact ⟨6, by simp, by simp; omega, by simp⟩
      · split at h
        · simp only [Option.map_eq_some_iff, Prod.mk.injEq] at h
          obtain ⟨⟨t', r'⟩, h1, rfl, rfl⟩ := h
          obtain ⟨k, hk, rfl⟩ := decT_suffix _ l (Nat.le_refl _) t' r' h1
          exact ⟨k + 1, by simp, by simp; omega, by simp⟩
        · simp at h
/-- What decodeValue returns for bytes that are not empty, and how the row goes on. -/
theorem decVB_cases {u : ByteArray} {w w' : World} {e : Ending} (h : decVB u w e w') : Below w.heap.size w w' ∧
    ((∃ v : V, e = .returned (.tuple #[.agg #[.int .i64 v.k, .int .i64 v.n, .string v.s], .int .i64 0]) ∧ Hid (∀ n acc, 0 < u.size → decR (n + 1) u.data.toList acc = none)) ∨
     (∃ (v : V) (k : Nat), e = .returned (.tuple #[.agg #[.int .i64 v.k, .int .i64 v.n, .string v.s], .int .i64 (k : Nat)]) ∧ 0 < k ∧ k ≤ u.size ∧ vB v = true ∧ Hid (∀ n acc, 0 < u.size → decR (n + 1) u.data.toList acc = if acc.length ≠ 16 then decR n (u.extract k u.size).data.toList (acc ++ [v]) else none))) := by
  unfold decVB at h
  have hd : ∀ n acc, 0 < u.size → decR (n + 1) u.data.toList acc = match decV u.data.toList with
      | some (v, r) => if vB v = true ∧ acc.length ≠ 16 then decR n r (acc ++ [v]) else none
      | none => none := by
    intro n acc hu
    rw [head_eq hu, decR]
  cases hx : decV u.data.toList with
  | none =>
    rw [hx] at h
    refine ⟨h.2, .inl ⟨V.zero, h.1, fun n acc hu => ?_⟩⟩
    rw [hd n acc hu]
    first | rfl | (rw [hx])
  | some x =>
    obtain ⟨v, r⟩ := x
    rw [hx] at h
    simp only at h
    obtain ⟨k, hk0, hk, rfl⟩ := decV_suffix hx
    have hlen : u.data.toList.length = u.size := by simp
    have e1 : u.size - (u.data.toList.drop k).length = k := by rw [List.length_drop]; omega
    have e2 : (u.extract k u.size).data.toList = u.data.toList.drop k := by
      simp only [ByteArray.data_extract, Array.toList_extract, List.extract_eq_take_drop]
      exact List.take_of_length_le (by simp)
    by_cases hv : vB v = true
    · rw [if_pos hv, e1] at h
      refine ⟨h.2, .inr ⟨v, k, h.1, hk0, by omega, hv, fun n acc hu => ?_⟩⟩
      rw [hd n acc hu, hx]
      simp only [hv, e2, true_and]
    · rw [if_neg hv] at h
      refine ⟨h.2, .inl ⟨V.zero, h.1, fun n acc hu => ?_⟩⟩
      rw [hd n acc hu, hx]
      simp [hv]
theorem vB_ok {v : V} (h : vB v = true) : v.ok := by
  obtain ⟨k, n, s⟩ := v
  simp only [vB, validB] at h
  unfold V.ok maxLen
  simp only
  split at h
  · simp only [Bool.and_eq_true, beq_iff_eq] at h
    have e := empty_of h.2
    subst e
    simp [ByteArray.size]; omega
  · split at h
    · simp only [Bool.and_eq_true, decide_eq_true_eq] at h
      have e := empty_of h.1
      subst e
      simp [ByteArray.size]; omega
    · split at h
      · simp only [Bool.and_eq_true, beq_iff_eq, decide_eq_true_eq] at h
        omega
      · simp at h
theorem nonempty_of {u : ByteArray} (h : 0 < u.size) : u.toList.isEmpty = false := by
  cases h1 : u.toList.isEmpty with
  | false => rfl
  | true => have := empty_of h1; subst this; simp [ByteArray.size] at h
theorem isEmpty_of {u : ByteArray} (h : ¬ 0 < u.size) : u.toList.isEmpty = true := by
  have : u = ⟨#[]⟩ := by
    apply ByteArray.ext
    apply Array.eq_empty_of_size_eq_zero
    show u.size = 0
    omega
  subst this
  rw [ByteArray.toList_eq]
  rfl

/-- The length of a string. -/
def strLen : Value → Nat
  | .string s => s.size
  | _ => 0
theorem DecodeRow_any (s : ByteArray) (w : World) (hs : s.size ≤ 1000000) :
    Calls Try.prog 70 #[.string s] w (RowRes w (decR s.size s.data.toList [])) := by
  go_enter Try.func70, Try.ntmps70
  go_wp2_with fail
  go_loopw [4, 0] (fun v i wr => ∃ (n : Nat) (l : List V) (vr : Value) (u : ByteArray), i = .string u ∧ u.size ≤ n ∧ u.size ≤ 1000000 ∧ vr = v ∧ l.length ≤ 16 ∧ Hid (decR s.size s.data.toList [] = decR n u.data.toList l) ∧ Hid (∀ x ∈ l, vB x = true) ∧ OwnsV wr w.heap.size vr l ∧ Hid (Below w.heap.size w wr) ∧ (∃ c a, vr = .slice a l.length c)) (fun _ i _ => strLen i)
  case atStart => exact ⟨s.size, [], _, s, rfl, Nat.le_refl _, hs, rfl, by simp, rfl, fun x hx => by simp at hx, OwnsV.nil _ _, Below.refl _ _, ⟨0, none, rfl⟩⟩
  case round =>
    obtain ⟨n, l, vr, u, rfl, hun, hum, rfl, hl16, hd, hall, hown, hb, cp, ad, rfl⟩ := hrel
    by_cases hu : 0 < u.size
    · have he := nonempty_of hu
      obtain ⟨m, rfl⟩ : ∃ m, n = m + 1 := ⟨n - 1, by omega⟩
      go_wp2_with fail
      refine (decodeValue_any u _ hum hu).mono ?_
      intro e w2 hp
      obtain ⟨hb2, hcase⟩ := decVB_cases hp
      clear hp
      have hs2 := hb2.size
      rcases hcase with ⟨v, rfl, hn⟩ | ⟨v, k, rfl, hk0, hku, hv, hn⟩
      · have hfin := (hb.out.trans (hb2.mono hb.out.size)).alloc (by have := hb.out.size; omega) (.cells #[.int .i64 v.k, .int .i64 v.n, .string v.s] 42)
        go_wp2_with fail
        refine bodyPost_ret (v := .tuple #[.slice none 0 0, .int .i64 1]) (by simp [results, Try.results70, go_sem]) rfl ⟨hfin, ?_⟩
        rw [hd.out, hn.out m l hu]
      · by_cases h16 : l.length = 16
        · have z16 : ((l.length : Int) == 16) = true := by simp; omega
          have zk : (((k : Nat) : Int) == 0) = false := by simp; omega
          have hfin := (hb.out.trans (hb2.mono hb.out.size)).alloc (by have := hb.out.size; omega) (.cells #[.int .i64 v.k, .int .i64 v.n, .string v.s] 42)
          have H16 := Lib.hid h16
          clear h16
          go_wp2_with fail
          refine bodyPost_ret (v := .tuple #[.slice none 0 0, .int .i64 1]) (by simp [results, Try.results70, go_sem]) rfl ⟨hfin, ?_⟩
          rw [hd.out, hn.out m l hu, H16.out]
          rfl
        · have z16 : ((l.length : Int) == 16) = false := by simp; omega
          have zk : (((k : Nat) : Int) == 0) = false := by simp; omega
          have H16 := Lib.hid h16
          clear h16
          have haw : Away none wr (w2.alloc (.cells #[.int .i64 v.k, .int .i64 v.n, .string v.s] 42)) := away_of_below (hb2.alloc hs2 _)
          have hown2 := haw.owns hown (by cases (Value.slice ad l.length cp).ownBlock <;> simp)
          have hsz2 := hb.out.size
          go_wp2_with (at_builtin; refine wpList_appV _ (w2.alloc (.cells #[.int .i64 v.k, .int .i64 v.n, .string v.s] 42)) rfl (.tmp 21) (.tmp 23) rfl w.heap.size (.slice ad l.length cp) l rfl hown2 v 1 (by simp [go_sem]) rfl rfl rfl rfl (by omega) (by simp; omega) ?_; intro l3 g3 cap3 w3 hl3 hown3 haw3 hb3 hat3 hlt3)
          have h3 : Below w.heap.size w w3 := ((hb.out.trans (hb2.mono hb.out.size)).alloc (by omega) _).trans hb3
          refine ⟨⟨m, l3, _, u.extract k u.size, by simp, ?_, ?_, rfl, ?_, ?_, ?_, hown3, h3, ⟨cap3, _, rfl⟩⟩, ?_⟩
          · simp; omega
          · simp; omega
          · rw [hl3.out]; simp; have := H16.out; omega
          · unfold Hid; rw [hd.out, hn.out m l hu, hl3.out, if_pos H16.out]
          · intro x hx
            rw [hl3.out] at hx
            simp only [List.mem_append, List.mem_singleton] at hx
            rcases hx with hx | rfl
            · exact hall.out x hx
            · exact hv
          · simp [strLen]; omega
    · have he := isEmpty_of hu
      have hu0 : u = ⟨#[]⟩ := empty_of he
      obtain ⟨ao, cap, hsl, hrow, hlo, hnil⟩ := hown.rowAt fun x hx => vB_ok (hall.out x hx)
      obtain ⟨rfl, _, rfl⟩ : ad = ao ∧ True ∧ cp = cap := by simpa using hsl
      go_wp2_with fail
      refine bodyPost_ret (v := .tuple #[.slice ad l.length cp, .int .i64 0]) (by simp [results, Try.results70, go_sem]) rfl ⟨hb.out, ?_⟩
      rw [hd.out, hu0]
      have e0 : decR n (⟨#[]⟩ : ByteArray).data.toList l = some l := by cases n <;> rfl
      rw [e0]
      exact ⟨ad, cp, rfl, hl16, hall.out, hrow, hlo, hnil⟩
end Go.Proofs.Ytdckpjkbchibjaa
