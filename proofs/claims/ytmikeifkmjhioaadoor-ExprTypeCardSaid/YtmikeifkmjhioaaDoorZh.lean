/- Operands of the reference: the slices of an expression's operands. -/
import Derived.Test.YtmikeifkmjhioaaDoorYu
namespace Go.Proofs.YtmikeifkmjhioaaDoor
open Go.RowKit Go.Proofs.EB
set_option maxHeartbeats 4000000
set_option maxRecDepth 100000
attribute [local go_sem] World.cell?_alloc_some
theorem infoSl : (Tryd.prog.info? 23).map (fun i => (i.zero, i.size, i.bytes)) = some (some (.slice none 0 0), 1, 24) := by kernel_rfl
/-- What Operands gives for an expression: the slices of its operands, one after the other. -/
def OpsP (x : Ex) (w : World) (e : Ending) (w' : World) : Prop :=
  ∃ (io : Option Addr) (icap : Nat) (its : List Sl), e = .returned (.slice io its.length icap) ∧ Hid (its.map (·.l) = x.args.map Ex.flat ∧ ∀ s ∈ its, s.l.length ≤ s.cap) ∧ ItemsIn w' io its ∧ Below w.heap.size w w'
theorem flats_mem {a : Ex} {t : Tm} : ∀ {l : List Ex}, a ∈ l → t ∈ a.flat → t ∈ flats l
  | [], h, _ => by cases h
  | x :: l, h, ht => by
    simp only [flats, List.mem_append]
    rcases List.mem_cons.1 h with rfl | h
    · exact .inl ht
    · exact .inr (flats_mem h ht)
theorem flats_mem_len {a : Ex} : ∀ {l : List Ex}, a ∈ l → a.flat.length ≤ (flats l).length
  | [], h => by cases h
  | x :: l, h => by
    simp only [flats, List.length_append]
    rcases List.mem_cons.1 h with rfl | h
    · omega
    · have := flats_mem_len h; omega
theorem flats_nil {zs : List Ex} (h : flats zs = []) : zs = [] := by
  have := flats_len zs
  rw [h] at this
  exact List.eq_nil_of_length_eq_zero (by simpa using this)
theorem roperands_any (ao : Option Addr) (cap : Nat) (l : List Tm) (x : Ex) (hH : Hid (Head l x [] ∧ x.depth ≤ 17)) (hl : l.length ≤ 64) (hcap : l.length ≤ cap) (hok : ∀ t ∈ l, t.okT) (w : World) (hT : TmsAt w w.heap.size ao l) :
    Calls Tryd.prog 73 #[.slice ao l.length cap] w (OpsP x w) := by
  have hpos : 1 ≤ l.length := by rw [hH.out.1.1]; have := x.flat_pos; simp; omega
  obtain ⟨b, off, rfl, hbB⟩ := hT.form (by omega)
  have HT := Lib.hid hT
  have Hok := Lib.hid hok
  have hd1 : Hid (l.drop 1 = flats x.args) := by
    have h1 := hH.out.1.1
    rw [Ex.flat_eq] at h1
    unfold Hid
    rw [h1]; simp
  clear hT hok
  go_enter Tryd.func73, Tryd.ntmps73
  go_wp2_with fail
  go_loopw [3, 4] (fun ov av wr => ∃ (p : Nat) (its : List Sl) (ad : Option Addr) (cp : Nat) (zs : List Ex), av = .int .i64 p ∧ ov = .slice ad its.length cp ∧ p ≤ l.length ∧ its.length ≤ p ∧
    Hid ((∃ xs, x.args = xs ++ zs ∧ its.map (·.l) = xs.map Ex.flat) ∧ l.drop p = flats zs ∧ (∀ s ∈ its, s.l.length ≤ s.cap ∧ TmsAt w w.heap.size s.ao s.l)) ∧ Hid (OwnsR encSl 1 wr w.heap.size 23 (.slice ad its.length cp) its) ∧ Hid (Below w.heap.size w wr)) (fun _ av _ => l.length - (intOf av).toNat)
  case atStart => exact ⟨1, [], none, 0, x.args, rfl, rfl, hpos, by simp, ⟨⟨[], rfl, rfl⟩, hd1.out, by simp⟩, OwnsR.nil, Below.refl _ _⟩
  case round =>
    obtain ⟨p, its, ad, cp, zs, rfl, rfl, hp, hip, hX, hown, hB⟩ := hrel
    by_cases hlt : p < l.length
    · cases zs with
      | nil =>
        exfalso
        have h1 := congrArg List.length hX.out.2.1
        simp [flats] at h1
        omega
      | cons z zs' =>
        have hzH : Hid (Head (l.drop p) z (flats zs') ∧ z.depth ≤ 16) := by
          obtain ⟨⟨xs, hxs, _⟩, h2, _⟩ := hX.out
          have hm : z ∈ x.args := by rw [hxs]; simp
          have h3 := ((Ex.ok_iff x).1 hH.out.1.2).2.2 z hm
          have h4 := le_depths hm
          have h5 := hH.out.2
          rw [Ex.depth_eq] at h5
          exact ⟨⟨by rw [h2]; rfl, h3⟩, by omega⟩
        go_wp2_with fail
        refine (rend_any (some ⟨b, off, none⟩) cap l hl Hok.out 16 (by omega) p hp wr (HT.out.later hB.out)).mono ?_
        rintro e w1 ⟨hb1, hP⟩
        rcases hP with ⟨y, r, q, hY, rfl⟩ | ⟨hF, rfl⟩
        · have hyz : Hid (y = z ∧ r = flats zs') := hY.out.1.uniq hzH.out.1
          have hq : p < q ∧ q ≤ l.length := by
            have h1 := hY.out
            have h2 := congrArg List.length h1.1.1
            have h3 := y.flat_pos
            simp at h2
            omega
          obtain ⟨hq1, hq2⟩ := hq
          have hqc : q ≤ cap := by omega
          have hown1 := OwnsR.below hown.out hb1
          have HB1 := Lib.hid (bt hB.out hb1)
          have hsz1 : w.heap.size ≤ w1.heap.size := HB1.out.size
          obtain ⟨t, ht⟩ : ∃ t : List Tm, t = (l.drop p).take (q - p) := ⟨_, rfl⟩
          have htl : t.length = q - p := by rw [ht, List.length_take, List.length_drop]; omega
          have hCt : (#[Value.slice (some ⟨b, off + p * 5, none⟩) (q - p) (cap - p)] : Array Value).toList = cellsL encSl [⟨some ⟨b, off + p * 5, none⟩, cap - p, t⟩] := by
            simp [cellsL, encSl, htl]
          have hnx : Hid (t = z.flat ∧ l.drop q = flats zs' ∧ TmsAt w w.heap.size (some ⟨b, off + p * 5, none⟩) t) := by
            obtain ⟨⟨⟨h1, _⟩, _, h3⟩, h4, h5⟩ := And.intro hY.out hyz.out
            subst h4
            have h6 : y.flat.length = q - p := by
              have h2 := congrArg List.length h1
              simp at h2
              omega
            refine ⟨by rw [ht, h1, ← h6, List.take_left' rfl], ?_, by rw [ht]; exact (HT.out.drop p).take _⟩
            have h7 : l.drop q = (l.drop p).drop (q - p) := by rw [List.drop_drop]; congr 1; omega
            rw [h7, h1, ← h6, List.drop_left' rfl, h5]
          have Htl := Lib.hid htl
          have HCt := Lib.hid hCt
          clear hb1 hown ht htl hCt
          go_wp2_with (at_builtin; refine wpList_appR (enc := encSl) (m := 1) Tryd.underlying53 infoSl rfl (by decide) encSl_len encSl_one _ w1 rfl (.tmp 13) (.tmp 18) rfl w.heap.size _ its rfl hown1 [⟨some ⟨b, off + p * 5, none⟩, cap - p, t⟩] 1 1 #[Value.slice (some ⟨b, off + p * 5, none⟩) (q - p) (cap - p)] rfl rfl rfl rfl rfl HCt.out rfl (by decide) (by omega) (by unfold maxLen; omega) hsz1 ?_; intro v3 g3 cap3 w10 hv3 hown10 haw10 hb10 hat10 hlt10)
          refine ⟨⟨q, v3, _, _, zs', rfl, rfl, hq2, ?_, ?_, hown10, HB1.out.trans hb10⟩, by simp [intOf]; omega⟩
          · have h1 := congrArg List.length hv3.out
            simp at h1
            omega
          · obtain ⟨⟨xs, h1, h2⟩, _, h4⟩ := hX.out
            obtain ⟨h5, h6, h7⟩ := hnx.out
            refine ⟨⟨xs ++ [z], by rw [h1]; simp, by rw [hv3.out]; simp [h2, h5]⟩, h6, ?_⟩
            intro s hs
            rw [hv3.out] at hs
            rcases List.mem_append.1 hs with hs | hs
            · exact h4 s hs
            · rw [List.mem_singleton.1 hs]
              exact ⟨by show t.length ≤ cap - p; have := Htl.out; omega, h7⟩
        · exfalso
          have := hF.out z _ hzH.out.1
          have := hzH.out.2
          omega
    · have hpe : p = l.length := by omega
      subst hpe
      obtain ⟨aoV, capV, heq, hrV, _, _, _, _⟩ := OwnsR.rAt encSl_len hown.out
      simp only [Value.slice.injEq, true_and] at heq
      obtain ⟨rfl, rfl⟩ := heq
      have hfin : OpsP x w (.returned (.slice ad its.length cp)) wr := by
        obtain ⟨⟨xs, h1, h2⟩, h3, h4⟩ := hX.out
        rw [List.drop_length] at h3
        have h5 := flats_nil h3.symm
        subst h5
        rw [List.append_nil] at h1
        exact ⟨ad, cp, its, rfl, ⟨by rw [h1]; exact h2, fun s hs => (h4 s hs).1⟩, ⟨hrV, fun s hs => (h4 s hs).2.later hB.out⟩, hB.out⟩
      have Hfin := Lib.hid hfin
      clear hfin hrV hown hlt
      go_wp2_with fail
      go_ret
      exact Hfin.out
end Go.Proofs.YtmikeifkmjhioaaDoor
