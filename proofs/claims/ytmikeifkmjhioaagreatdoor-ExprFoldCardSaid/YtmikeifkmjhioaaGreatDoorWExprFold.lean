/- Folding, plain: what Fold leaves of an expression, and that it changes no value and no type. -/
import Derived.Test.YtmikeifkmjhioaaGreatDoorXi
import Derived.Test.YtmikeifkmjhioaaGreatDoorYu
import Derived.Test.YtmikeifkmjhioaaGreatDoorZb
import Derived.LoopN
import Derived.Test.YtmikeifkmjhioaaGreatDoorYx
import Derived.Test.YtmikeifkmjhioaaGreatDoorYo
import Derived.Test.YtmikeifkmjhioaaGreatDoorZn
namespace Go.Proofs.YtmikeifkmjhioaaGreatDoor
open Go.RowKit
set_option maxHeartbeats 4000000
/-- A constant. -/
def cEx (v : V) : Ex := .x0 ⟨1, v, 0⟩
/-- An operator with folded operands. -/
def foldN (cmp : V → V → Int) (t : Tm) (l : List Ex) : Ex :=
  if l ≠ [] ∧ (∀ a ∈ l, a.head.op = 1) ∧ (appV cmp t.op (l.map fun a => a.head.v)).k ≠ 0 then cEx (appV cmp t.op (l.map fun a => a.head.v)) else Ex.node t l
def foldE (cmp : V → V → Int) (x : Ex) : Ex := x.fold (foldN cmp)
theorem foldE_eq (cmp : V → V → Int) (x : Ex) : foldE cmp x = foldN cmp x.head (x.args.map (foldE cmp)) := Ex.fold_eq _ x
theorem node_self : ∀ x : Ex, Ex.node x.head x.args = x
  | .x0 _ => rfl
  | .x1 _ _ => rfl
  | .x2 _ _ _ => rfl
  | .x3 _ _ _ _ => rfl
theorem ok_const {x : Ex} (h : x.ok) (h1 : x.head.op = 1) : x.args = [] ∧ x.head.v.k ≠ 0 ∧ vB x.head.v = true ∧ x.head.c = 0 := by
  obtain ⟨a, b, c⟩ := (Ex.ok_iff x).1 h
  rw [h1] at b
  have ha : x.args = [] := List.eq_nil_of_length_eq_zero (by have e : arityI 1 = 0 := rfl; omega)
  refine ⟨ha, ?_⟩
  unfold termB fieldsB at a
  rw [if_pos h1] at a
  simp only [Bool.and_eq_true, Bool.not_eq_true', beq_eq_false_iff_ne, beq_iff_eq] at a
  exact ⟨a.2.1.2, a.2.1.1, a.2.2⟩
theorem cEx_ok {v : V} (h : vB v = true) (hk : v.k ≠ 0) : (cEx v).ok := by
  rw [Ex.ok_iff]
  refine ⟨?_, rfl, by intro x hx; cases hx⟩
  unfold cEx Ex.head termB fieldsB
  simp [arityI, h, hk]
/-- What folding leaves of a valid expression is valid, no deeper and no longer. -/
theorem foldE_ok (cmp : V → V → Int) : ∀ x : Ex, x.ok → (foldE cmp x).ok ∧ (foldE cmp x).depth ≤ x.depth ∧ (foldE cmp x).flat.length ≤ x.flat.length := by
  intro x
  induction x using Ex.ind with
  | h x ih =>
    intro hx
    obtain ⟨h1, h2, h3⟩ := (Ex.ok_iff x).1 hx
    rw [foldE_eq]
    have hl : (x.args.map (foldE cmp)).length = x.args.length := by simp
    have hok : oks (x.args.map (foldE cmp)) := by
      intro y hy
      obtain ⟨a, ha, rfl⟩ := List.mem_map.1 hy
      exact (ih a ha (h3 a ha)).1
    unfold foldN
    split
    · rename_i hc
      refine ⟨cEx_ok (appV_valid cmp _ _ ?_) hc.2.2, ?_, ?_⟩
      · intro v hv
        obtain ⟨a, ha, rfl⟩ := List.mem_map.1 hv
        exact (ok_const (hok a ha) (hc.2.1 a ha)).2.2.1
      · have := x.depth_pos
        rw [show (cEx (appV cmp x.head.op ((x.args.map (foldE cmp)).map fun a => a.head.v))).depth = 1 from rfl]; omega
      · have := x.flat_pos
        rw [show (cEx (appV cmp x.head.op ((x.args.map (foldE cmp)).map fun a => a.head.v))).flat.length = 1 from rfl]; omega
    · have hle : (x.args.map (foldE cmp)).length ≤ 3 := by rw [hl]; exact x.args_le
      refine ⟨?_, ?_, ?_⟩
      · rw [Ex.ok_iff, node_head, node_args _ _ hle, hl]
        exact ⟨h1, h2, hok⟩
      · rw [Ex.depth_eq, node_args _ _ hle, Ex.depth_eq x]
        have : ∀ l : List Ex, (∀ a ∈ l, (foldE cmp a).depth ≤ a.depth) → depths (l.map (foldE cmp)) ≤ depths l := by
          intro l
          induction l with
          | nil => intro _; simp [depths]
          | cons a l il =>
            intro h
            have h1 := h a (by simp)
            have h2 := il fun b hb => h b (by simp [hb])
            simp only [depths, List.map_cons]; omega
        have := this x.args fun a ha => (ih a ha (h3 a ha)).2.1
        omega
      · rw [Ex.flat_eq, node_head, node_args _ _ hle, Ex.flat_eq x, List.length_cons, List.length_cons]
        have : ∀ l : List Ex, (∀ a ∈ l, (foldE cmp a).flat.length ≤ a.flat.length) → (flats (l.map (foldE cmp))).length ≤ (flats l).length := by
          intro l
          induction l with
          | nil => intro _; simp [flats]
          | cons a l il =>
            intro h
            have h1 := h a (by simp)
            have h2 := il fun b hb => h b (by simp [hb])
            simp only [flats, List.map_cons, List.length_append]; omega
        have := this x.args fun a ha => (ih a ha (h3 a ha)).2.2
        omega
theorem fold_const {α : Type} (f : Tm → List α → α) {x : Ex} (h : x.ok) (h1 : x.head.op = 1) : x.fold f = f x.head [] := by
  rw [Ex.fold_eq, (ok_const h h1).1]; rfl
/-- .. has the same value for every row. -/
theorem foldE_eval (cmp : V → V → Int) (row : List V) : ∀ x : Ex, x.ok → (foldE cmp x).fold (evT cmp row) = x.fold (evT cmp row) := by
  intro x
  induction x using Ex.ind with
  | h x ih =>
    intro hx
    obtain ⟨h1, h2, h3⟩ := (Ex.ok_iff x).1 hx
    have hok : oks (x.args.map (foldE cmp)) := by
      intro y hy
      obtain ⟨a, ha, rfl⟩ := List.mem_map.1 hy
      exact (foldE_ok cmp a (h3 a ha)).1
    have hle : (x.args.map (foldE cmp)).length ≤ 3 := by rw [List.length_map]; exact x.args_le
    have hev : (x.args.map (foldE cmp)).map (Ex.fold (evT cmp row)) = x.args.map (Ex.fold (evT cmp row)) := by
      rw [List.map_map]
      exact List.map_congr_left fun a ha => ih a ha (h3 a ha)
    rw [foldE_eq, Ex.fold_eq (evT cmp row) x]
    unfold foldN
    split
    · rename_i hc
      have hne : x.head.op ≠ 1 ∧ x.head.op ≠ 2 := arity_ne (by
        rw [h2]; intro h0
        have := hc.1
        rw [show x.args = [] from List.eq_nil_of_length_eq_zero (by omega)] at this
        exact this rfl)
      have hvs : (x.args.map (foldE cmp)).map (fun a => a.head.v) = x.args.map (Ex.fold (evT cmp row)) := by
        rw [← hev]
        refine List.map_congr_left fun a ha => ?_
        rw [fold_const _ (hok a ha) (hc.2.1 a ha)]
        unfold evT; rw [if_pos (hc.2.1 a ha)]
      rw [show (cEx (appV cmp x.head.op ((x.args.map (foldE cmp)).map fun a => a.head.v))).fold (evT cmp row) = appV cmp x.head.op ((x.args.map (foldE cmp)).map fun a => a.head.v) from rfl, hvs]
      unfold evT
      rw [if_neg hne.1, if_neg hne.2]
    · rw [Ex.fold_eq, node_head, node_args _ _ hle, hev]
theorem hasT_self {v : V} (h : vB v = true) : HasT v v.k := ⟨h, .inr rfl⟩
/-- An operator over constants has the type that their kinds give, or none. -/
theorem typI_vals (cmp : V → V → Int) (op : Int) (vs : List V) (hv : ∀ v ∈ vs, vB v = true) (hl : vs.length ≤ 3) (hk : (appV cmp op vs).k ≠ 0) (ht : typI op (vs.map (·.k)) ≠ 0) : (appV cmp op vs).k = typI op (vs.map (·.k)) := by
  rcases vs with _ | ⟨a, _ | ⟨b, _ | ⟨c, _ | ⟨d, l⟩⟩⟩⟩
  · exact absurd rfl ht
  · exact (appV_typed1 cmp op a _ (hasT_self (hv a (by simp))) ht).2.resolve_left hk
  · exact (appV_typed2 cmp op a b _ _ (hasT_self (hv a (by simp))) (hasT_self (hv b (by simp))) ht).2.resolve_left hk
  · exact (appV_typed3 cmp op a b c _ _ _ (hasT_self (hv a (by simp))) (hasT_self (hv b (by simp))) (hasT_self (hv c (by simp))) ht).2.resolve_left hk
  · simp at hl
/-- .. and the same type, if it has one. -/
theorem foldE_type (cmp : V → V → Int) (types : List Int) : ∀ x : Ex, x.ok → ∀ k : Int, x.fold (tyT types) = (k, 0) → (foldE cmp x).fold (tyT types) = (k, 0) := by
  intro x
  induction x using Ex.ind with
  | h x ih =>
    intro hx k hk
    obtain ⟨h1, h2, h3⟩ := (Ex.ok_iff x).1 hx
    have hok : oks (x.args.map (foldE cmp)) := by
      intro y hy
      obtain ⟨a, ha, rfl⟩ := List.mem_map.1 hy
      exact (foldE_ok cmp a (h3 a ha)).1
    have hle : (x.args.map (foldE cmp)).length ≤ 3 := by rw [List.length_map]; exact x.args_le
    by_cases h0 : x.args = []
    · rw [foldE_eq, h0]
      unfold foldN
      rw [if_neg (by simp)]
      have : Ex.node x.head (List.map (foldE cmp) []) = x := by
        have := node_self x
        rw [h0] at this
        exact this
      rw [this]; exact hk
    · have hne : x.head.op ≠ 1 ∧ x.head.op ≠ 2 := arity_ne (by
        rw [h2]; intro hz; exact h0 (List.eq_nil_of_length_eq_zero (by omega)))
      have hop : ∀ l, tyT types x.head l = tyOp x.head.op l := by intro l; unfold tyT; rw [if_neg hne.1, if_neg hne.2]
      rw [Ex.fold_eq, hop] at hk
      obtain ⟨hk1, hk2, hk3⟩ := tyOp_inv hk
      have hty : (x.args.map (foldE cmp)).map (Ex.fold (tyT types)) = x.args.map (Ex.fold (tyT types)) := by
        rw [List.map_map]
        refine List.map_congr_left fun a ha => ?_
        have e2 := hk1 _ (List.mem_map.2 ⟨a, ha, rfl⟩)
        have := ih a ha (h3 a ha) (a.fold (tyT types)).1 (by rw [← e2])
        show (foldE cmp a).fold (tyT types) = _
        rw [this, ← e2]
      rw [foldE_eq]
      unfold foldN
      split
      · rename_i hc
        have hvs : ((x.args.map (foldE cmp)).map (fun a => a.head.v)).map (·.k) = (x.args.map (Ex.fold (tyT types))).map (·.1) := by
          rw [← hty, List.map_map, List.map_map, List.map_map, List.map_map]
          refine List.map_congr_left fun a ha => ?_
          have ha' : foldE cmp a ∈ x.args.map (foldE cmp) := List.mem_map.2 ⟨a, ha, rfl⟩
          show (foldE cmp a).head.v.k = ((foldE cmp a).fold (tyT types)).1
          rw [fold_const _ (hok _ ha') (hc.2.1 _ ha')]
          unfold tyT; rw [if_pos (hc.2.1 _ ha')]
        have hkk := typI_vals cmp x.head.op ((x.args.map (foldE cmp)).map fun a => a.head.v) (by
          intro v hv
          obtain ⟨a, ha, rfl⟩ := List.mem_map.1 hv
          exact (ok_const (hok a ha) (hc.2.1 a ha)).2.2.1) (by rw [List.length_map]; exact hle) hc.2.2 (by rw [hvs, hk2]; exact hk3)
        show ((appV cmp x.head.op ((x.args.map (foldE cmp)).map fun a => a.head.v)).k, (0 : Int)) = (k, 0)
        rw [hkk, hvs, hk2]
      · rw [Ex.fold_eq, node_head, node_args _ _ hle, hty, hop, hk]
/-- .. and nothing is left to fold. -/
theorem foldE_twice (cmp : V → V → Int) : ∀ x : Ex, foldE cmp (foldE cmp x) = foldE cmp x := by
  intro x
  induction x using Ex.ind with
  | h x ih =>
    have hle : (x.args.map (foldE cmp)).length ≤ 3 := by rw [List.length_map]; exact x.args_le
    have hself : (x.args.map (foldE cmp)).map (foldE cmp) = x.args.map (foldE cmp) := by
      rw [List.map_map]
      exact List.map_congr_left fun a ha => ih a ha
    have e := foldE_eq cmp x
    by_cases hc : (x.args.map (foldE cmp)) ≠ [] ∧ (∀ a ∈ (x.args.map (foldE cmp)), a.head.op = 1) ∧ (appV cmp x.head.op ((x.args.map (foldE cmp)).map fun a => a.head.v)).k ≠ 0
    · rw [e]
      unfold foldN
      rw [if_pos hc]
      rfl
    · have e2 : foldN cmp x.head (x.args.map (foldE cmp)) = Ex.node x.head (x.args.map (foldE cmp)) := by unfold foldN; rw [if_neg hc]
      rw [e, e2, foldE_eq, node_head, node_args _ _ hle, hself, e2]
end Go.Proofs.YtmikeifkmjhioaaGreatDoor
/- Operands of the reference: the slices of an expression's operands. -/
namespace Go.Proofs.YtmikeifkmjhioaaGreatDoor
open Go.RowKit Go.Proofs.EB
set_option maxHeartbeats 4000000
set_option maxRecDepth 100000
attribute [local go_sem] World.cell?_alloc_some
theorem infoSl : (Tryz.prog.info? 23).map (fun i => (i.zero, i.size, i.bytes)) = some (some (.slice none 0 0), 1, 24) := by kernel_rfl
/-- What Operands gives for an expression: the slices of its operands, one after the other. -/
def OpsP (x : Ex) (w : World) (e : Ending) (w' : World) : Prop :=
  ∃ (io : Option Addr) (icap : Nat) (its : List Sl), e = .returned (.slice io its.length icap) ∧ Hid (its.map (·.l) = x.args.map Ex.flat ∧ ∀ s ∈ its, s.l.length ≤ s.cap) ∧ ItemsIn w' io its ∧ Below w.heap.size w w'
theorem flats_mem {a : Ex} {t : Tm} : ∀ {l : List Ex}, a ∈ l → t ∈ a.flat → t ∈ flats l
  | [], h, _ => by cases h
  | x :: l, h, ht => by
    simp only [flats, List.mem_append]
    rcases List.mem_cons.1 h with rfl | h
    · exact .inl ht
    · exact .inr (flats_mem h ht)
theorem flats_mem_len {a : Ex} : ∀ {l : List Ex}, a ∈ l → a.flat.length ≤ (flats l).length
  | [], h => by cases h
  | x :: l, h => by
    simp only [flats, List.length_append]
    rcases List.mem_cons.1 h with rfl | h
    · omega
    · have := flats_mem_len h; omega
theorem flats_nil {zs : List Ex} (h : flats zs = []) : zs = [] := by
  have := flats_len zs
  rw [h] at this
  exact List.eq_nil_of_length_eq_zero (by simpa using this)
theorem roperands_any (ao : Option Addr) (cap : Nat) (l : List Tm) (x : Ex) (hH : Hid (Head l x [] ∧ x.depth ≤ 17)) (hl : l.length ≤ 64) (hcap : l.length ≤ cap) (hok : ∀ t ∈ l, t.okT) (w : World) (hT : TmsAt w w.heap.size ao l) :
    Calls Tryz.prog 68 #[.slice ao l.length cap] w (OpsP x w) := by
  have hpos : 1 ≤ l.length := by rw [hH.out.1.1]; have := x.flat_pos; simp; omega
  obtain ⟨b, off, rfl, hbB⟩ := hT.form (by omega)
  have HT := Lib.hid hT
  have Hok := Lib.hid hok
  have hd1 : Hid (l.drop 1 = flats x.args) := by
    have h1 := hH.out.1.1
    rw [Ex.flat_eq] at h1
    unfold Hid
    rw [h1]; simp
  clear hT hok
  go_enter Tryz.func68, Tryz.ntmps68
  go_wp2_with fail
  go_loopw [3, 4] (fun ov av wr => ∃ (p : Nat) (its : List Sl) (ad : Option Addr) (cp : Nat) (zs : List Ex), av = .int .i64 p ∧ ov = .slice ad its.length cp ∧ p ≤ l.length ∧ its.length ≤ p ∧
    Hid ((∃ xs, x.args = xs ++ zs ∧ its.map (·.l) = xs.map Ex.flat) ∧ l.drop p = flats zs ∧ (∀ s ∈ its, s.l.length ≤ s.cap ∧ TmsAt w w.heap.size s.ao s.l)) ∧ Hid (OwnsR encSl 1 wr w.heap.size 23 (.slice ad its.length cp) its) ∧ Hid (Below w.heap.size w wr)) (fun _ av _ => l.length - (intOf av).toNat)
  case atStart => exact ⟨1, [], none, 0, x.args, rfl, rfl, hpos, by simp, ⟨⟨[], rfl, rfl⟩, hd1.out, by simp⟩, OwnsR.nil, Below.refl _ _⟩
  case round =>
    obtain ⟨p, its, ad, cp, zs, rfl, rfl, hp, hip, hX, hown, hB⟩ := hrel
    by_cases hlt : p < l.length
    · cases zs with
      | nil =>
        exfalso
        have h1 := congrArg List.length hX.out.2.1
        simp [flats] at h1
        omega
      | cons z zs' =>
        have hzH : Hid (Head (l.drop p) z (flats zs') ∧ z.depth ≤ 16) := by
          obtain ⟨⟨xs, hxs, _⟩, h2, _⟩ := hX.out
          have hm : z ∈ x.args := by rw [hxs]; simp
          have h3 := ((Ex.ok_iff x).1 hH.out.1.2).2.2 z hm
          have h4 := le_depths hm
          have h5 := hH.out.2
          rw [Ex.depth_eq] at h5
          exact ⟨⟨by rw [h2]; rfl, h3⟩, by omega⟩
        go_wp2_with fail
        refine (rend_any (some ⟨b, off, none⟩) cap l hl Hok.out 16 (by omega) p hp wr (HT.out.later hB.out)).mono ?_
        rintro e w1 ⟨hb1, hP⟩
        rcases hP with ⟨y, r, q, hY, rfl⟩ | ⟨hF, rfl⟩
        · have hyz : Hid (y = z ∧ r = flats zs') := hY.out.1.uniq hzH.out.1
          have hq : p < q ∧ q ≤ l.length := by
            have h1 := hY.out
            have h2 := congrArg List.length h1.1.1
            have h3 := y.flat_pos
            simp at h2
            omega
          obtain ⟨hq1, hq2⟩ := hq
          have hqc : q ≤ cap := by omega
          have hown1 := OwnsR.below hown.out hb1
          have HB1 := Lib.hid (bt hB.out hb1)
          have hsz1 : w.heap.size ≤ w1.heap.size := HB1.out.size
          obtain ⟨t, ht⟩ : ∃ t : List Tm, t = (l.drop p).take (q - p) := ⟨_, rfl⟩
          have htl : t.length = q - p := by rw [ht, List.length_take, List.length_drop]; omega
          have hCt : (#[Value.slice (some ⟨b, off + p * 5, none⟩) (q - p) (cap - p)] : Array Value).toList = cellsL encSl [⟨some ⟨b, off + p * 5, none⟩, cap - p, t⟩] := by
            simp [cellsL, encSl, htl]
          have hnx : Hid (t = z.flat ∧ l.drop q = flats zs' ∧ TmsAt w w.heap.size (some ⟨b, off + p * 5, none⟩) t) := by
            obtain ⟨⟨⟨h1, _⟩, _, h3⟩, h4, h5⟩ := And.intro hY.out hyz.out
            subst h4
            have h6 : y.flat.length = q - p := by
              have h2 := congrArg List.length h1
              simp at h2
              omega
            refine ⟨by rw [ht, h1, ← h6, List.take_left' rfl], ?_, by rw [ht]; exact (HT.out.drop p).take _⟩
            have h7 : l.drop q = (l.drop p).drop (q - p) := by rw [List.drop_drop]; congr 1; omega
            rw [h7, h1, ← h6, List.drop_left' rfl, h5]
          have Htl := Lib.hid htl
          have HCt := Lib.hid hCt
          clear hb1 hown ht htl hCt
          go_wp2_with (at_builtin; refine wpList_appR (enc := encSl) (m := 1) Tryz.underlying101 infoSl rfl (by decide) encSl_len encSl_one _ w1 rfl (.tmp 13) (.tmp 18) rfl w.heap.size _ its rfl hown1 [⟨some ⟨b, off + p * 5, none⟩, cap - p, t⟩] 1 1 #[Value.slice (some ⟨b, off + p * 5, none⟩) (q - p) (cap - p)] rfl rfl rfl rfl rfl HCt.out rfl (by decide) (by omega) (by unfold maxLen; omega) hsz1 ?_; intro v3 g3 cap3 w10 hv3 hown10 haw10 hb10 hat10 hlt10)
          refine ⟨⟨q, v3, _, _, zs', rfl, rfl, hq2, ?_, ?_, hown10, HB1.out.trans hb10⟩, by simp [intOf]; omega⟩
          · have h1 := congrArg List.length hv3.out
            simp at h1
            omega
          · obtain ⟨⟨xs, h1, h2⟩, _, h4⟩ := hX.out
            obtain ⟨h5, h6, h7⟩ := hnx.out
            refine ⟨⟨xs ++ [z], by rw [h1]; simp, by rw [hv3.out]; simp [h2, h5]⟩, h6, ?_⟩
            intro s hs
            rw [hv3.out] at hs
            rcases List.mem_append.1 hs with hs | hs
            · exact h4 s hs
            · rw [List.mem_singleton.1 hs]
              exact ⟨by show t.length ≤ cap - p; have := Htl.out; omega, h7⟩
        · exfalso
          have := hF.out z _ hzH.out.1
          have := hzH.out.2
          omega
    · have hpe : p = l.length := by omega
      subst hpe
      obtain ⟨aoV, capV, heq, hrV, _, _, _, _⟩ := OwnsR.rAt encSl_len hown.out
      simp only [Value.slice.injEq, true_and] at heq
      obtain ⟨rfl, rfl⟩ := heq
      have hfin : OpsP x w (.returned (.slice ad its.length cp)) wr := by
        obtain ⟨⟨xs, h1, h2⟩, h3, h4⟩ := hX.out
        rw [List.drop_length] at h3
        have h5 := flats_nil h3.symm
        subst h5
        rw [List.append_nil] at h1
        exact ⟨ad, cp, its, rfl, ⟨by rw [h1]; exact h2, fun s hs => (h4 s hs).1⟩, ⟨hrV, fun s hs => (h4 s hs).2.later hB.out⟩, hB.out⟩
      have Hfin := Lib.hid hfin
      clear hfin hrV hown hlt
      go_wp2_with fail
      go_ret
      exact Hfin.out
end Go.Proofs.YtmikeifkmjhioaaGreatDoor
/- Substitute and Same of the reference. -/
namespace Go.Proofs.YtmikeifkmjhioaaGreatDoor
open Go.RowKit Go.Proofs.EB
set_option maxHeartbeats 4000000
set_option maxRecDepth 100000
attribute [local go_sem] World.cell?_alloc_some
theorem neqlTm_same (o k n c : Int) (s : ByteArray) (w : World) : (binOp .neq 48 (.agg #[.int .i64 o, .int .i64 k, .int .i64 n, .string s, .int .i64 c]) (.agg #[.int .i64 o, .int .i64 k, .int .i64 n, .string s, .int .i64 c])).run Tryz.prog w = .ok (.bool false) w := by
  have h := eqlTm o k n c o k n c s s w
  rw [run_eql_struct] at h
  rw [run_neq_struct]
  generalize (Op.equalIn 10000 48 (.agg #[.int .i64 o, .int .i64 k, .int .i64 n, .string s, .int .i64 c]) (.agg #[.int .i64 o, .int .i64 k, .int .i64 n, .string s, .int .i64 c])).run Tryz.prog w = r at h ⊢
  cases r with
  | ok b w1 => simp [Result.andThen] at h ⊢; obtain ⟨h1, h2⟩ := h; exact ⟨by rw [h1], h2⟩
  | halt x w1 => simp [Result.andThen] at h
/-- Same at two slices that read as one list. -/
theorem rsame_refl (a1 a2 : Option Addr) (c1 c2 : Nat) (l : List Tm) (hl : l.length ≤ maxLen) (w : World) (h1 : TmsAt w w.heap.size a1 l) (h2 : TmsAt w w.heap.size a2 l) :
    Calls Tryz.prog 15 #[.slice a1 l.length c1, .slice a2 l.length c2] w (Gives (.bool true) w) := by
  have H1 := Lib.hid h1
  have H2 := Lib.hid h2
  unfold maxLen at hl
  have yl : ((l.length : Int) != (l.length : Int)) = false := by simp
  clear h1 h2
  go_enter Tryz.func15, Tryz.ntmps15
  go_wp2_with fail
  clear yl
  go_loopw [5] (fun i wr => ∃ k : Nat, k ≤ l.length ∧ i = .int .i64 k ∧ Hid (Below w.heap.size w wr)) (fun i _ => l.length - (intOf i).toNat)
  case atStart => exact ⟨0, by omega, rfl, Below.refl _ _⟩
  case round =>
    obtain ⟨k, hk, rfl, hB⟩ := hrel
    by_cases hlt : k < l.length
    · obtain ⟨b1, o1, rfl, _⟩ := H1.out.form (by omega)
      obtain ⟨b2, o2, rfl, _⟩ := H2.out.form (by omega)
      obtain ⟨c0, c1, c2, c3, c4⟩ := RAt.tm (H1.out.later hB.out) hlt
      obtain ⟨d0, d1, d2, d3, d4⟩ := RAt.tm (H2.out.later hB.out) hlt
      generalize l[k].op = to_ at *
      generalize l[k].v.k = tk at *
      generalize l[k].v.n = tn at *
      generalize l[k].v.s = ts at *
      generalize l[k].c = tc at *
      have hlt2 : k + 1 ≤ l.length := hlt
      have heq := fun w => neqlTm_same to_ tk tn tc ts w
      have hg := guardTm
      go_wp2_with fail
      go_quiet (fail)
      go_wp2_with fail
      exact ⟨⟨k + 1, hlt2, by go_num, ⟨hB.out.os, hB.out.tape, hB.out.output, hB.out.size, hB.out.block⟩⟩, by simp [intOf]; omega⟩
    · have hke : k = l.length := by omega
      subst hke
      go_wp2_with fail
      go_ret
      exact ⟨rfl, hB.out⟩
end Go.Proofs.YtmikeifkmjhioaaGreatDoor
/- Apply of the reference: and, or. -/
namespace Go.Proofs.YtmikeifkmjhioaaGreatDoor
open Go.RowKit Go.Proofs.EB
set_option maxHeartbeats 4000000
set_option maxRecDepth 100000
attribute [local go_sem] World.cell?_alloc_some
theorem rapply_three14 (b off cap : Nat) (k n : Int) (s : ByteArray) (k' n' : Int) (s' : ByteArray) (w : World) (hA : At1 w b off k n s) (hB : At1 w b (off + 3) k' n' s') :
    Calls Tryz.prog 69 #[.int .i64 14, .slice (some ⟨b, off, none⟩) 2 cap] w (GivesV (threeV 14 (truthV ⟨k, n, s⟩) (truthV ⟨k', n', s'⟩)) w) := by
  have hR := fun w => rthree_any 14 _ _ (by decide) (truthV_cases ⟨k, n, s⟩) (truthV_cases ⟨k', n', s'⟩) w
  have HR := Lib.hid hR
  clear hR
  obtain ⟨hq, _⟩ := bcell (al2 w (.cells #[.int .i64 0, .int .i64 0, .string ⟨#[]⟩] 31) (.cells #[.int .i64 0, .int .i64 0, .string ⟨#[]⟩] 31))
  obtain ⟨c0, c1, c2⟩ := hA
  obtain ⟨d0, d1, d2⟩ := hB
  have hbl : b < w.heap.size := World.block_lt_of_cell? w _ c0
  have hb2 : b < w.heap.size + 1 + 1 := by omega
  have hw2 : w.heap.size < w.heap.size + 1 + 1 := by omega
  have HB := Lib.hid (Below.refl ((w.alloc (.cells #[.int .i64 0, .int .i64 0, .string ⟨#[]⟩] 31)).alloc (.cells #[.int .i64 0, .int .i64 0, .string ⟨#[]⟩] 31)).heap.size ((w.alloc (.cells #[.int .i64 0, .int .i64 0, .string ⟨#[]⟩] 31)).alloc (.cells #[.int .i64 0, .int .i64 0, .string ⟨#[]⟩] 31)))
  go_enter Tryz.func69, Tryz.ntmps69
  go_wp2_with fail
  go_region_law (go_simp; first | (go_at_call 101; ((with_reducible refine (rtruth_any _ _ _ _).mono ?_); rintro e w1 ⟨rfl, hb1⟩; have HB := Lib.hid (show Below ((w.alloc (.cells #[.int .i64 0, .int .i64 0, .string ⟨#[]⟩] 31)).alloc (.cells #[.int .i64 0, .int .i64 0, .string ⟨#[]⟩] 31)).heap.size ((w.alloc (.cells #[.int .i64 0, .int .i64 0, .string ⟨#[]⟩] 31)).alloc (.cells #[.int .i64 0, .int .i64 0, .string ⟨#[]⟩] 31)) w1 by first | exact bt HB.out hb1 | exact bt HB.out.drew hb1 | exact bt HB.out.drew.drew hb1); obtain ⟨hc, hf⟩ := bcell HB.out)) | (go_at_call 100; ((with_reducible refine (HR.out _).mono ?_); rintro e w3 ⟨k1, m1, s1, hv, rfl, hb1⟩; have HB := Lib.hid (show Below ((w.alloc (.cells #[.int .i64 0, .int .i64 0, .string ⟨#[]⟩] 31)).alloc (.cells #[.int .i64 0, .int .i64 0, .string ⟨#[]⟩] 31)).heap.size ((w.alloc (.cells #[.int .i64 0, .int .i64 0, .string ⟨#[]⟩] 31)).alloc (.cells #[.int .i64 0, .int .i64 0, .string ⟨#[]⟩] 31)) w3 by first | exact bt HB.out hb1 | exact bt HB.out.drew hb1 | exact bt HB.out.drew.drew hb1); obtain ⟨hc, hf⟩ := bcell HB.out)))
  all_goals
    go_wp2_with fail
    refine bodyPost_ret (by simp [results, Tryz.results69, go_sem, hc, hw2]; rfl) rfl ?_
    exact GivesV.mk hv.out (bl3 (bt (al2 _ _ _) HB.out) (Nat.le_refl _))
theorem rapply_three15 (b off cap : Nat) (k n : Int) (s : ByteArray) (k' n' : Int) (s' : ByteArray) (w : World) (hA : At1 w b off k n s) (hB : At1 w b (off + 3) k' n' s') :
    Calls Tryz.prog 69 #[.int .i64 15, .slice (some ⟨b, off, none⟩) 2 cap] w (GivesV (threeV 15 (truthV ⟨k, n, s⟩) (truthV ⟨k', n', s'⟩)) w) := by
  have hR := fun w => rthree_any 15 _ _ (by decide) (truthV_cases ⟨k, n, s⟩) (truthV_cases ⟨k', n', s'⟩) w
  have HR := Lib.hid hR
  clear hR
  obtain ⟨hq, _⟩ := bcell (al2 w (.cells #[.int .i64 0, .int .i64 0, .string ⟨#[]⟩] 31) (.cells #[.int .i64 0, .int .i64 0, .string ⟨#[]⟩] 31))
  obtain ⟨c0, c1, c2⟩ := hA
  obtain ⟨d0, d1, d2⟩ := hB
  have hbl : b < w.heap.size := World.block_lt_of_cell? w _ c0
  have hb2 : b < w.heap.size + 1 + 1 := by omega
  have hw2 : w.heap.size < w.heap.size + 1 + 1 := by omega
  have HB := Lib.hid (Below.refl ((w.alloc (.cells #[.int .i64 0, .int .i64 0, .string ⟨#[]⟩] 31)).alloc (.cells #[.int .i64 0, .int .i64 0, .string ⟨#[]⟩] 31)).heap.size ((w.alloc (.cells #[.int .i64 0, .int .i64 0, .string ⟨#[]⟩] 31)).alloc (.cells #[.int .i64 0, .int .i64 0, .string ⟨#[]⟩] 31)))
  go_enter Tryz.func69, Tryz.ntmps69
  go_wp2_with fail
  go_region_law (go_simp; first | (go_at_call 101; ((with_reducible refine (rtruth_any _ _ _ _).mono ?_); rintro e w1 ⟨rfl, hb1⟩; have HB := Lib.hid (show Below ((w.alloc (.cells #[.int .i64 0, .int .i64 0, .string ⟨#[]⟩] 31)).alloc (.cells #[.int .i64 0, .int .i64 0, .string ⟨#[]⟩] 31)).heap.size ((w.alloc (.cells #[.int .i64 0, .int .i64 0, .string ⟨#[]⟩] 31)).alloc (.cells #[.int .i64 0, .int .i64 0, .string ⟨#[]⟩] 31)) w1 by first | exact bt HB.out hb1 | exact bt HB.out.drew hb1 | exact bt HB.out.drew.drew hb1); obtain ⟨hc, hf⟩ := bcell HB.out)) | (go_at_call 100; ((with_reducible refine (HR.out _).mono ?_); rintro e w3 ⟨k1, m1, s1, hv, rfl, hb1⟩; have HB := Lib.hid (show Below ((w.alloc (.cells #[.int .i64 0, .int .i64 0, .string ⟨#[]⟩] 31)).alloc (.cells #[.int .i64 0, .int .i64 0, .string ⟨#[]⟩] 31)).heap.size ((w.alloc (.cells #[.int .i64 0, .int .i64 0, .string ⟨#[]⟩] 31)).alloc (.cells #[.int .i64 0, .int .i64 0, .string ⟨#[]⟩] 31)) w3 by first | exact bt HB.out hb1 | exact bt HB.out.drew hb1 | exact bt HB.out.drew.drew hb1); obtain ⟨hc, hf⟩ := bcell HB.out)))
  all_goals
    go_wp2_with fail
    refine bodyPost_ret (by simp [results, Tryz.results69, go_sem, hc, hw2]; rfl) rfl ?_
    exact GivesV.mk hv.out (bl3 (bt (al2 _ _ _) HB.out) (Nat.le_refl _))
theorem rapply_three (op : Int) (ho : op = 14 ∨ op = 15) (b off cap : Nat) (k n : Int) (s : ByteArray) (k' n' : Int) (s' : ByteArray) (w : World) (hA : At1 w b off k n s) (hB : At1 w b (off + 3) k' n' s') :
    Calls Tryz.prog 69 #[.int .i64 op, .slice (some ⟨b, off, none⟩) 2 cap] w (GivesV (threeV op (truthV ⟨k, n, s⟩) (truthV ⟨k', n', s'⟩)) w) := by
  rcases ho with rfl | rfl
  · exact rapply_three14 b off cap k n s k' n' s' w hA hB
  · exact rapply_three15 b off cap k n s k' n' s' w hA hB
end Go.Proofs.YtmikeifkmjhioaaGreatDoor
/- Apply of the reference: if, and the operators that give null for a null operand. -/
namespace Go.Proofs.YtmikeifkmjhioaaGreatDoor
open Go.RowKit Go.Proofs.EB
set_option maxHeartbeats 4000000
set_option maxRecDepth 100000
attribute [local go_sem] World.cell?_alloc_some
theorem AtV.below {w w' : World} {b off : Nat} {v : V} (h : AtV w b off v) (hb : Below w.heap.size w w') : AtV w' b off v := by
  have hl : b < w.heap.size := World.block_lt_of_cell? w _ h.1
  exact ⟨(hb.cell (p := ⟨b, off, none⟩) hl).trans h.1, (hb.cell (p := ⟨b, off + 1, none⟩) hl).trans h.2.1, (hb.cell (p := ⟨b, off + 2, none⟩) hl).trans h.2.2⟩
theorem rapply_if (b off cap : Nat) (k n : Int) (s : ByteArray) (k' n' : Int) (s' : ByteArray) (k2 n2 : Int) (s2 : ByteArray) (w : World) (hA : At1 w b off k n s) (hB : At1 w b (off + 3) k' n' s') (hC : At1 w b (off + 6) k2 n2 s2) :
    Calls Tryz.prog 69 #[.int .i64 18, .slice (some ⟨b, off, none⟩) 3 cap] w (GivesV (if truthV ⟨k, n, s⟩ = 1 then ⟨k', n', s'⟩ else ⟨k2, n2, s2⟩) w) := by
  have hT := fun w => rtruth_any k n s w
  generalize truthV ⟨k, n, s⟩ = t at *
  have HT := Lib.hid hT
  clear hT
  obtain ⟨c0, c1, c2⟩ := hA
  obtain ⟨d0, d1, d2⟩ := hB
  obtain ⟨e0, e1, e2⟩ := hC
  obtain ⟨hq, _⟩ := bcell (al2 w (.cells #[.int .i64 0, .int .i64 0, .string ⟨#[]⟩] 31) (.cells #[.int .i64 0, .int .i64 0, .string ⟨#[]⟩] 31))
  have hbl : b < w.heap.size := World.block_lt_of_cell? w _ c0
  have hb2 : b < w.heap.size + 1 + 1 := by omega
  have hw2 : w.heap.size < w.heap.size + 1 + 1 := by omega
  by_cases ht : t = 1
  · rw [if_pos ht]
    have y : (t == 1) = true := by simpa using ht
    clear ht
    go_enter Tryz.func69, Tryz.ntmps69
    go_wp2_with fail
    refine (HT.out _).mono ?_
    rintro e w1 ⟨rfl, hb1⟩
    obtain ⟨hc, hf⟩ := bcell hb1
    go_wp2_with fail
    refine bodyPost_ret (by simp [results, Tryz.results69, go_sem, hc, hw2]; rfl) rfl ?_
    exact GivesV.mk rfl (bl3 (bt (al2 _ _ _) hb1) (Nat.le_refl _))
  · rw [if_neg ht]
    have y : (t == 1) = false := by simpa using ht
    clear ht
    go_enter Tryz.func69, Tryz.ntmps69
    go_wp2_with fail
    refine (HT.out _).mono ?_
    rintro e w1 ⟨rfl, hb1⟩
    obtain ⟨hc, hf⟩ := bcell hb1
    go_wp2_with fail
    refine bodyPost_ret (by simp [results, Tryz.results69, go_sem, hc, hw2]; rfl) rfl ?_
    exact GivesV.mk rfl (bl3 (bt (al2 _ _ _) hb1) (Nat.le_refl _))
theorem rapply_s1 (op : Int) (b off cap : Nat) (v : V) (w : World) (hA : AtV w b off v) (hv : Small v) (ho : op = 3 ∨ op = 13 ∨ op = 9) :
    Calls Tryz.prog 69 #[.int .i64 op, .slice (some ⟨b, off, none⟩) 1 cap] w (GivesV (if nullB v = true then V.zero else strictV cmpV op [v]) w) := by
  obtain ⟨k, n, s⟩ := v
  have hS := fun w hA => rstrict1_any op b off cap ⟨k, n, s⟩ w hA hv ho
  have y14 : (op == 14) = false := by rcases ho with rfl | rfl | rfl <;> rfl
  have y15 : (op == 15) = false := by rcases ho with rfl | rfl | rfl <;> rfl
  have y16 : (op == 16) = false := by rcases ho with rfl | rfl | rfl <;> rfl
  have y17 : (op == 17) = false := by rcases ho with rfl | rfl | rfl <;> rfl
  have y18 : (op == 18) = false := by rcases ho with rfl | rfl | rfl <;> rfl
  have heq := fun w => eqlV k n 0 0 s ⟨#[]⟩ w
  have hz : (k == 0 && (n == 0 && s.toList.isEmpty)) = nullB ⟨k, n, s⟩ := by simp [nullB, zeroB, Bool.and_assoc]
  rw [← hz]
  generalize strictV cmpV op [⟨k, n, s⟩] = r at *
  have HS := Lib.hid hS
  have HA := Lib.hid hA
  clear hS hv ho hz
  obtain ⟨c0, c1, c2⟩ := hA
  simp only at c0 c1 c2
  obtain ⟨hq, _⟩ := bcell (al2 w (.cells #[.int .i64 0, .int .i64 0, .string ⟨#[]⟩] 31) (.cells #[.int .i64 0, .int .i64 0, .string ⟨#[]⟩] 31))
  have hbl : b < w.heap.size := World.block_lt_of_cell? w _ c0
  have hb2 : b < w.heap.size + 1 + 1 := by omega
  have hw2 : w.heap.size < w.heap.size + 1 + 1 := by omega
  cases hn : (k == 0 && (n == 0 && s.toList.isEmpty))
  · go_enter Tryz.func69, Tryz.ntmps69
    go_wp2_with fail
    refine wp_loop_rounds 2 ?_
    rw [rounds_succ]
    go_wp2_with fail
    go_region
    go_wp2_with fail
    rw [rounds_succ]
    go_wp2_with fail
    refine (HS.out _ (HA.out.below (al2 _ _ _).drew)).mono ?_
    rintro e w1 ⟨k1, m1, s1, hv, rfl, hb1⟩
    obtain ⟨hc, hf⟩ := bcell hb1
    go_wp2_with fail
    refine bodyPost_ret (by simp [results, Tryz.results69, go_sem, hc, hw2]; rfl) rfl ?_
    exact GivesV.mk hv.out (bl3 (bt (al2 _ _ _).drew hb1) (Nat.le_refl _))
  · go_enter Tryz.func69, Tryz.ntmps69
    go_wp2_with fail
    refine wp_loop_rounds 2 ?_
    rw [rounds_succ]
    go_wp2_with fail
    go_region
    go_wp2_with fail
    refine bodyPost_ret (by simp [results, Tryz.results69, go_sem]; rfl) rfl ?_
    exact GivesV.mk rfl (al2 _ _ _).drew
theorem rapply_s2 (op : Int) (b off cap : Nat) (u v : V) (w : World) (hA : AtV w b off u) (hB : AtV w b (off + 3) v) (hu : Small u) (hv : Small v) (ho : op = 4 ∨ op = 5 ∨ op = 6 ∨ op = 7 ∨ op = 8 ∨ op = 10 ∨ op = 11 ∨ op = 12) :
    Calls Tryz.prog 69 #[.int .i64 op, .slice (some ⟨b, off, none⟩) 2 cap] w (GivesV (if nullB u = true ∨ nullB v = true then V.zero else strictV cmpV op [u, v]) w) := by
  obtain ⟨k, n, s⟩ := u
  obtain ⟨k', n', s'⟩ := v
  have hS := fun w hA hB => rstrict2_any op b off cap ⟨k, n, s⟩ ⟨k', n', s'⟩ w hA hB hu hv ho
  have y14 : (op == 14) = false := by rcases ho with rfl | rfl | rfl | rfl | rfl | rfl | rfl | rfl <;> rfl
  have y15 : (op == 15) = false := by rcases ho with rfl | rfl | rfl | rfl | rfl | rfl | rfl | rfl <;> rfl
  have y16 : (op == 16) = false := by rcases ho with rfl | rfl | rfl | rfl | rfl | rfl | rfl | rfl <;> rfl
  have y17 : (op == 17) = false := by rcases ho with rfl | rfl | rfl | rfl | rfl | rfl | rfl | rfl <;> rfl
  have y18 : (op == 18) = false := by rcases ho with rfl | rfl | rfl | rfl | rfl | rfl | rfl | rfl <;> rfl
  have heq := fun w => eqlV k n 0 0 s ⟨#[]⟩ w
  have heq' := fun w => eqlV k' n' 0 0 s' ⟨#[]⟩ w
  have hz : (k == 0 && (n == 0 && s.toList.isEmpty)) = nullB ⟨k, n, s⟩ := by simp [nullB, zeroB, Bool.and_assoc]
  have hz' : (k' == 0 && (n' == 0 && s'.toList.isEmpty)) = nullB ⟨k', n', s'⟩ := by simp [nullB, zeroB, Bool.and_assoc]
  rw [← hz, ← hz']
  generalize strictV cmpV op [⟨k, n, s⟩, ⟨k', n', s'⟩] = r at *
  have HS := Lib.hid hS
  have HA := Lib.hid hA
  have HB := Lib.hid hB
  clear hS hu hv ho hz hz'
  obtain ⟨c0, c1, c2⟩ := hA
  obtain ⟨d0, d1, d2⟩ := hB
  simp only at c0 c1 c2 d0 d1 d2
  obtain ⟨hq, _⟩ := bcell (al2 w (.cells #[.int .i64 0, .int .i64 0, .string ⟨#[]⟩] 31) (.cells #[.int .i64 0, .int .i64 0, .string ⟨#[]⟩] 31))
  have hbl : b < w.heap.size := World.block_lt_of_cell? w _ c0
  have hb2 : b < w.heap.size + 1 + 1 := by omega
  have hw2 : w.heap.size < w.heap.size + 1 + 1 := by omega
  cases hn : (k == 0 && (n == 0 && s.toList.isEmpty))
  · cases hn' : (k' == 0 && (n' == 0 && s'.toList.isEmpty))
    · go_enter Tryz.func69, Tryz.ntmps69
      go_wp2_with fail
      refine wp_loop_rounds 3 ?_
      rw [rounds_succ]
      go_wp2_with fail
      go_region
      go_wp2_with fail
      rw [rounds_succ]
      go_wp2_with fail
      go_region
      go_wp2_with fail
      rw [rounds_succ]
      go_wp2_with fail
      refine (HS.out _ (HA.out.below (al2 _ _ _).drew.drew) (HB.out.below (al2 _ _ _).drew.drew)).mono ?_
      rintro e w1 ⟨k1, m1, s1, hv, rfl, hb1⟩
      obtain ⟨hc, hf⟩ := bcell hb1
      go_wp2_with fail
      refine bodyPost_ret (by simp [results, Tryz.results69, go_sem, hc, hw2]; rfl) rfl ?_
      exact GivesV.mk hv.out (bl3 (bt (al2 _ _ _).drew.drew hb1) (Nat.le_refl _))
    · go_enter Tryz.func69, Tryz.ntmps69
      go_wp2_with fail
      refine wp_loop_rounds 3 ?_
      rw [rounds_succ]
      go_wp2_with fail
      go_region
      go_wp2_with fail
      rw [rounds_succ]
      go_wp2_with fail
      go_region
      go_wp2_with fail
      refine bodyPost_ret (by simp [results, Tryz.results69, go_sem]; rfl) rfl ?_
      exact GivesV.mk rfl (al2 _ _ _).drew.drew
  · rw [if_pos (.inl rfl)]
    go_enter Tryz.func69, Tryz.ntmps69
    go_wp2_with fail
    refine wp_loop_rounds 3 ?_
    rw [rounds_succ]
    go_wp2_with fail
    go_region
    go_wp2_with fail
    refine bodyPost_ret (by simp [results, Tryz.results69, go_sem]; rfl) rfl ?_
    exact GivesV.mk rfl (al2 _ _ _).drew
end Go.Proofs.YtmikeifkmjhioaaGreatDoor
/- Apply of the reference for any operands; eval, Eval and Holds of the reference. -/
namespace Go.Proofs.YtmikeifkmjhioaaGreatDoor
open Go.RowKit Go.Proofs.EB
set_option maxHeartbeats 4000000
set_option maxRecDepth 100000
attribute [local go_sem] World.cell?_alloc_some
theorem small_of {v : V} (h : vB v = true) : Small v := by
  obtain ⟨k, n, s⟩ := v
  refine ⟨?_, ?_⟩
  · rintro hk
    simp only at hk
    subst hk
    exact (valid_int h).1
  · show s.size ≤ _
    rcases valid_kind h with rfl | rfl | rfl
    · rw [(valid_null h).2]; simp [ByteArray.size]
    · rw [(valid_int h).2]; simp [ByteArray.size]
    · have := (valid_text h).2; omega
theorem RAt.atV {w : World} {B b off : Nat} {l : List V} (h : RAt encVal 3 w B (some ⟨b, off, none⟩) l) {i : Nat} (hi : i < l.length) : AtV w b (off + i * 3) l[i] := RAt.val h hi
theorem rapply_any (op : Int) (ao : Option Addr) (cap : Nat) (vs : List V) (hl : arityI op = vs.length) (h0 : 0 < vs.length) (hv : ∀ v ∈ vs, vB v = true) (w : World) (hR : RAt encVal 3 w w.heap.size ao vs) :
    Calls Tryz.prog 69 #[.int .i64 op, .slice ao vs.length cap] w (GivesV (appV cmpV op vs) w) := by
  obtain ⟨b, off, rfl, _⟩ := hR.form h0
  have h3 := arity_cases op
  rcases vs with _ | ⟨u, _ | ⟨v, _ | ⟨x, _ | ⟨y, l⟩⟩⟩⟩
  · simp at h0
  · have hA := RAt.atV hR (i := 0) (by simp)
    have hu := hv u (by simp)
    simp only [Nat.zero_mul, Nat.add_zero, List.getElem_cons_zero] at hA
    have ho : op = 3 ∨ op = 9 ∨ op = 13 ∨ op = 16 := by
      simp only [List.length_cons, List.length_nil] at hl
      unfold arityI at hl
      by_cases h : op = 3 ∨ op = 9 ∨ op = 13 ∨ op = 16
      · exact h
      · rw [if_neg h] at hl
        repeat' split at hl
        all_goals omega
    by_cases h16 : op = 16
    · subst h16
      have := rapply_isnull b off cap u.k u.n u.s w hA
      simpa [appV] using this
    · have := rapply_s1 op b off cap u w hA (small_of hu) (by omega)
      simpa [appV, h16] using this
  · have hA := RAt.atV hR (i := 0) (by simp)
    have hB := RAt.atV hR (i := 1) (by simp)
    have hu := hv u (by simp)
    have hv' := hv v (by simp)
    simp only [Nat.zero_mul, Nat.add_zero, Nat.one_mul, List.getElem_cons_zero, List.getElem_cons_succ] at hA hB
    have ho : op = 4 ∨ op = 5 ∨ op = 6 ∨ op = 7 ∨ op = 8 ∨ op = 10 ∨ op = 11 ∨ op = 12 ∨ op = 14 ∨ op = 15 ∨ op = 17 := by
      have hin := arity_in (op := op) (by rw [hl]; simp)
      simp only [List.length_cons, List.length_nil] at hl
      unfold arityI at hl
      by_cases h1 : op = 1 ∨ op = 2
      · rw [if_pos h1] at hl; omega
      · rw [if_neg h1] at hl
        by_cases h2 : op = 3 ∨ op = 9 ∨ op = 13 ∨ op = 16
        · rw [if_pos h2] at hl; omega
        · rw [if_neg h2] at hl
          by_cases h4 : op = 18
          · rw [if_pos h4] at hl; omega
          · omega
    by_cases h1 : op = 14 ∨ op = 15
    · have := rapply_three op h1 b off cap u.k u.n u.s v.k v.n v.s w hA hB
      simpa [appV, h1] using this
    · by_cases h17 : op = 17
      · subst h17
        have := rapply_coal b off cap u.k u.n u.s v.k v.n v.s w hA hB
        simpa [appV] using this
      · have := rapply_s2 op b off cap u v w hA hB (small_of hu) (small_of hv') (by omega)
        simpa [appV, h1, h17] using this
  · have hA := RAt.atV hR (i := 0) (by simp)
    have hB := RAt.atV hR (i := 1) (by simp)
    have hC := RAt.atV hR (i := 2) (by simp)
    simp only [Nat.zero_mul, Nat.add_zero, Nat.one_mul, List.getElem_cons_zero, List.getElem_cons_succ] at hA hB hC
    have ho : op = 18 := by
      simp only [List.length_cons, List.length_nil] at hl
      unfold arityI at hl
      repeat' split at hl
      all_goals omega
    subst ho
    have := rapply_if b off cap u.k u.n u.s v.k v.n v.s x.k x.n x.s w hA hB hC
    simpa [appV] using this
  · simp only [List.length_cons] at hl; omega
/-- The row that eval is handed. -/
structure RowOk (w : World) (ro : Option Addr) (row : List V) : Prop where
  at_ : RAt encVal 3 w w.heap.size ro row
  small : ∀ v ∈ row, v.s.size ≤ maxLen
  len : row.length ≤ maxLen
theorem RowOk.later {w w' : World} {ro : Option Addr} {row : List V} (h : RowOk w ro row) (hb : Below w.heap.size w w') : RowOk w' ro row := ⟨h.at_.later hb, h.small, h.len⟩
end Go.Proofs.YtmikeifkmjhioaaGreatDoor
/- foldOperator and the function of Fold of package expr. -/
namespace Go.Proofs.YtmikeifkmjhioaaGreatDoor
open Go.RowKit Go.Proofs.EB
set_option maxHeartbeats 4000000
set_option maxRecDepth 100000
attribute [local go_sem] World.cell?_alloc_some
theorem isNotConstant_any (o k n c : Int) (s : ByteArray) (w : World) : Calls Tryz.prog 67 #[.agg #[.int .i64 o, .int .i64 k, .int .i64 n, .string s, .int .i64 c]] w (Gives (.bool (o != 1)) w) := by
  have hb1 : Below w.heap.size w (w.alloc (.cells #[.int .i64 o, .int .i64 k, .int .i64 n, .string s, .int .i64 c] 48)) := (Below.refl _ _).alloc (Nat.le_refl _) _
  go_enter Tryz.func67, Tryz.ntmps67
  go_wp2_with fail
  go_ret
  exact ⟨rfl, hb1⟩
/-- Not a constant. -/
def notC (t : Tm) : Bool := t.op != 1
def IdxC (l : List Tm) (w : World) (e : Ending) (w' : World) : Prop := ∃ z : Int, Hid ((0 ≤ z) ↔ ∃ t ∈ l, notC t = true) ∧ e = .returned (.int .i64 z) ∧ Below w.heap.size w w'
theorem idxC_any (ao : Option Addr) (cap : Nat) (l : List Tm) (hl : l.length ≤ maxLen) (w : World) (hT : TmsAt w w.heap.size ao l) :
    Calls Tryz.prog 99 #[.slice ao l.length cap, .func (.func 67) #[] #[]] w (IdxC l w) := by
  unfold maxLen at hl
  have HI := Lib.hid hT
  clear hT
  go_enter Tryz.func99, Tryz.ntmps99
  go_wp2_with fail
  go_loopw [8] (fun i wr => ∃ k : Nat, k ≤ l.length ∧ i = .int .i64 k ∧ Hid (Below w.heap.size w wr ∧ ∀ j (h : j < l.length), j < k → notC l[j] = false)) (fun i _ => l.length - (intOf i).toNat)
  case atStart => exact ⟨0, Nat.zero_le _, rfl, Below.refl _ _, fun j _ h => absurd h (by omega)⟩
  case round =>
    obtain ⟨k, hk, rfl, hX⟩ := hrel
    by_cases hlt : k < l.length
    · obtain ⟨b, off, rfl, _⟩ := HI.out.form (by omega)
      obtain ⟨c0, c1, c2, c3, c4⟩ := RAt.tm (HI.out.later hX.out.1) hlt
      have hmem := Lib.hid (List.getElem_mem hlt)
      have Hj := Lib.hid (show ∀ j (h : j < l.length), j = k → notC l[j] = notC l[k] from fun j h e => by subst e; rfl)
      have hN := fun w => isNotConstant_any l[k].op l[k].v.k l[k].v.n l[k].c l[k].v.s w
      obtain ⟨v, hv⟩ : ∃ v, v = (l[k].op != 1) := ⟨_, rfl⟩
      rw [show notC l[k] = v from hv.symm] at Hj
      rw [← hv] at hN
      have Hv := Lib.hid (show notC l[k] = v from hv.symm)
      have HN := Lib.hid hN
      have hlt2 : k + 1 ≤ l.length := hlt
      clear hN hv
      generalize l[k] = s at *
      have hbl : b < wr.heap.size := World.block_lt_of_cell? wr _ c0
      cases v
      · go_wp2_with fail
        refine (HN.out _).mono ?_
        rintro e w1 ⟨rfl, hb⟩
        have HB := Lib.hid (bt hX.out.1 hb)
        clear hb
        go_wp2_with fail
        go_roundw
        case rel =>
          refine ⟨k + 1, hlt2, by go_num, HB.out, fun j hj hjk => ?_⟩
          by_cases hje : j < k
          · exact hX.out.2 j hj hje
          · exact (Hj.out j hj (by omega)).trans rfl
        case measure => simp [intOf]; omega
      · go_wp2_with fail
        refine (HN.out _).mono ?_
        rintro e w1 ⟨rfl, hb⟩
        have HB := Lib.hid (bt hX.out.1 hb)
        clear hb
        go_wp2_with fail
        go_ret
        exact ⟨k, ⟨fun _ => ⟨s, hmem.out, Hv.out⟩, fun _ => by omega⟩, rfl, HB.out⟩
    · have hkk : k = l.length := by omega
      go_wp2_with fail
      go_ret
      refine ⟨-1, ⟨fun h => by omega, ?_⟩, rfl, hX.out.1⟩
      rintro ⟨s, hs, hv⟩
      obtain ⟨j, hj, rfl⟩ := List.mem_iff_getElem.1 hs
      have := hX.out.2 j hj (by omega)
      rw [hv] at this; cases this
theorem anyC_any (ao : Option Addr) (cap : Nat) (l : List Tm) (hl : l.length ≤ maxLen) (w : World) (hT : TmsAt w w.heap.size ao l) :
    Calls Tryz.prog 66 #[.slice ao l.length cap, .func (.func 67) #[] #[]] w (Gives (.bool (l.any notC)) w) := by
  have HX := Lib.hid (idxC_any ao cap l hl w hT)
  clear hT
  go_enter Tryz.func66, Tryz.ntmps66
  go_wp2_with fail
  refine HX.out.mono ?_
  rintro e w1 ⟨z, hz, rfl, hb⟩
  have hzb : Hid (decide (0 ≤ z) = l.any notC) := by
    unfold Hid
    rw [Bool.eq_iff_iff, decide_eq_true_eq, hz.out, List.any_eq_true]
  go_wp2_with fail
  go_ret
  exact ⟨ret_b hzb.out, hb⟩
/-- Folding at an operator, plain. -/
theorem flats_const {ys : List Ex} (hok : oks ys) : (flats ys).any notC = false ↔ ∀ a ∈ ys, a.head.op = 1 := by
  induction ys with
  | nil => simp [flats]
  | cons a ys ih =>
    have ha := hok a (by simp)
    have ih' := ih (fun b hb => hok b (by simp [hb]))
    simp only [flats, List.any_append, Bool.or_eq_false_iff, ih', List.mem_cons, forall_eq_or_imp]
    refine and_congr ?_ Iff.rfl
    rw [Ex.flat_eq]
    constructor
    · intro h
      simp only [List.any_cons, Bool.or_eq_false_iff] at h
      simpa [notC] using h.1
    · intro h
      rw [(ok_const ha h).1]
      simp [flats, notC, h]
theorem foldOp_no {t : Tm} {ys : List Ex} (hok : oks ys) (h : (flats ys).any notC = true) : foldN cmpV t ys = Ex.node t ys := by
  unfold foldN
  rw [if_neg]
  rintro ⟨_, h2, _⟩
  rw [(flats_const hok).2 h2] at h
  cases h
theorem foldOp_yes {t : Tm} {ys : List Ex} (hy : (Ex.node t ys).ok) (hl : ys.length ≤ 3) (h : (flats ys).any notC = false) (v : V) (hv : (Ex.node t ys).fold (evT cmpV []) = v) : (v.k = 0 → foldN cmpV t ys = Ex.node t ys) ∧ (v.k ≠ 0 → (foldN cmpV t ys).flat = [⟨1, v, 0⟩]) := by
  obtain ⟨h1, h2, h3⟩ := (Ex.ok_iff _).1 hy
  rw [node_head] at h1 h2
  rw [node_args _ _ hl] at h2 h3
  have hc := (flats_const h3).1 h
  rw [Ex.fold_eq, node_head, node_args _ _ hl] at hv
  have hvs : ys.map (Ex.fold (evT cmpV [])) = ys.map (fun a => a.head.v) := List.map_congr_left fun a ha => by
    rw [fold_const _ (h3 a ha) (hc a ha)]
    unfold evT; rw [if_pos (hc a ha)]
  rw [hvs] at hv
  by_cases h0 : ys = []
  · subst h0
    have hn : foldN cmpV t [] = Ex.node t [] := by unfold foldN; rw [if_neg (by simp)]
    refine ⟨fun _ => hn, fun hk => ?_⟩
    rw [hn]
    show [t] = _
    have ht := arity0 (by rw [h2]; rfl)
    rcases ht with ht | ht
    · have e1 : v = t.v := by rw [← hv]; unfold evT; rw [if_pos ht]
      have hc0 := (ok_const hy (by rw [node_head]; exact ht)).2.2.2
      rw [node_head] at hc0
      obtain ⟨o, tv, c⟩ := t
      simp only at ht hc0 e1
      subst ht hc0 e1
      rfl
    · exfalso
      apply hk
      rw [← hv]; unfold evT
      rw [if_neg (by omega), if_pos ht]
      simp [colV, V.zero]
  · have hne : t.op ≠ 1 ∧ t.op ≠ 2 := arity_ne (by rw [h2]; intro hz; exact h0 (List.eq_nil_of_length_eq_zero (by omega)))
    have e1 : appV cmpV t.op (ys.map fun a => a.head.v) = v := by rw [← hv]; unfold evT; rw [if_neg hne.1, if_neg hne.2]
    unfold foldN
    rw [e1]
    refine ⟨fun hk => by rw [if_neg (fun hh => hh.2.2 hk)], fun hk => ?_⟩
    rw [if_pos ⟨h0, hc, hk⟩]
    rfl
/-- A row of terms comes back. -/
def GaveF (B : Nat) (w : World) (y : Ex) (e : Ending) (w' : World) : Prop := ∃ so sc L, Hid (L = y.flat ∧ ∀ t ∈ L, t.okT) ∧ e = .returned (.slice so L.length sc) ∧ TmsAt w' w'.heap.size so L ∧ (so = none → sc = 0) ∧ L.length ≤ sc ∧ Hid (∀ b o, so = some ⟨b, o, none⟩ → B ≤ b) ∧ Below w.heap.size w w'
theorem vB_okV {v : V} (h : vB v = true) : v.ok := by
  obtain ⟨k, n, s⟩ := v
  have hs := vB_size h
  unfold vB validB at h
  by_cases h0 : k = 0
  · subst h0
    simp only [if_true] at h
    refine ⟨⟨by simp, by simp⟩, ?_, hs⟩
    simp at h
    rw [h.1]; exact ⟨by simp, by simp⟩
  · rw [if_neg h0] at h
    by_cases h1 : k = 1
    · subst h1
      simp at h
      exact ⟨⟨by simp, by simp⟩, ⟨by simp only; omega, by simp only; omega⟩, hs⟩
    · rw [if_neg h1] at h
      by_cases h2 : k = 2
      · subst h2
        simp at h
        refine ⟨⟨by simp, by simp⟩, ?_, hs⟩
        rw [h.1]; exact ⟨by simp, by simp⟩
      · rw [if_neg h2] at h; cases h
theorem foldOp_any (B b off cap : Nat) (hBb : B ≤ b) (L : List Tm) (t : Tm) (ys : List Ex) (hL : L = (Ex.node t ys).flat) (hy : (Ex.node t ys).ok) (hl3 : ys.length ≤ 3) (hd : (Ex.node t ys).depth ≤ 16) (h64 : L.length ≤ 64) (hcap : L.length ≤ cap) (hok : ∀ t ∈ L, t.okT) (w : World) (hBw : B ≤ w.heap.size) (hO : Ops w) (hT : TmsAt w w.heap.size (some ⟨b, off, none⟩) L) :
    Calls Tryz.prog 39 #[.slice (some ⟨b, off, none⟩) L.length cap] w (GaveF B w (foldN cmpV t ys)) := by
  have hflat : L = t :: flats ys := by rw [hL, Ex.flat_eq, node_head, node_args _ _ hl3]
  have hys : oks ys := by have := ((Ex.ok_iff _).1 hy).2.2; rw [node_args _ _ hl3] at this; exact this
  have hvalid : validL L = true := validL_iff.2 ⟨_, ⟨by rw [hL]; simp, hy⟩, hd, h64⟩
  have hE := fun W (hW : Below w.heap.size w W) => exEval_any (some ⟨b, off, none⟩) none cap 0 L [] (by unfold maxLen; omega) hok (by simp) (by simp) W (hO.below hW) (hT.later hW) .nil
  have htree : evalL cmpV L [] = (Ex.node t ys).fold (evT cmpV []) := by
    rw [evalL_tree [] (treeL_of ⟨by rw [hL]; simp, hy⟩ hd h64), evalX_fold _ _ _ hy]
  have hrest := RAt.drop hT 1
  rw [show L.drop 1 = flats ys by rw [hflat]; rfl] at hrest
  obtain ⟨M, hM⟩ : ∃ M, M = (flats ys).length := ⟨_, rfl⟩
  have hLM : L.length = M + 1 := by rw [hflat, List.length_cons, hM]
  have HD := Lib.hid (show _ ∧ _ ∧ _ from ⟨hL, hok, hT⟩)
  have hC1 := anyC_any (some ⟨b, off + 1 * 5, none⟩) (cap - 1) (flats ys) (by unfold maxLen; omega) w hrest
  have hC2 : M = 0 → Calls Tryz.prog 66 #[.slice (some ⟨b, off, none⟩) (flats ys).length (cap - 1), .func (.func 67) #[] #[]] w (Gives (.bool ((flats ys).any notC)) w) := fun h0 => anyC_any (some ⟨b, off, none⟩) (cap - 1) (flats ys) (by unfold maxLen; omega) w (.inl (List.eq_nil_of_length_eq_zero (by omega)))
  rw [← hM] at hC1 hC2
  have hno := foldOp_no (t := t) hys
  have hyes := fun h => foldOp_yes (t := t) hy hl3 h (evalL cmpV L []) htree.symm
  obtain ⟨ab, hab⟩ : ∃ ab, ab = (flats ys).any notC := ⟨_, rfl⟩
  rw [← hab] at hC1 hC2 hno hyes
  rw [hLM] at hE hcap h64 ⊢
  have HE := Lib.hid hE
  have HC1 := Lib.hid hC1
  have HC2 := Lib.hid hC2
  have Hno := Lib.hid hno
  have Hyes := Lib.hid hyes
  have HLM := Lib.hid hLM
  have hvv := Lib.hid (evalL_valid cmpV L [])
  clear hE hC1 hC2 hno hyes hab hM hrest htree hvalid hys hflat hL hok hT hO hLM
  have hM1 : (1 : Int) ≤ (M : Int) + 1 := by omega
  have hfin : ∀ W, Below w.heap.size w W → foldN cmpV t ys = Ex.node t ys → GaveF B w (foldN cmpV t ys) (.returned (.slice (some ⟨b, off, none⟩) (M + 1) cap)) W := fun W hW he => ⟨_, cap, L, by rw [he]; exact ⟨HD.out.1, HD.out.2.1⟩, by rw [HLM.out], HD.out.2.2.later hW, by simp, by rw [HLM.out]; exact hcap, (fun b' o' h => by simp only [Option.some.injEq, Addr.mk.injEq] at h; omega), hW⟩
  have Hfin := Lib.hid hfin
  clear hfin
  rcases (show cap = 1 ∨ ¬ cap = 1 by omega) with rfl | hcp
  · have h0 : M = 0 := by omega
    have hc2 := HC2.out h0
    subst h0
    have Hc2 := Lib.hid hc2
    clear hc2 HC1 HC2
    cases ab
    · go_enter Tryz.func39, Tryz.ntmps39
      go_wp2_with fail
      refine Hc2.out.mono ?_
      rintro e w1 ⟨rfl, hb⟩
      have HB := Lib.hid hb
      clear hb
      go_wp2_with fail
      refine (HE.out _ HB.out).mono ?_
      rintro e w2 ⟨k, n, s, hv, rfl, hb⟩
      replace HB := Lib.hid (bt HB.out hb)
      clear hb
      go_wp2_with fail
      refine (isNull_any k n s _).mono ?_
      rintro e w3 ⟨rfl, hb⟩
      obtain ⟨e0, e1, e2, _, _, _⟩ := box3 ((hb.block _ (by simp)).trans (heap_alloc_new w2 (.cells #[.int .i64 k, .int .i64 n, .string s] 31)))
      replace HB := Lib.hid (bt HB.out (bt (al1 _ _) hb))
      clear hb
      by_cases hk : k = 0
      · have yk : (k == 0) = true := by simpa using hk
        have Hk := Lib.hid hk
        clear hk
        go_wp2_with fail
        go_ret
        exact Hfin.out _ HB.out ((Hyes.out (by first | rfl | trivial)).1 (by rw [hv.out]; exact Hk.out))
      · have yk : (k == 0) = false := by simpa using hk
        have Hk := Lib.hid hk
        clear hk
        go_wp2_with fail
        go_ret
        have hvo := hvv.out
        rw [hv.out] at hvo
        refine ⟨some ⟨w3.heap.size, 0, none⟩, 1, [⟨1, ⟨k, n, s⟩, 0⟩], ⟨?_, ?_⟩, rfl, rAt_block encTm_len (heap_alloc_new _ _) rfl, by simp, by simp, (fun b' o' h => by simp only [Option.some.injEq, Addr.mk.injEq] at h; have := HB.out.size; omega), bt HB.out (al1 _ _)⟩
        · have := (Hyes.out (by first | rfl | trivial)).2 (by rw [hv.out]; exact Hk.out)
          rw [this, hv.out]
        · intro y hy
          rw [List.mem_singleton.1 hy]
          exact ⟨⟨by simp, by simp⟩, vB_okV hvo, ⟨by simp, by simp⟩⟩
    · go_enter Tryz.func39, Tryz.ntmps39
      go_wp2_with fail
      refine Hc2.out.mono ?_
      rintro e w1 ⟨rfl, hb⟩
      go_wp2_with fail
      go_ret
      exact Hfin.out _ hb (Hno.out (by first | rfl | trivial))
  · cases ab
    · go_enter Tryz.func39, Tryz.ntmps39
      go_wp2_with fail
      refine HC1.out.mono ?_
      rintro e w1 ⟨rfl, hb⟩
      have HB := Lib.hid hb
      clear hb
      go_wp2_with fail
      refine (HE.out _ HB.out).mono ?_
      rintro e w2 ⟨k, n, s, hv, rfl, hb⟩
      replace HB := Lib.hid (bt HB.out hb)
      clear hb
      go_wp2_with fail
      refine (isNull_any k n s _).mono ?_
      rintro e w3 ⟨rfl, hb⟩
      obtain ⟨e0, e1, e2, _, _, _⟩ := box3 ((hb.block _ (by simp)).trans (heap_alloc_new w2 (.cells #[.int .i64 k, .int .i64 n, .string s] 31)))
      replace HB := Lib.hid (bt HB.out (bt (al1 _ _) hb))
      clear hb
      by_cases hk : k = 0
      · have yk : (k == 0) = true := by simpa using hk
        have Hk := Lib.hid hk
        clear hk
        go_wp2_with fail
        go_ret
        exact Hfin.out _ HB.out ((Hyes.out (by first | rfl | trivial)).1 (by rw [hv.out]; exact Hk.out))
      · have yk : (k == 0) = false := by simpa using hk
        have Hk := Lib.hid hk
        clear hk
        go_wp2_with fail
        go_ret
        have hvo := hvv.out
        rw [hv.out] at hvo
        refine ⟨some ⟨w3.heap.size, 0, none⟩, 1, [⟨1, ⟨k, n, s⟩, 0⟩], ⟨?_, ?_⟩, rfl, rAt_block encTm_len (heap_alloc_new _ _) rfl, by simp, by simp, (fun b' o' h => by simp only [Option.some.injEq, Addr.mk.injEq] at h; have := HB.out.size; omega), bt HB.out (al1 _ _)⟩
        · have := (Hyes.out (by first | rfl | trivial)).2 (by rw [hv.out]; exact Hk.out)
          rw [this, hv.out]
        · intro y hy
          rw [List.mem_singleton.1 hy]
          exact ⟨⟨by simp, by simp⟩, vB_okV hvo, ⟨by simp, by simp⟩⟩
    · go_enter Tryz.func39, Tryz.ntmps39
      go_wp2_with fail
      refine HC1.out.mono ?_
      rintro e w1 ⟨rfl, hb⟩
      go_wp2_with fail
      go_ret
      exact Hfin.out _ hb (Hno.out (by first | rfl | trivial))
end Go.Proofs.YtmikeifkmjhioaaGreatDoor
/- The function of Fold, reduce at it, Fold of package expr. -/
namespace Go.Proofs.YtmikeifkmjhioaaGreatDoor
open Go.RowKit Go.Proofs.EB
set_option maxHeartbeats 4000000
set_option maxRecDepth 100000
attribute [local go_sem] World.cell?_alloc_some
theorem ixS0 (a b c : Option Addr) (k l m p q r : Nat) (w : World) : (Instr.index 65 (.agg #[.slice a k p, .slice b l q, .slice c m r]) (.int .i64 0)).run Tryz.prog w = .ok (.slice a k p) w := by
  have u1 := Tryz.underlying65
  have u2 := Tryz.isAgg23
  have u3 := Tryz.sizeOf23
  unfold Instr.index
  go_simp
theorem ixS1 (a b c : Option Addr) (k l m p q r : Nat) (w : World) : (Instr.index 65 (.agg #[.slice a k p, .slice b l q, .slice c m r]) (.int .i64 1)).run Tryz.prog w = .ok (.slice b l q) w := by
  have u1 := Tryz.underlying65
  have u2 := Tryz.isAgg23
  have u3 := Tryz.sizeOf23
  unfold Instr.index
  go_simp
theorem ixS2 (a b c : Option Addr) (k l m p q r : Nat) (w : World) : (Instr.index 65 (.agg #[.slice a k p, .slice b l q, .slice c m r]) (.int .i64 2)).run Tryz.prog w = .ok (.slice c m r) w := by
  have u1 := Tryz.underlying65
  have u2 := Tryz.isAgg23
  have u3 := Tryz.sizeOf23
  unfold Instr.index
  go_simp
attribute [local go_sem] ixS0 ixS1 ixS2
theorem foldC_any (o k n c : Int) (s : ByteArray) (ys : List Ex) (L0 L1 L2 : List Tm) (a0 a1 a2 : Option Addr) (p0 p1 p2 : Nat) (w : World) (hO : Ops w) (hy : (Ex.node ⟨o, ⟨k, n, s⟩, c⟩ ys).ok) (hl3 : ys.length ≤ 3) (hd : (Ex.node ⟨o, ⟨k, n, s⟩, c⟩ ys).depth ≤ 16) (hLL : L0 ++ L1 ++ L2 = flats ys) (h64 : 1 + L0.length + L1.length + L2.length ≤ 64) (hok : ∀ t ∈ (⟨o, ⟨k, n, s⟩, c⟩ : Tm) :: (L0 ++ L1 ++ L2), t.okT)
    (hT0 : TmsAt w w.heap.size a0 L0) (hT1 : TmsAt w w.heap.size a1 L1) (hT2 : TmsAt w w.heap.size a2 L2) (hn0 : a0 = none → p0 = 0) (hn1 : a1 = none → p1 = 0) (hn2 : a2 = none → p2 = 0) :
    Calls Tryz.prog 38 #[.agg #[.int .i64 o, .int .i64 k, .int .i64 n, .string s, .int .i64 c], .agg #[.slice a0 L0.length p0, .slice a1 L1.length p1, .slice a2 L2.length p2]] w (GaveF w.heap.size w (foldN cmpV ⟨o, ⟨k, n, s⟩, c⟩ ys)) := by
  have hb0 := al2 w (.cells #[.int .i64 o, .int .i64 k, .int .i64 n, .string s, .int .i64 c] 48) (.cells #[.slice a0 L0.length p0, .slice a1 L1.length p1, .slice a2 L2.length p2] 65)
  have HP := Lib.hid (show _ ∧ _ ∧ _ ∧ _ ∧ _ from ⟨hy, hl3, hd, hLL, hok⟩)
  have HT := Lib.hid (show _ ∧ _ ∧ _ from ⟨hT0, hT1, hT2⟩)
  have HN := Lib.hid (show _ ∧ _ ∧ _ from ⟨hn0, hn1, hn2⟩)
  have HO := Lib.hid hO
  clear hy hl3 hd hLL hok hT0 hT1 hT2 hn0 hn1 hn2 hO
  have hown1 : OwnsTm (((w.alloc (.cells #[.int .i64 o, .int .i64 k, .int .i64 n, .string s, .int .i64 c] 48)).alloc (.cells #[.slice a0 L0.length p0, .slice a1 L1.length p1, .slice a2 L2.length p2] 65)).alloc (.cells #[.int .i64 o, .int .i64 k, .int .i64 n, .string s, .int .i64 c] 48)) w.heap.size (.slice (some ⟨((w.alloc (.cells #[.int .i64 o, .int .i64 k, .int .i64 n, .string s, .int .i64 c] 48)).alloc (.cells #[.slice a0 L0.length p0, .slice a1 L1.length p1, .slice a2 L2.length p2] 65)).heap.size, 0, none⟩) ([⟨o, ⟨k, n, s⟩, c⟩] : List Tm).length 1) [⟨o, ⟨k, n, s⟩, c⟩] := ownsR_new encTm_len (heap_alloc_new _ _) hb0.size rfl (by simp [maxLen])
  rw [show ((w.alloc (.cells #[.int .i64 o, .int .i64 k, .int .i64 n, .string s, .int .i64 c] 48)).alloc (.cells #[.slice a0 L0.length p0, .slice a1 L1.length p1, .slice a2 L2.length p2] 65)).heap.size = w.heap.size + 1 + 1 by simp] at hown1
  have hb1 := bt hb0 (al1 ((w.alloc (.cells #[.int .i64 o, .int .i64 k, .int .i64 n, .string s, .int .i64 c] 48)).alloc (.cells #[.slice a0 L0.length p0, .slice a1 L1.length p1, .slice a2 L2.length p2] 65)) (.cells #[.int .i64 o, .int .i64 k, .int .i64 n, .string s, .int .i64 c] 48))
  have hs1 := hb1.size
  have HB1 := Lib.hid hb1
  clear hb0 hb1
  go_enter Tryz.func38, Tryz.ntmps38
  go_wp2_with fail
  generalize ((w.alloc (.cells #[.int .i64 o, .int .i64 k, .int .i64 n, .string s, .int .i64 c] 48)).alloc (.cells #[.slice a0 L0.length p0, .slice a1 L1.length p1, .slice a2 L2.length p2] 65)).alloc (.cells #[.int .i64 o, .int .i64 k, .int .i64 n, .string s, .int .i64 c] 48) = w1 at *
  refine wp_loop_rounds 4 ?_
  rw [rounds_succ]
  go_wp2_with (at_builtin; refine wpList_copyR (enc := encTm) (m := 5) Tryz.underlying23 infoTm rfl (by decide) encTm_len encTm_one w1 rfl (.tmp 14) (.tmp 15) rfl w.heap.size _ [⟨o, ⟨k, n, s⟩, c⟩] rfl hown1 w.heap.size a0 p0 L0 rfl (HT.out.1.below HB1.out) HN.out.1 ?_ ?_ hs1 ?_)
  · simp; omega
  · unfold maxLen; simp; omega
  intro m1 v1 w2 hm1 hown2 haw2 hb2 _ _
  have hml1 : m1.length = 1 + L0.length := by rw [hm1.out]; simp; omega
  have HB2 := Lib.hid (HB1.out.trans hb2)
  have hs2 := HB2.out.size
  clear haw2 hb2
  go_wp2_with fail
  rw [rounds_succ]
  go_wp2_with (at_builtin; refine wpList_copyR (enc := encTm) (m := 5) Tryz.underlying23 infoTm rfl (by decide) encTm_len encTm_one w2 rfl (.tmp 14) (.tmp 15) rfl w.heap.size _ m1 rfl hown2 w.heap.size a1 p1 L1 rfl (HT.out.2.1.below HB2.out) HN.out.2.1 ?_ ?_ hs2 ?_)
  · omega
  · unfold maxLen; omega
  intro m2 v2 w3 hm2 hown3 haw3 hb3 _ _
  have hml2 : m2.length = 1 + L0.length + L1.length := by rw [hm2.out]; simp; omega
  have HB3 := Lib.hid (HB2.out.trans hb3)
  have hs3 := HB3.out.size
  clear haw3 hb3
  go_wp2_with fail
  rw [rounds_succ]
  go_wp2_with (at_builtin; refine wpList_copyR (enc := encTm) (m := 5) Tryz.underlying23 infoTm rfl (by decide) encTm_len encTm_one w3 rfl (.tmp 14) (.tmp 15) rfl w.heap.size _ m2 rfl hown3 w.heap.size a2 p2 L2 rfl (HT.out.2.2.below HB3.out) HN.out.2.2 ?_ ?_ hs3 ?_)
  · omega
  · unfold maxLen; omega
  intro m3 v3 w4 hm3 hown4 haw4 hb4 _ _
  have hml3 : m3.length = 1 + L0.length + L1.length + L2.length := by rw [hm3.out]; simp; omega
  have HB4 := Lib.hid (HB3.out.trans hb4)
  have hs4 := HB4.out.size
  clear haw4 hb4
  go_wp2_with fail
  obtain ⟨aoF, capF, rfl, hrF, hloF, _, hcF, _⟩ := OwnsR.rAt encTm_len hown4
  obtain ⟨bF, oF, rfl, _⟩ := hrF.form (by omega)
  have hmF : m3 = ⟨o, ⟨k, n, s⟩, c⟩ :: (L0 ++ L1 ++ L2) := by rw [hm3.out, hm2.out, hm1.out]; simp
  have hF := foldOp_any w.heap.size bF oF capF (hloF bF oF rfl).1 m3 ⟨o, ⟨k, n, s⟩, c⟩ ys (by rw [hmF, HP.out.2.2.2.1, Ex.flat_eq, node_head, node_args _ _ HP.out.2.1]) HP.out.1 HP.out.2.1 HP.out.2.2.1 (by omega) hcF (by rw [hmF]; exact HP.out.2.2.2.2) w4 hs4 (HO.out.below HB4.out) hrF
  have HF := Lib.hid hF
  clear hF hmF hrF hloF hml1 hml2 hml3
  rw [rounds_succ]
  go_wp2_with fail
  refine HF.out.mono ?_
  rintro e w5 ⟨so, sc, L, hL, rfl, hTL, hnL, hcL, hlL, hb⟩
  have HL := Lib.hid (show _ ∧ _ from ⟨hTL, bt HB4.out hb⟩)
  clear hTL hb
  go_wp2_with fail
  go_ret
  exact ⟨so, sc, L, hL, rfl, HL.out.1, hnL, hcL, hlL, HL.out.2⟩
end Go.Proofs.YtmikeifkmjhioaaGreatDoor
/- reduce of package expr at the function of Fold; Fold. -/
namespace Go.Proofs.YtmikeifkmjhioaaGreatDoor
open Go.RowKit Go.Proofs.EB
set_option maxHeartbeats 4000000
set_option maxRecDepth 100000
attribute [local go_sem] World.cell?_alloc_some
theorem RAt.setOther {α : Type} {enc : α → List Value} {m : Nat} {w : World} {B g j : Nat} {ao : Option Addr} {l : List α} {v : Value} (h : RAt enc m w B ao l) (hne : ∀ b o, ao = some ⟨b, o, none⟩ → g < b) : RAt enc m (w.setCell ⟨g, j, none⟩ v) B ao l := by
  rcases h with h0 | ⟨b, off, e, hlt, hc⟩
  · exact .inl h0
  · refine .inr ⟨b, off, e, hlt, fun i hi r u hu => ?_⟩
    rw [World.cell?_setCell_other _ _ _ _ (by have := hne b off e; simp only [ne_eq, Addr.mk.injEq, not_and]; intro h; omega)]
    exact hc i hi r u hu
/-- A node over folded operands. -/
theorem nodeF_ok (x : Ex) (hx : x.ok) : (Ex.node x.head (x.args.map (foldE cmpV))).ok ∧ (Ex.node x.head (x.args.map (foldE cmpV))).depth ≤ x.depth ∧ (flats (x.args.map (foldE cmpV))).length + 1 ≤ x.flat.length := by
  obtain ⟨h1, h2, h3⟩ := (Ex.ok_iff x).1 hx
  have hle : (x.args.map (foldE cmpV)).length ≤ 3 := by rw [List.length_map]; exact x.args_le
  have hok : oks (x.args.map (foldE cmpV)) := by
    intro y hy
    obtain ⟨a, ha, rfl⟩ := List.mem_map.1 hy
    exact (foldE_ok cmpV a (h3 a ha)).1
  refine ⟨?_, ?_, ?_⟩
  · rw [Ex.ok_iff, node_head, node_args _ _ hle, List.length_map]
    exact ⟨h1, h2, hok⟩
  · rw [Ex.depth_eq, node_args _ _ hle, Ex.depth_eq x]
    have : ∀ l : List Ex, (∀ a ∈ l, (foldE cmpV a).depth ≤ a.depth) → depths (l.map (foldE cmpV)) ≤ depths l := by
      intro l
      induction l with
      | nil => intro _; simp [depths]
      | cons a l il =>
        intro h
        have h1 := h a (by simp)
        have h2 := il fun b hb => h b (by simp [hb])
        simp only [depths, List.map_cons]; omega
    have := this x.args fun a ha => (foldE_ok cmpV a (h3 a ha)).2.1
    omega
  · rw [Ex.flat_eq x, List.length_cons]
    have : ∀ l : List Ex, (∀ a ∈ l, (foldE cmpV a).flat.length ≤ a.flat.length) → (flats (l.map (foldE cmpV))).length ≤ (flats l).length := by
      intro l
      induction l with
      | nil => intro _; simp [flats]
      | cons a l il =>
        intro h
        have h1 := h a (by simp)
        have h2 := il fun b hb => h b (by simp [hb])
        simp only [flats, List.map_cons, List.length_append]; omega
    have := this x.args fun a ha => (foldE_ok cmpV a (h3 a ha)).2.2
    omega
/-- What reduce gives. -/
def RedF (l : List Tm) (y : Ex) (r : List Tm) (w : World) (e : Ending) (w' : World) : Prop := ∃ so sc L q, Hid (L = y.flat ∧ ∀ t ∈ L, t.okT) ∧ Hid (q ≤ l.length ∧ l.drop q = r) ∧ e = .returned (.tuple #[.slice so L.length sc, .int .i64 (q : Nat)]) ∧ TmsAt w' w'.heap.size so L ∧ (so = none → sc = 0) ∧ L.length ≤ sc ∧ Hid (∀ b o, so = some ⟨b, o, none⟩ → w.heap.size ≤ b) ∧ Below w.heap.size w w'

theorem reduceF_0 (ao : Option Addr) (cap : Nat) (l : List Tm) (hl : l.length ≤ 64) (hokl : ∀ t ∈ l, t.okT) (x : Ex) (hx : x.args = []) (hok : x.ok) (hdp : x.depth ≤ 16)
    (ih : ∀ a ∈ x.args, ∀ (pos : Nat) (r : List Tm), Hid (Head (l.drop pos) a r) → pos ≤ l.length → ∀ w : World, Ops w → TmsAt w w.heap.size ao l → Calls Tryz.prog 37 #[.slice ao l.length cap, .int .i64 pos, .func (.func 38) #[] #[]] w (RedF l (foldE cmpV a) r w))
    (pos : Nat) (r : List Tm) (hH : Hid (Head (l.drop pos) x r)) (hp : pos ≤ l.length) (w : World) (hO : Ops w) (hT : TmsAt w w.heap.size ao l) :
    Calls Tryz.prog 37 #[.slice ao l.length cap, .int .i64 pos, .func (.func 38) #[] #[]] w (RedF l (foldE cmpV x) r w) := by
  obtain ⟨hlt, hhd, hrest⟩ := head_at hH.out hp
  obtain ⟨htb, har, hoks⟩ := (Ex.ok_iff x).1 hok
  obtain ⟨hn1, hn2, hn3⟩ := nodeF_ok x hok
  have hxl : x.flat.length ≤ 64 := by
    have h3 := congrArg List.length hH.out.1
    rw [List.length_drop, List.length_append] at h3
    omega
  have hokt := hokl _ (List.getElem_mem hlt)
  obtain ⟨b, off, rfl, _⟩ := hT.form (by omega)
  obtain ⟨c0, c1, c2, c3, c4⟩ := RAt.tm hT hlt
  rw [hhd] at c0 c1 c2 c3 c4 hokt
  have hfold := foldE_eq cmpV x
  have hbl : b < w.heap.size := World.block_lt_of_cell? w _ c0
  have hA := fun w hO => arity_any x.head.op w hO
  rw [hx] at hfold har hrest hn1 hn2 hn3
  rw [har] at hA
  have HA := Lib.hid hA
  have hte : (⟨x.head.op, ⟨x.head.v.k, x.head.v.n, x.head.v.s⟩, x.head.c⟩ : Tm) = x.head := rfl
  simp only [List.map_nil] at hfold hn1 hn2 hn3
  have hC := fun (L0 L1 L2 : List Tm) (a0 a1 a2 : Option Addr) (p0 p1 p2 : Nat) (wc : World) hO hLL h64 hok hT0 hT1 hT2 hn0 hn1' hn2' => foldC_any x.head.op x.head.v.k x.head.v.n x.head.c x.head.v.s ([]) L0 L1 L2 a0 a1 a2 p0 p1 p2 wc hO hn1 (by simp) (Nat.le_trans hn2 hdp) hLL h64 hok hT0 hT1 hT2 hn0 hn1' hn2'
  rw [hte] at hC
  have Hfold := Lib.hid hfold
  have HC := Lib.hid hC
  have HO := Lib.hid hO
  have HT := Lib.hid hT
  have Hrest := Lib.hid hrest
  have Hokt := Lib.hid hokt
  have Hn3 := Lib.hid (Nat.le_trans hn3 hxl)
  have hpl : (pos : Int) < (l.length : Int) := by omega
  clear hA hC hO hT hrest hfold hte har htb hoks hhd ih hH hn1 hn2 hn3 hxl hokt hdp hokl
  generalize x.head = t at *
  obtain ⟨o, ⟨tk, tn, ts⟩, tc⟩ := t
  simp only at *
  obtain ⟨hq2, _⟩ := bcell (al1 w (.cells #[.slice none 0 0, .slice none 0 0, .slice none 0 0] 65))
  go_enter Tryz.func37, Tryz.ntmps37
  go_wp2_with fail
  refine (HA.out _ (HO.out.below (al1 _ _))).mono ?_
  rintro e w' ⟨rfl, rfl⟩
  go_wp2_with fail
  have HD := Lib.hid (Rd1.start w 65 #[.slice none 0 0, .slice none 0 0, .slice none 0 0])
  have hw0s : w.heap.size + 1 ≤ (w.alloc (.cells #[.slice none 0 0, .slice none 0 0, .slice none 0 0] 65)).heap.size := by simp
  generalize w.alloc (.cells #[.slice none 0 0, .slice none 0 0, .slice none 0 0] 65) = w0 at *
  clear hq2
  refine wp_loop_rounds 1 ?_
  have hLL : [] ++ [] ++ [] = flats ([]) := by
    simp [flats]
  have h64 : 1 + ([] : List Tm).length + ([] : List Tm).length + ([] : List Tm).length ≤ 64 := by
    have h1 := Hn3.out
    have h2 := congrArg List.length hLL
    simp only [List.length_append] at h2
    omega
  have hokA : ∀ t ∈ (⟨o, ⟨tk, tn, ts⟩, tc⟩ : Tm) :: ([] ++ [] ++ []), t.okT := by
    intro y hy
    rcases List.mem_cons.1 hy with rfl | hy
    · exact Hokt.out
    · simp at hy
  have hend : Hid (pos + 1 ≤ l.length ∧ l.drop (pos + 1) = r) := ⟨by omega, by rw [Hrest.out]; simp [flats]⟩
  have HLL := Lib.hid hLL
  have H64 := Lib.hid h64
  have HokA := Lib.hid hokA
  clear hLL h64 hokA
  rw [rounds_succ]
  obtain ⟨hq0, _⟩ := bcell HD.out.below
  obtain ⟨a0, a1, a2, f0, f1, f2⟩ := box3 HD.out.ops
  go_wp2_with fail
  go_region_law (go_simp; go_at_call 38; first | (refine (HC.out [] [] [] none none none 0 0 0 _ (HO.out.below HD.out.below) HLL.out H64.out HokA.out .nil .nil .nil (fun _ => rfl) (fun _ => rfl) (fun _ => rfl)).mono ?_; rintro e w5 ⟨so, sc, L, hL, rfl, hTL, hnL, hcL, hloL, hb⟩; replace HD := Lib.hid (HD.out.step hb); have HTL := Lib.hid hTL; have hsz5 := hb.size; clear hb hTL) | (refine (HC.out [] [] [] none none none 0 0 0 _ (HO.out.below HD.out.draw.below) HLL.out H64.out HokA.out .nil .nil .nil (fun _ => rfl) (fun _ => rfl) (fun _ => rfl)).mono ?_; rintro e w5 ⟨so, sc, L, hL, rfl, hTL, hnL, hcL, hloL, hb⟩; replace HD := Lib.hid (HD.out.draw.step hb); have HTL := Lib.hid hTL; have hsz5 := hb.size; clear hb hTL))
  all_goals
    go_wp2_with fail
    go_ret2
    refine ⟨so, sc, L, pos + 1, ⟨by rw [hL.out.1, Hfold.out], hL.out.2⟩, hend, by first | rfl | simp, by first | exact HTL.out | exact HTL.out.later (Below.refl _ _).drew, hnL, hcL, fun b' o' h => by have := hloL.out b' o' h; first | omega | (simp at this; omega), by first | exact HD.out.below | exact HD.out.draw.below⟩
theorem reduceF_1 (ao : Option Addr) (cap : Nat) (l : List Tm) (hl : l.length ≤ 64) (hokl : ∀ t ∈ l, t.okT) (x : Ex) (x1 : Ex) (hx : x.args = [x1]) (hok : x.ok) (hdp : x.depth ≤ 16)
    (ih : ∀ a ∈ x.args, ∀ (pos : Nat) (r : List Tm), Hid (Head (l.drop pos) a r) → pos ≤ l.length → ∀ w : World, Ops w → TmsAt w w.heap.size ao l → Calls Tryz.prog 37 #[.slice ao l.length cap, .int .i64 pos, .func (.func 38) #[] #[]] w (RedF l (foldE cmpV a) r w))
    (pos : Nat) (r : List Tm) (hH : Hid (Head (l.drop pos) x r)) (hp : pos ≤ l.length) (w : World) (hO : Ops w) (hT : TmsAt w w.heap.size ao l) :
    Calls Tryz.prog 37 #[.slice ao l.length cap, .int .i64 pos, .func (.func 38) #[] #[]] w (RedF l (foldE cmpV x) r w) := by
  obtain ⟨hlt, hhd, hrest⟩ := head_at hH.out hp
  obtain ⟨htb, har, hoks⟩ := (Ex.ok_iff x).1 hok
  obtain ⟨hn1, hn2, hn3⟩ := nodeF_ok x hok
  have hxl : x.flat.length ≤ 64 := by
    have h3 := congrArg List.length hH.out.1
    rw [List.length_drop, List.length_append] at h3
    omega
  have hokt := hokl _ (List.getElem_mem hlt)
  obtain ⟨b, off, rfl, _⟩ := hT.form (by omega)
  obtain ⟨c0, c1, c2, c3, c4⟩ := RAt.tm hT hlt
  rw [hhd] at c0 c1 c2 c3 c4 hokt
  have hfold := foldE_eq cmpV x
  have hbl : b < w.heap.size := World.block_lt_of_cell? w _ c0
  have hA := fun w hO => arity_any x.head.op w hO
  rw [hx] at hfold har hrest hn1 hn2 hn3
  rw [har] at hA
  have HA := Lib.hid hA
  have hte : (⟨x.head.op, ⟨x.head.v.k, x.head.v.n, x.head.v.s⟩, x.head.c⟩ : Tm) = x.head := rfl
  simp only [List.map_cons, List.map_nil] at hfold hn1 hn2 hn3
  have ih1 := ih x1 (by rw [hx]; simp)
  have IH1 := Lib.hid ih1
  clear ih1
  have hC := fun (L0 L1 L2 : List Tm) (a0 a1 a2 : Option Addr) (p0 p1 p2 : Nat) (wc : World) hO hLL h64 hok hT0 hT1 hT2 hn0 hn1' hn2' => foldC_any x.head.op x.head.v.k x.head.v.n x.head.c x.head.v.s ([foldE cmpV x1]) L0 L1 L2 a0 a1 a2 p0 p1 p2 wc hO hn1 (by simp) (Nat.le_trans hn2 hdp) hLL h64 hok hT0 hT1 hT2 hn0 hn1' hn2'
  rw [hte] at hC
  have Hfold := Lib.hid hfold
  have HC := Lib.hid hC
  have HO := Lib.hid hO
  have HT := Lib.hid hT
  have Hrest := Lib.hid hrest
  have Hokt := Lib.hid hokt
  have Hn3 := Lib.hid (Nat.le_trans hn3 hxl)
  have hpl : (pos : Int) < (l.length : Int) := by omega
  clear hA hC hO hT hrest hfold hte har htb hoks hhd ih hH hn1 hn2 hn3 hxl hokt hdp hokl
  generalize x.head = t at *
  obtain ⟨o, ⟨tk, tn, ts⟩, tc⟩ := t
  simp only at *
  obtain ⟨hq2, _⟩ := bcell (al1 w (.cells #[.slice none 0 0, .slice none 0 0, .slice none 0 0] 65))
  go_enter Tryz.func37, Tryz.ntmps37
  go_wp2_with fail
  refine (HA.out _ (HO.out.below (al1 _ _))).mono ?_
  rintro e w' ⟨rfl, rfl⟩
  go_wp2_with fail
  have HD := Lib.hid (Rd1.start w 65 #[.slice none 0 0, .slice none 0 0, .slice none 0 0])
  have hw0s : w.heap.size + 1 ≤ (w.alloc (.cells #[.slice none 0 0, .slice none 0 0, .slice none 0 0] 65)).heap.size := by simp
  generalize w.alloc (.cells #[.slice none 0 0, .slice none 0 0, .slice none 0 0] 65) = w0 at *
  clear hq2
  refine wp_loop_rounds 2 ?_
  have hH1 : Hid (Head (l.drop (pos + 1)) x1 (flats [] ++ r)) := by
    refine ⟨?_, by have h := (Ex.ok_iff x).1 hok; exact h.2.2 x1 (by rw [hx]; simp)⟩
    rw [Hrest.out]; simp [flats]
  rw [rounds_succ]
  go_wp2_with fail
  refine (IH1.out (pos + 1) _ hH1 (by omega) _ (HO.out.below HD.out.below) (HT.out.later HD.out.below)).mono ?_
  rintro e w1 ⟨so1, sc1, L1, q1, hL1, hq1, rfl, hTL1, hnL1, _, hlo1, hb⟩
  have hg1 := Lib.hid (show ∀ b o, so1 = some ⟨b, o, none⟩ → w.heap.size < b from fun b o h => by have := hlo1.out b o h; omega)
  replace HD := Lib.hid (HD.out.step hb)
  have HTL1 := Lib.hid (RAt.setOther hTL1 (g := w.heap.size) (j := 0) (v := .slice so1 L1.length sc1) hg1.out)
  have HnL1 := Lib.hid hnL1
  have hws1 : w.heap.size + 1 ≤ w1.heap.size := Nat.le_trans hw0s hb.size
  obtain ⟨a0, a1, a2, f0, f1, f2⟩ := box3 HD.out.ops
  clear hb hTL1 hlo1 hnL1
  go_wp2_with fail
  clear a0 a1 a2 f0 f1 f2
  replace HD := Lib.hid (HD.out.set (C' := #[.slice so1 L1.length sc1, .slice none 0 0, .slice none 0 0]) 0 (.slice so1 L1.length sc1) rfl)
  have hwt1 : w.heap.size + 1 ≤ (w1.setCell ⟨w.heap.size, 0, none⟩ (.slice so1 L1.length sc1)).heap.size := by rw [size_setCell]; exact hws1
  replace HTL1 := Lib.hid (show TmsAt _ (w1.setCell ⟨w.heap.size, 0, none⟩ (.slice so1 L1.length sc1)).heap.size so1 L1 from by rw [size_setCell]; exact HTL1.out)
  generalize w1.setCell ⟨w.heap.size, 0, none⟩ (.slice so1 L1.length sc1) = w1' at *
  have hLL : L1 ++ [] ++ [] = flats ([foldE cmpV x1]) := by
    simp [flats, hL1.out.1]
  have h64 : 1 + (L1 : List Tm).length + ([] : List Tm).length + ([] : List Tm).length ≤ 64 := by
    have h1 := Hn3.out
    have h2 := congrArg List.length hLL
    simp only [List.length_append] at h2
    omega
  have hokA : ∀ t ∈ (⟨o, ⟨tk, tn, ts⟩, tc⟩ : Tm) :: (L1 ++ [] ++ []), t.okT := by
    intro y hy
    rcases List.mem_cons.1 hy with rfl | hy
    · exact Hokt.out
    · simp only [List.append_nil] at hy
      exact hL1.out.2 y hy
  have hend : Hid (q1 ≤ l.length ∧ l.drop (q1) = r) := ⟨hq1.out.1, by rw [hq1.out.2]; simp [flats]⟩
  have HLL := Lib.hid hLL
  have H64 := Lib.hid h64
  have HokA := Lib.hid hokA
  clear hLL h64 hokA
  rw [rounds_succ]
  obtain ⟨hq0, _⟩ := bcell HD.out.below
  obtain ⟨a0, a1, a2, f0, f1, f2⟩ := box3 HD.out.ops
  go_wp2_with fail
  go_region_law (go_simp; go_at_call 38; first | (refine (HC.out L1 [] [] so1 none none sc1 0 0 _ (HO.out.below HD.out.below) HLL.out H64.out HokA.out (by exact HTL1.out) .nil .nil HnL1.out (fun _ => rfl) (fun _ => rfl)).mono ?_; rintro e w5 ⟨so, sc, L, hL, rfl, hTL, hnL, hcL, hloL, hb⟩; replace HD := Lib.hid (HD.out.step hb); have HTL := Lib.hid hTL; have hsz5 := hb.size; clear hb hTL) | (refine (HC.out L1 [] [] so1 none none sc1 0 0 _ (HO.out.below HD.out.draw.below) HLL.out H64.out HokA.out (by exact HTL1.out) .nil .nil HnL1.out (fun _ => rfl) (fun _ => rfl)).mono ?_; rintro e w5 ⟨so, sc, L, hL, rfl, hTL, hnL, hcL, hloL, hb⟩; replace HD := Lib.hid (HD.out.draw.step hb); have HTL := Lib.hid hTL; have hsz5 := hb.size; clear hb hTL))
  all_goals
    go_wp2_with fail
    go_ret2
    refine ⟨so, sc, L, q1, ⟨by rw [hL.out.1, Hfold.out], hL.out.2⟩, hend, by first | rfl | simp, by first | exact HTL.out | exact HTL.out.later (Below.refl _ _).drew, hnL, hcL, fun b' o' h => by have := hloL.out b' o' h; first | omega | (simp at this; omega), by first | exact HD.out.below | exact HD.out.draw.below⟩
theorem reduceF_2 (ao : Option Addr) (cap : Nat) (l : List Tm) (hl : l.length ≤ 64) (hokl : ∀ t ∈ l, t.okT) (x : Ex) (x1 : Ex) (x2 : Ex) (hx : x.args = [x1, x2]) (hok : x.ok) (hdp : x.depth ≤ 16)
    (ih : ∀ a ∈ x.args, ∀ (pos : Nat) (r : List Tm), Hid (Head (l.drop pos) a r) → pos ≤ l.length → ∀ w : World, Ops w → TmsAt w w.heap.size ao l → Calls Tryz.prog 37 #[.slice ao l.length cap, .int .i64 pos, .func (.func 38) #[] #[]] w (RedF l (foldE cmpV a) r w))
    (pos : Nat) (r : List Tm) (hH : Hid (Head (l.drop pos) x r)) (hp : pos ≤ l.length) (w : World) (hO : Ops w) (hT : TmsAt w w.heap.size ao l) :
    Calls Tryz.prog 37 #[.slice ao l.length cap, .int .i64 pos, .func (.func 38) #[] #[]] w (RedF l (foldE cmpV x) r w) := by
  obtain ⟨hlt, hhd, hrest⟩ := head_at hH.out hp
  obtain ⟨htb, har, hoks⟩ := (Ex.ok_iff x).1 hok
  obtain ⟨hn1, hn2, hn3⟩ := nodeF_ok x hok
  have hxl : x.flat.length ≤ 64 := by
    have h3 := congrArg List.length hH.out.1
    rw [List.length_drop, List.length_append] at h3
    omega
  have hokt := hokl _ (List.getElem_mem hlt)
  obtain ⟨b, off, rfl, _⟩ := hT.form (by omega)
  obtain ⟨c0, c1, c2, c3, c4⟩ := RAt.tm hT hlt
  rw [hhd] at c0 c1 c2 c3 c4 hokt
  have hfold := foldE_eq cmpV x
  have hbl : b < w.heap.size := World.block_lt_of_cell? w _ c0
  have hA := fun w hO => arity_any x.head.op w hO
  rw [hx] at hfold har hrest hn1 hn2 hn3
  rw [har] at hA
  have HA := Lib.hid hA
  have hte : (⟨x.head.op, ⟨x.head.v.k, x.head.v.n, x.head.v.s⟩, x.head.c⟩ : Tm) = x.head := rfl
  simp only [List.map_cons, List.map_nil] at hfold hn1 hn2 hn3
  have ih1 := ih x1 (by rw [hx]; simp)
  have IH1 := Lib.hid ih1
  clear ih1
  have ih2 := ih x2 (by rw [hx]; simp)
  have IH2 := Lib.hid ih2
  clear ih2
  have hC := fun (L0 L1 L2 : List Tm) (a0 a1 a2 : Option Addr) (p0 p1 p2 : Nat) (wc : World) hO hLL h64 hok hT0 hT1 hT2 hn0 hn1' hn2' => foldC_any x.head.op x.head.v.k x.head.v.n x.head.c x.head.v.s ([foldE cmpV x1, foldE cmpV x2]) L0 L1 L2 a0 a1 a2 p0 p1 p2 wc hO hn1 (by simp) (Nat.le_trans hn2 hdp) hLL h64 hok hT0 hT1 hT2 hn0 hn1' hn2'
  rw [hte] at hC
  have Hfold := Lib.hid hfold
  have HC := Lib.hid hC
  have HO := Lib.hid hO
  have HT := Lib.hid hT
  have Hrest := Lib.hid hrest
  have Hokt := Lib.hid hokt
  have Hn3 := Lib.hid (Nat.le_trans hn3 hxl)
  have hpl : (pos : Int) < (l.length : Int) := by omega
  clear hA hC hO hT hrest hfold hte har htb hoks hhd ih hH hn1 hn2 hn3 hxl hokt hdp hokl
  generalize x.head = t at *
  obtain ⟨o, ⟨tk, tn, ts⟩, tc⟩ := t
  simp only at *
  obtain ⟨hq2, _⟩ := bcell (al1 w (.cells #[.slice none 0 0, .slice none 0 0, .slice none 0 0] 65))
  go_enter Tryz.func37, Tryz.ntmps37
  go_wp2_with fail
  refine (HA.out _ (HO.out.below (al1 _ _))).mono ?_
  rintro e w' ⟨rfl, rfl⟩
  go_wp2_with fail
  have HD := Lib.hid (Rd1.start w 65 #[.slice none 0 0, .slice none 0 0, .slice none 0 0])
  have hw0s : w.heap.size + 1 ≤ (w.alloc (.cells #[.slice none 0 0, .slice none 0 0, .slice none 0 0] 65)).heap.size := by simp
  generalize w.alloc (.cells #[.slice none 0 0, .slice none 0 0, .slice none 0 0] 65) = w0 at *
  clear hq2
  refine wp_loop_rounds 3 ?_
  have hH1 : Hid (Head (l.drop (pos + 1)) x1 (flats [x2] ++ r)) := by
    refine ⟨?_, by have h := (Ex.ok_iff x).1 hok; exact h.2.2 x1 (by rw [hx]; simp)⟩
    rw [Hrest.out]; simp [flats]
  rw [rounds_succ]
  go_wp2_with fail
  refine (IH1.out (pos + 1) _ hH1 (by omega) _ (HO.out.below HD.out.below) (HT.out.later HD.out.below)).mono ?_
  rintro e w1 ⟨so1, sc1, L1, q1, hL1, hq1, rfl, hTL1, hnL1, _, hlo1, hb⟩
  have hg1 := Lib.hid (show ∀ b o, so1 = some ⟨b, o, none⟩ → w.heap.size < b from fun b o h => by have := hlo1.out b o h; omega)
  replace HD := Lib.hid (HD.out.step hb)
  have HTL1 := Lib.hid (RAt.setOther hTL1 (g := w.heap.size) (j := 0) (v := .slice so1 L1.length sc1) hg1.out)
  have HnL1 := Lib.hid hnL1
  have hws1 : w.heap.size + 1 ≤ w1.heap.size := Nat.le_trans hw0s hb.size
  obtain ⟨a0, a1, a2, f0, f1, f2⟩ := box3 HD.out.ops
  clear hb hTL1 hlo1 hnL1
  go_wp2_with fail
  clear a0 a1 a2 f0 f1 f2
  replace HD := Lib.hid (HD.out.set (C' := #[.slice so1 L1.length sc1, .slice none 0 0, .slice none 0 0]) 0 (.slice so1 L1.length sc1) rfl)
  have hwt1 : w.heap.size + 1 ≤ (w1.setCell ⟨w.heap.size, 0, none⟩ (.slice so1 L1.length sc1)).heap.size := by rw [size_setCell]; exact hws1
  replace HTL1 := Lib.hid (show TmsAt _ (w1.setCell ⟨w.heap.size, 0, none⟩ (.slice so1 L1.length sc1)).heap.size so1 L1 from by rw [size_setCell]; exact HTL1.out)
  generalize w1.setCell ⟨w.heap.size, 0, none⟩ (.slice so1 L1.length sc1) = w1' at *
  have hH2 : Hid (Head (l.drop (q1)) x2 (flats [] ++ r)) := by
    refine ⟨?_, by have h := (Ex.ok_iff x).1 hok; exact h.2.2 x2 (by rw [hx]; simp)⟩
    rw [hq1.out.2]; simp [flats]
  rw [rounds_succ]
  go_wp2_with fail
  refine (IH2.out (q1) _ hH2 hq1.out.1 _ (HO.out.below HD.out.below) (HT.out.later HD.out.below)).mono ?_
  rintro e w2 ⟨so2, sc2, L2, q2, hL2, hq2, rfl, hTL2, hnL2, _, hlo2, hb⟩
  have hg2 := Lib.hid (show ∀ b o, so2 = some ⟨b, o, none⟩ → w.heap.size < b from fun b o h => by have := hlo2.out b o h; omega)
  replace HD := Lib.hid (HD.out.step hb)
  have HTL2 := Lib.hid (RAt.setOther hTL2 (g := w.heap.size) (j := 1) (v := .slice so2 L2.length sc2) hg2.out)
  replace HTL1 := Lib.hid (RAt.setOther (HTL1.out.later hb) (g := w.heap.size) (j := 1) (v := .slice so2 L2.length sc2) hg1.out)
  have HnL2 := Lib.hid hnL2
  have hws2 : w.heap.size + 1 ≤ w2.heap.size := Nat.le_trans hwt1 hb.size
  obtain ⟨a0, a1, a2, f0, f1, f2⟩ := box3 HD.out.ops
  clear hb hTL2 hlo2 hnL2
  go_wp2_with fail
  clear a0 a1 a2 f0 f1 f2
  replace HD := Lib.hid (HD.out.set (C' := #[.slice so1 L1.length sc1, .slice so2 L2.length sc2, .slice none 0 0]) 1 (.slice so2 L2.length sc2) rfl)
  have hwt2 : w.heap.size + 1 ≤ (w2.setCell ⟨w.heap.size, 1, none⟩ (.slice so2 L2.length sc2)).heap.size := by rw [size_setCell]; exact hws2
  replace HTL1 := Lib.hid (show TmsAt _ (w2.setCell ⟨w.heap.size, 1, none⟩ (.slice so2 L2.length sc2)).heap.size so1 L1 from by rw [size_setCell]; exact HTL1.out)
  replace HTL2 := Lib.hid (show TmsAt _ (w2.setCell ⟨w.heap.size, 1, none⟩ (.slice so2 L2.length sc2)).heap.size so2 L2 from by rw [size_setCell]; exact HTL2.out)
  generalize w2.setCell ⟨w.heap.size, 1, none⟩ (.slice so2 L2.length sc2) = w2' at *
  have hLL : L1 ++ L2 ++ [] = flats ([foldE cmpV x1, foldE cmpV x2]) := by
    simp [flats, hL1.out.1, hL2.out.1]
  have h64 : 1 + (L1 : List Tm).length + (L2 : List Tm).length + ([] : List Tm).length ≤ 64 := by
    have h1 := Hn3.out
    have h2 := congrArg List.length hLL
    simp only [List.length_append] at h2
    omega
  have hokA : ∀ t ∈ (⟨o, ⟨tk, tn, ts⟩, tc⟩ : Tm) :: (L1 ++ L2 ++ []), t.okT := by
    intro y hy
    rcases List.mem_cons.1 hy with rfl | hy
    · exact Hokt.out
    · simp only [List.append_nil, List.mem_append] at hy
      rcases hy with hy | hy
      · exact hL1.out.2 y hy
      · exact hL2.out.2 y hy
  have hend : Hid (q2 ≤ l.length ∧ l.drop (q2) = r) := ⟨hq2.out.1, by rw [hq2.out.2]; simp [flats]⟩
  have HLL := Lib.hid hLL
  have H64 := Lib.hid h64
  have HokA := Lib.hid hokA
  clear hLL h64 hokA
  rw [rounds_succ]
  obtain ⟨hq0, _⟩ := bcell HD.out.below
  obtain ⟨a0, a1, a2, f0, f1, f2⟩ := box3 HD.out.ops
  go_wp2_with fail
  go_region_law (go_simp; go_at_call 38; first | (refine (HC.out L1 L2 [] so1 so2 none sc1 sc2 0 _ (HO.out.below HD.out.below) HLL.out H64.out HokA.out (by exact HTL1.out) (by exact HTL2.out) .nil HnL1.out HnL2.out (fun _ => rfl)).mono ?_; rintro e w5 ⟨so, sc, L, hL, rfl, hTL, hnL, hcL, hloL, hb⟩; replace HD := Lib.hid (HD.out.step hb); have HTL := Lib.hid hTL; have hsz5 := hb.size; clear hb hTL) | (refine (HC.out L1 L2 [] so1 so2 none sc1 sc2 0 _ (HO.out.below HD.out.draw.below) HLL.out H64.out HokA.out (by exact HTL1.out) (by exact HTL2.out) .nil HnL1.out HnL2.out (fun _ => rfl)).mono ?_; rintro e w5 ⟨so, sc, L, hL, rfl, hTL, hnL, hcL, hloL, hb⟩; replace HD := Lib.hid (HD.out.draw.step hb); have HTL := Lib.hid hTL; have hsz5 := hb.size; clear hb hTL))
  all_goals
    go_wp2_with fail
    go_ret2
    refine ⟨so, sc, L, q2, ⟨by rw [hL.out.1, Hfold.out], hL.out.2⟩, hend, by first | rfl | simp, by first | exact HTL.out | exact HTL.out.later (Below.refl _ _).drew, hnL, hcL, fun b' o' h => by have := hloL.out b' o' h; first | omega | (simp at this; omega), by first | exact HD.out.below | exact HD.out.draw.below⟩
theorem reduceF_3 (ao : Option Addr) (cap : Nat) (l : List Tm) (hl : l.length ≤ 64) (hokl : ∀ t ∈ l, t.okT) (x : Ex) (x1 : Ex) (x2 : Ex) (x3 : Ex) (hx : x.args = [x1, x2, x3]) (hok : x.ok) (hdp : x.depth ≤ 16)
    (ih : ∀ a ∈ x.args, ∀ (pos : Nat) (r : List Tm), Hid (Head (l.drop pos) a r) → pos ≤ l.length → ∀ w : World, Ops w → TmsAt w w.heap.size ao l → Calls Tryz.prog 37 #[.slice ao l.length cap, .int .i64 pos, .func (.func 38) #[] #[]] w (RedF l (foldE cmpV a) r w))
    (pos : Nat) (r : List Tm) (hH : Hid (Head (l.drop pos) x r)) (hp : pos ≤ l.length) (w : World) (hO : Ops w) (hT : TmsAt w w.heap.size ao l) :
    Calls Tryz.prog 37 #[.slice ao l.length cap, .int .i64 pos, .func (.func 38) #[] #[]] w (RedF l (foldE cmpV x) r w) := by
  obtain ⟨hlt, hhd, hrest⟩ := head_at hH.out hp
  obtain ⟨htb, har, hoks⟩ := (Ex.ok_iff x).1 hok
  obtain ⟨hn1, hn2, hn3⟩ := nodeF_ok x hok
  have hxl : x.flat.length ≤ 64 := by
    have h3 := congrArg List.length hH.out.1
    rw [List.length_drop, List.length_append] at h3
    omega
  have hokt := hokl _ (List.getElem_mem hlt)
  obtain ⟨b, off, rfl, _⟩ := hT.form (by omega)
  obtain ⟨c0, c1, c2, c3, c4⟩ := RAt.tm hT hlt
  rw [hhd] at c0 c1 c2 c3 c4 hokt
  have hfold := foldE_eq cmpV x
  have hbl : b < w.heap.size := World.block_lt_of_cell? w _ c0
  have hA := fun w hO => arity_any x.head.op w hO
  rw [hx] at hfold har hrest hn1 hn2 hn3
  rw [har] at hA
  have HA := Lib.hid hA
  have hte : (⟨x.head.op, ⟨x.head.v.k, x.head.v.n, x.head.v.s⟩, x.head.c⟩ : Tm) = x.head := rfl
  simp only [List.map_cons, List.map_nil] at hfold hn1 hn2 hn3
  have ih1 := ih x1 (by rw [hx]; simp)
  have IH1 := Lib.hid ih1
  clear ih1
  have ih2 := ih x2 (by rw [hx]; simp)
  have IH2 := Lib.hid ih2
  clear ih2
  have ih3 := ih x3 (by rw [hx]; simp)
  have IH3 := Lib.hid ih3
  clear ih3
  have hC := fun (L0 L1 L2 : List Tm) (a0 a1 a2 : Option Addr) (p0 p1 p2 : Nat) (wc : World) hO hLL h64 hok hT0 hT1 hT2 hn0 hn1' hn2' => foldC_any x.head.op x.head.v.k x.head.v.n x.head.c x.head.v.s ([foldE cmpV x1, foldE cmpV x2, foldE cmpV x3]) L0 L1 L2 a0 a1 a2 p0 p1 p2 wc hO hn1 (by simp) (Nat.le_trans hn2 hdp) hLL h64 hok hT0 hT1 hT2 hn0 hn1' hn2'
  rw [hte] at hC
  have Hfold := Lib.hid hfold
  have HC := Lib.hid hC
  have HO := Lib.hid hO
  have HT := Lib.hid hT
  have Hrest := Lib.hid hrest
  have Hokt := Lib.hid hokt
  have Hn3 := Lib.hid (Nat.le_trans hn3 hxl)
  have hpl : (pos : Int) < (l.length : Int) := by omega
  clear hA hC hO hT hrest hfold hte har htb hoks hhd ih hH hn1 hn2 hn3 hxl hokt hdp hokl
  generalize x.head = t at *
  obtain ⟨o, ⟨tk, tn, ts⟩, tc⟩ := t
  simp only at *
  obtain ⟨hq2, _⟩ := bcell (al1 w (.cells #[.slice none 0 0, .slice none 0 0, .slice none 0 0] 65))
  go_enter Tryz.func37, Tryz.ntmps37
  go_wp2_with fail
  refine (HA.out _ (HO.out.below (al1 _ _))).mono ?_
  rintro e w' ⟨rfl, rfl⟩
  go_wp2_with fail
  have HD := Lib.hid (Rd1.start w 65 #[.slice none 0 0, .slice none 0 0, .slice none 0 0])
  have hw0s : w.heap.size + 1 ≤ (w.alloc (.cells #[.slice none 0 0, .slice none 0 0, .slice none 0 0] 65)).heap.size := by simp
  generalize w.alloc (.cells #[.slice none 0 0, .slice none 0 0, .slice none 0 0] 65) = w0 at *
  clear hq2
  refine wp_loop_rounds 4 ?_
  have hH1 : Hid (Head (l.drop (pos + 1)) x1 (flats [x2, x3] ++ r)) := by
    refine ⟨?_, by have h := (Ex.ok_iff x).1 hok; exact h.2.2 x1 (by rw [hx]; simp)⟩
    rw [Hrest.out]; simp [flats]
  rw [rounds_succ]
  go_wp2_with fail
  refine (IH1.out (pos + 1) _ hH1 (by omega) _ (HO.out.below HD.out.below) (HT.out.later HD.out.below)).mono ?_
  rintro e w1 ⟨so1, sc1, L1, q1, hL1, hq1, rfl, hTL1, hnL1, _, hlo1, hb⟩
  have hg1 := Lib.hid (show ∀ b o, so1 = some ⟨b, o, none⟩ → w.heap.size < b from fun b o h => by have := hlo1.out b o h; omega)
  replace HD := Lib.hid (HD.out.step hb)
  have HTL1 := Lib.hid (RAt.setOther hTL1 (g := w.heap.size) (j := 0) (v := .slice so1 L1.length sc1) hg1.out)
  have HnL1 := Lib.hid hnL1
  have hws1 : w.heap.size + 1 ≤ w1.heap.size := Nat.le_trans hw0s hb.size
  obtain ⟨a0, a1, a2, f0, f1, f2⟩ := box3 HD.out.ops
  clear hb hTL1 hlo1 hnL1
  go_wp2_with fail
  clear a0 a1 a2 f0 f1 f2
  replace HD := Lib.hid (HD.out.set (C' := #[.slice so1 L1.length sc1, .slice none 0 0, .slice none 0 0]) 0 (.slice so1 L1.length sc1) rfl)
  have hwt1 : w.heap.size + 1 ≤ (w1.setCell ⟨w.heap.size, 0, none⟩ (.slice so1 L1.length sc1)).heap.size := by rw [size_setCell]; exact hws1
  replace HTL1 := Lib.hid (show TmsAt _ (w1.setCell ⟨w.heap.size, 0, none⟩ (.slice so1 L1.length sc1)).heap.size so1 L1 from by rw [size_setCell]; exact HTL1.out)
  generalize w1.setCell ⟨w.heap.size, 0, none⟩ (.slice so1 L1.length sc1) = w1' at *
  have hH2 : Hid (Head (l.drop (q1)) x2 (flats [x3] ++ r)) := by
    refine ⟨?_, by have h := (Ex.ok_iff x).1 hok; exact h.2.2 x2 (by rw [hx]; simp)⟩
    rw [hq1.out.2]; simp [flats]
  rw [rounds_succ]
  go_wp2_with fail
  refine (IH2.out (q1) _ hH2 hq1.out.1 _ (HO.out.below HD.out.below) (HT.out.later HD.out.below)).mono ?_
  rintro e w2 ⟨so2, sc2, L2, q2, hL2, hq2, rfl, hTL2, hnL2, _, hlo2, hb⟩
  have hg2 := Lib.hid (show ∀ b o, so2 = some ⟨b, o, none⟩ → w.heap.size < b from fun b o h => by have := hlo2.out b o h; omega)
  replace HD := Lib.hid (HD.out.step hb)
  have HTL2 := Lib.hid (RAt.setOther hTL2 (g := w.heap.size) (j := 1) (v := .slice so2 L2.length sc2) hg2.out)
  replace HTL1 := Lib.hid (RAt.setOther (HTL1.out.later hb) (g := w.heap.size) (j := 1) (v := .slice so2 L2.length sc2) hg1.out)
  have HnL2 := Lib.hid hnL2
  have hws2 : w.heap.size + 1 ≤ w2.heap.size := Nat.le_trans hwt1 hb.size
  obtain ⟨a0, a1, a2, f0, f1, f2⟩ := box3 HD.out.ops
  clear hb hTL2 hlo2 hnL2
  go_wp2_with fail
  clear a0 a1 a2 f0 f1 f2
  replace HD := Lib.hid (HD.out.set (C' := #[.slice so1 L1.length sc1, .slice so2 L2.length sc2, .slice none 0 0]) 1 (.slice so2 L2.length sc2) rfl)
  have hwt2 : w.heap.size + 1 ≤ (w2.setCell ⟨w.heap.size, 1, none⟩ (.slice so2 L2.length sc2)).heap.size := by rw [size_setCell]; exact hws2
  replace HTL1 := Lib.hid (show TmsAt _ (w2.setCell ⟨w.heap.size, 1, none⟩ (.slice so2 L2.length sc2)).heap.size so1 L1 from by rw [size_setCell]; exact HTL1.out)
  replace HTL2 := Lib.hid (show TmsAt _ (w2.setCell ⟨w.heap.size, 1, none⟩ (.slice so2 L2.length sc2)).heap.size so2 L2 from by rw [size_setCell]; exact HTL2.out)
  generalize w2.setCell ⟨w.heap.size, 1, none⟩ (.slice so2 L2.length sc2) = w2' at *
  have hH3 : Hid (Head (l.drop (q2)) x3 (flats [] ++ r)) := by
    refine ⟨?_, by have h := (Ex.ok_iff x).1 hok; exact h.2.2 x3 (by rw [hx]; simp)⟩
    rw [hq2.out.2]; simp [flats]
  rw [rounds_succ]
  go_wp2_with fail
  refine (IH3.out (q2) _ hH3 hq2.out.1 _ (HO.out.below HD.out.below) (HT.out.later HD.out.below)).mono ?_
  rintro e w3 ⟨so3, sc3, L3, q3, hL3, hq3, rfl, hTL3, hnL3, _, hlo3, hb⟩
  have hg3 := Lib.hid (show ∀ b o, so3 = some ⟨b, o, none⟩ → w.heap.size < b from fun b o h => by have := hlo3.out b o h; omega)
  replace HD := Lib.hid (HD.out.step hb)
  have HTL3 := Lib.hid (RAt.setOther hTL3 (g := w.heap.size) (j := 2) (v := .slice so3 L3.length sc3) hg3.out)
  replace HTL1 := Lib.hid (RAt.setOther (HTL1.out.later hb) (g := w.heap.size) (j := 2) (v := .slice so3 L3.length sc3) hg1.out)
  replace HTL2 := Lib.hid (RAt.setOther (HTL2.out.later hb) (g := w.heap.size) (j := 2) (v := .slice so3 L3.length sc3) hg2.out)
  have HnL3 := Lib.hid hnL3
  have hws3 : w.heap.size + 1 ≤ w3.heap.size := Nat.le_trans hwt2 hb.size
  obtain ⟨a0, a1, a2, f0, f1, f2⟩ := box3 HD.out.ops
  clear hb hTL3 hlo3 hnL3
  go_wp2_with fail
  clear a0 a1 a2 f0 f1 f2
  replace HD := Lib.hid (HD.out.set (C' := #[.slice so1 L1.length sc1, .slice so2 L2.length sc2, .slice so3 L3.length sc3]) 2 (.slice so3 L3.length sc3) rfl)
  have hwt3 : w.heap.size + 1 ≤ (w3.setCell ⟨w.heap.size, 2, none⟩ (.slice so3 L3.length sc3)).heap.size := by rw [size_setCell]; exact hws3
  replace HTL1 := Lib.hid (show TmsAt _ (w3.setCell ⟨w.heap.size, 2, none⟩ (.slice so3 L3.length sc3)).heap.size so1 L1 from by rw [size_setCell]; exact HTL1.out)
  replace HTL2 := Lib.hid (show TmsAt _ (w3.setCell ⟨w.heap.size, 2, none⟩ (.slice so3 L3.length sc3)).heap.size so2 L2 from by rw [size_setCell]; exact HTL2.out)
  replace HTL3 := Lib.hid (show TmsAt _ (w3.setCell ⟨w.heap.size, 2, none⟩ (.slice so3 L3.length sc3)).heap.size so3 L3 from by rw [size_setCell]; exact HTL3.out)
  generalize w3.setCell ⟨w.heap.size, 2, none⟩ (.slice so3 L3.length sc3) = w3' at *
  have hLL : L1 ++ L2 ++ L3 = flats ([foldE cmpV x1, foldE cmpV x2, foldE cmpV x3]) := by
    simp [flats, hL1.out.1, hL2.out.1, hL3.out.1]
  have h64 : 1 + (L1 : List Tm).length + (L2 : List Tm).length + (L3 : List Tm).length ≤ 64 := by
    have h1 := Hn3.out
    have h2 := congrArg List.length hLL
    simp only [List.length_append] at h2
    omega
  have hokA : ∀ t ∈ (⟨o, ⟨tk, tn, ts⟩, tc⟩ : Tm) :: (L1 ++ L2 ++ L3), t.okT := by
    intro y hy
    rcases List.mem_cons.1 hy with rfl | hy
    · exact Hokt.out
    · simp only [List.mem_append] at hy
      rcases hy with (hy | hy) | hy
      · exact hL1.out.2 y hy
      · exact hL2.out.2 y hy
      · exact hL3.out.2 y hy
  have hend : Hid (q3 ≤ l.length ∧ l.drop (q3) = r) := ⟨hq3.out.1, by rw [hq3.out.2]; simp [flats]⟩
  have HLL := Lib.hid hLL
  have H64 := Lib.hid h64
  have HokA := Lib.hid hokA
  clear hLL h64 hokA
  rw [rounds_succ]
  obtain ⟨hq0, _⟩ := bcell HD.out.below
  obtain ⟨a0, a1, a2, f0, f1, f2⟩ := box3 HD.out.ops
  go_wp2_with fail
  go_region_law (go_simp; go_at_call 38; first | (refine (HC.out L1 L2 L3 so1 so2 so3 sc1 sc2 sc3 _ (HO.out.below HD.out.below) HLL.out H64.out HokA.out (by exact HTL1.out) (by exact HTL2.out) (by exact HTL3.out) HnL1.out HnL2.out HnL3.out).mono ?_; rintro e w5 ⟨so, sc, L, hL, rfl, hTL, hnL, hcL, hloL, hb⟩; replace HD := Lib.hid (HD.out.step hb); have HTL := Lib.hid hTL; have hsz5 := hb.size; clear hb hTL) | (refine (HC.out L1 L2 L3 so1 so2 so3 sc1 sc2 sc3 _ (HO.out.below HD.out.draw.below) HLL.out H64.out HokA.out (by exact HTL1.out) (by exact HTL2.out) (by exact HTL3.out) HnL1.out HnL2.out HnL3.out).mono ?_; rintro e w5 ⟨so, sc, L, hL, rfl, hTL, hnL, hcL, hloL, hb⟩; replace HD := Lib.hid (HD.out.draw.step hb); have HTL := Lib.hid hTL; have hsz5 := hb.size; clear hb hTL))
  all_goals
    go_wp2_with fail
    go_ret2
    refine ⟨so, sc, L, q3, ⟨by rw [hL.out.1, Hfold.out], hL.out.2⟩, hend, by first | rfl | simp, by first | exact HTL.out | exact HTL.out.later (Below.refl _ _).drew, hnL, hcL, fun b' o' h => by have := hloL.out b' o' h; first | omega | (simp at this; omega), by first | exact HD.out.below | exact HD.out.draw.below⟩
theorem reduceF_any (ao : Option Addr) (cap : Nat) (l : List Tm) (hl : l.length ≤ 64) (hokl : ∀ t ∈ l, t.okT) : ∀ x : Ex, x.ok → x.depth ≤ 16 → ∀ (pos : Nat) (r : List Tm), Hid (Head (l.drop pos) x r) → pos ≤ l.length → ∀ w : World, Ops w → TmsAt w w.heap.size ao l →
    Calls Tryz.prog 37 #[.slice ao l.length cap, .int .i64 pos, .func (.func 38) #[] #[]] w (RedF l (foldE cmpV x) r w) := by
  intro x
  induction x using Ex.ind with
  | h x ih =>
    intro hok hdp pos r hH hp w hO hT
    have ih' := fun a ha => ih a ha (((Ex.ok_iff x).1 hok).2.2 a ha) (by have := le_depths ha; have := x.depth_eq; omega)
    have h3 := x.args_le
    rcases hx : x.args with _ | ⟨a, _ | ⟨b, _ | ⟨c, _ | ⟨d, e⟩⟩⟩⟩
    · exact reduceF_0 ao cap l hl hokl x hx hok hdp ih' pos r hH hp w hO hT
    · exact reduceF_1 ao cap l hl hokl x a hx hok hdp ih' pos r hH hp w hO hT
    · exact reduceF_2 ao cap l hl hokl x a b hx hok hdp ih' pos r hH hp w hO hT
    · exact reduceF_3 ao cap l hl hokl x a b c hx hok hdp ih' pos r hH hp w hO hT
    · rw [hx] at h3; simp at h3
end Go.Proofs.YtmikeifkmjhioaaGreatDoor
/- Fold of package expr. -/
namespace Go.Proofs.YtmikeifkmjhioaaGreatDoor
open Go.RowKit Go.Proofs.EB
set_option maxHeartbeats 4000000
set_option maxRecDepth 100000
attribute [local go_sem] World.cell?_alloc_some
/-- What Fold leaves of a list of terms. -/
def foldL (l : List Tm) : List Tm := match treeL l with | some x => (foldE cmpV x).flat | none => []
/-- What a call of Fold leaves. -/
def FoldP (L : List Tm) (w : World) (e : Ending) (w' : World) : Prop := ∃ so sc L', Hid (L' = L ∧ ∀ t ∈ L', t.okT) ∧ e = .returned (.slice so L'.length sc) ∧ TmsAt w' w'.heap.size so L' ∧ (so = none → sc = 0) ∧ L'.length ≤ sc ∧ Hid (∀ b o, so = some ⟨b, o, none⟩ → w.heap.size ≤ b) ∧ Below w.heap.size w w'
theorem exFold_any (ao : Option Addr) (cap : Nat) (l : List Tm) (hl : l.length ≤ maxLen) (hok : ∀ t ∈ l, t.okT) (w : World) (hO : Ops w) (hT : TmsAt w w.heap.size ao l) :
    Calls Tryz.prog 14 #[.slice ao l.length cap] w (FoldP (foldL l) w) := by
  have hV := exValid_any ao cap l hl hok w hO hT
  have HO := Lib.hid hO
  have HT := Lib.hid hT
  cases hvl : validL l
  · have hres : Hid (foldL l = []) := by unfold Hid foldL; rw [treeL_none hvl]
    rw [hvl] at hV
    have HV := Lib.hid hV
    clear hV hvl hok hO hT
    go_enter Tryz.func14, Tryz.ntmps14
    go_wp2_with fail
    refine HV.out.mono ?_
    rintro e w1 ⟨rfl, hb⟩
    go_wp2_with fail
    go_ret
    exact ⟨none, 0, [], ⟨hres.out.symm, by simp⟩, rfl, .nil, fun _ => rfl, by simp, (fun b o h => by simp at h), hb⟩
  · obtain ⟨x, hx, hH, hd, h64⟩ := validL_get hvl
    have hres : Hid (foldL l = (foldE cmpV x).flat) := by unfold Hid foldL; rw [hx]
    have hR := fun w hO hT => reduceF_any ao cap l h64 hok x hH.2 hd 0 [] (Lib.hid (by rw [List.drop_zero]; exact hH)) (Nat.zero_le _) w hO hT
    rw [hvl] at hV
    have HV := Lib.hid hV
    have HR := Lib.hid hR
    clear hV hvl hok hO hT hR hx hH hd
    go_enter Tryz.func14, Tryz.ntmps14
    go_wp2_with fail
    refine HV.out.mono ?_
    rintro e w1 ⟨rfl, hb⟩
    have HB := Lib.hid hb
    clear hb
    go_wp2_with fail
    refine (HR.out _ (HO.out.below HB.out) (HT.out.later HB.out)).mono ?_
    rintro e w2 ⟨so, sc, L, q, hL, _, rfl, hTL, hnL, hcL, hlo, hb⟩
    have HTL := Lib.hid hTL
    have HB2 := Lib.hid (bt HB.out hb)
    clear hTL hb
    go_wp2_with fail
    go_ret
    exact ⟨so, sc, L, ⟨hL.out.1.trans hres.out.symm, hL.out.2⟩, rfl, HTL.out, hnL, hcL, (fun b o h => Nat.le_trans HB.out.size (hlo.out b o h)), HB2.out⟩
end Go.Proofs.YtmikeifkmjhioaaGreatDoor
/- fold and Fold of the reference. -/
namespace Go.Proofs.YtmikeifkmjhioaaGreatDoor
open Go.RowKit Go.Proofs.EB
set_option maxHeartbeats 8000000
set_option maxRecDepth 100000
attribute [local go_sem] World.cell?_alloc_some
/-- The values of the constants among folded operands. -/
def cvals (ys : List Ex) : List V := (ys.filter fun a => a.head.op == 1).map fun a => a.head.v
theorem cvals_snoc (ys : List Ex) (y : Ex) : cvals (ys ++ [y]) = if y.head.op = 1 then cvals ys ++ [y.head.v] else cvals ys := by
  unfold cvals
  rw [List.filter_append, List.map_append]
  by_cases h : y.head.op = 1
  · rw [if_pos h]; simp [h]
  · rw [if_neg h]; simp [h]
theorem cvals_len (ys : List Ex) : (cvals ys).length ≤ ys.length := by unfold cvals; rw [List.length_map]; exact List.length_filter_le _ _
theorem cvals_all {ys : List Ex} (h : (cvals ys).length = ys.length) : (∀ a ∈ ys, a.head.op = 1) ∧ cvals ys = ys.map fun a => a.head.v := by
  unfold cvals at h ⊢
  rw [List.length_map] at h
  have h1 := List.length_filter_eq_length_iff.1 h
  refine ⟨fun a ha => by simpa using h1 a ha, ?_⟩
  rw [List.filter_eq_self.2 h1]
theorem cvals_some {ys : List Ex} (h : (cvals ys).length < ys.length) : ¬ ∀ a ∈ ys, a.head.op = 1 := by
  intro h1
  unfold cvals at h
  rw [List.length_map, List.filter_eq_self.2 (fun a ha => by simpa using h1 a ha)] at h
  omega
/-- The operands, where they lie: their terms below B0, their row in a block of the call's own. -/
def OpsB (B0 : Nat) (x : Ex) (w : World) (e : Ending) (w' : World) : Prop :=
  ∃ (io : Option Addr) (icap : Nat) (its : List Sl), e = .returned (.slice io its.length icap) ∧ Hid (its.map (·.l) = x.args.map Ex.flat ∧ ∀ s ∈ its, s.l.length ≤ s.cap) ∧ RAt encSl 1 w' w'.heap.size io its ∧ (∀ s ∈ its, TmsAt w B0 s.ao s.l) ∧ (∀ b o, io = some ⟨b, o, none⟩ → w.heap.size ≤ b) ∧ Below w.heap.size w w'
theorem roperands_at (B0 : Nat) (ao : Option Addr) (cap : Nat) (l : List Tm) (x : Ex) (hH : Hid (Head l x [] ∧ x.depth ≤ 17)) (hl : l.length ≤ 64) (hcap : l.length ≤ cap) (hok : ∀ t ∈ l, t.okT) (w : World) (hB0 : B0 ≤ w.heap.size) (hT : TmsAt w B0 ao l) :
    Calls Tryz.prog 68 #[.slice ao l.length cap] w (OpsB B0 x w) := by
  have hpos : 1 ≤ l.length := by rw [hH.out.1.1]; have := x.flat_pos; simp; omega
  obtain ⟨b, off, rfl, hbB⟩ := hT.form (by omega)
  have HT := Lib.hid hT
  have Hok := Lib.hid hok
  have hd1 : Hid (l.drop 1 = flats x.args) := by
    have h1 := hH.out.1.1
    rw [Ex.flat_eq] at h1
    unfold Hid
    rw [h1]; simp
  clear hT hok
  go_enter Tryz.func68, Tryz.ntmps68
  go_wp2_with fail
  go_loopw [3, 4] (fun ov av wr => ∃ (p : Nat) (its : List Sl) (ad : Option Addr) (cp : Nat) (zs : List Ex), av = .int .i64 p ∧ ov = .slice ad its.length cp ∧ p ≤ l.length ∧ its.length ≤ p ∧
    Hid ((∃ xs, x.args = xs ++ zs ∧ its.map (·.l) = xs.map Ex.flat) ∧ l.drop p = flats zs ∧ (∀ s ∈ its, s.l.length ≤ s.cap ∧ TmsAt w B0 s.ao s.l)) ∧ Hid (OwnsR encSl 1 wr w.heap.size 23 (.slice ad its.length cp) its) ∧ Hid (Below w.heap.size w wr)) (fun _ av _ => l.length - (intOf av).toNat)
  case atStart => exact ⟨1, [], none, 0, x.args, rfl, rfl, hpos, by simp, ⟨⟨[], rfl, rfl⟩, hd1.out, by simp⟩, OwnsR.nil, Below.refl _ _⟩
  case round =>
    obtain ⟨p, its, ad, cp, zs, rfl, rfl, hp, hip, hX, hown, hB⟩ := hrel
    by_cases hlt : p < l.length
    · cases zs with
      | nil =>
        exfalso
        have h1 := congrArg List.length hX.out.2.1
        simp [flats] at h1
        omega
      | cons z zs' =>
        have hzH : Hid (Head (l.drop p) z (flats zs') ∧ z.depth ≤ 16) := by
          obtain ⟨⟨xs, hxs, _⟩, h2, _⟩ := hX.out
          have hm : z ∈ x.args := by rw [hxs]; simp
          have h3 := ((Ex.ok_iff x).1 hH.out.1.2).2.2 z hm
          have h4 := le_depths hm
          have h5 := hH.out.2
          rw [Ex.depth_eq] at h5
          exact ⟨⟨by rw [h2]; rfl, h3⟩, by omega⟩
        go_wp2_with fail
        refine (rend_any (some ⟨b, off, none⟩) cap l hl Hok.out 16 (by omega) p hp wr ((HT.out.mono hB0).later hB.out)).mono ?_
        rintro e w1 ⟨hb1, hP⟩
        rcases hP with ⟨y, r, q, hY, rfl⟩ | ⟨hF, rfl⟩
        · have hyz : Hid (y = z ∧ r = flats zs') := hY.out.1.uniq hzH.out.1
          have hq : p < q ∧ q ≤ l.length := by
            have h1 := hY.out
            have h2 := congrArg List.length h1.1.1
            have h3 := y.flat_pos
            simp at h2
            omega
          obtain ⟨hq1, hq2⟩ := hq
          have hqc : q ≤ cap := by omega
          have hown1 := OwnsR.below hown.out hb1
          have HB1 := Lib.hid (bt hB.out hb1)
          have hsz1 : w.heap.size ≤ w1.heap.size := HB1.out.size
          obtain ⟨t, ht⟩ : ∃ t : List Tm, t = (l.drop p).take (q - p) := ⟨_, rfl⟩
          have htl : t.length = q - p := by rw [ht, List.length_take, List.length_drop]; omega
          have hCt : (#[Value.slice (some ⟨b, off + p * 5, none⟩) (q - p) (cap - p)] : Array Value).toList = cellsL encSl [⟨some ⟨b, off + p * 5, none⟩, cap - p, t⟩] := by
            simp [cellsL, encSl, htl]
          have hnx : Hid (t = z.flat ∧ l.drop q = flats zs' ∧ TmsAt w B0 (some ⟨b, off + p * 5, none⟩) t) := by
            obtain ⟨⟨⟨h1, _⟩, _, h3⟩, h4, h5⟩ := And.intro hY.out hyz.out
            subst h4
            have h6 : y.flat.length = q - p := by
              have h2 := congrArg List.length h1
              simp at h2
              omega
            refine ⟨by rw [ht, h1, ← h6, List.take_left' rfl], ?_, by rw [ht]; exact (HT.out.drop p).take _⟩
            have h7 : l.drop q = (l.drop p).drop (q - p) := by rw [List.drop_drop]; congr 1; omega
            rw [h7, h1, ← h6, List.drop_left' rfl, h5]
          have Htl := Lib.hid htl
          have HCt := Lib.hid hCt
          clear hb1 hown ht htl hCt
          go_wp2_with (at_builtin; refine wpList_appR (enc := encSl) (m := 1) Tryz.underlying101 infoSl rfl (by decide) encSl_len encSl_one _ w1 rfl (.tmp 13) (.tmp 18) rfl w.heap.size _ its rfl hown1 [⟨some ⟨b, off + p * 5, none⟩, cap - p, t⟩] 1 1 #[Value.slice (some ⟨b, off + p * 5, none⟩) (q - p) (cap - p)] rfl rfl rfl rfl rfl HCt.out rfl (by decide) (by omega) (by unfold maxLen; omega) hsz1 ?_; intro v3 g3 cap3 w10 hv3 hown10 haw10 hb10 hat10 hlt10)
          refine ⟨⟨q, v3, _, _, zs', rfl, rfl, hq2, ?_, ?_, hown10, HB1.out.trans hb10⟩, by simp [intOf]; omega⟩
          · have h1 := congrArg List.length hv3.out
            simp at h1
            omega
          · obtain ⟨⟨xs, h1, h2⟩, _, h4⟩ := hX.out
            obtain ⟨h5, h6, h7⟩ := hnx.out
            refine ⟨⟨xs ++ [z], by rw [h1]; simp, by rw [hv3.out]; simp [h2, h5]⟩, h6, ?_⟩
            intro s hs
            rw [hv3.out] at hs
            rcases List.mem_append.1 hs with hs | hs
            · exact h4 s hs
            · rw [List.mem_singleton.1 hs]
              exact ⟨by show t.length ≤ cap - p; have := Htl.out; omega, h7⟩
        · exfalso
          have := hF.out z _ hzH.out.1
          have := hzH.out.2
          omega
    · have hpe : p = l.length := by omega
      subst hpe
      obtain ⟨aoV, capV, heq, hrV, hloV, _, _, _⟩ := OwnsR.rAt encSl_len hown.out
      simp only [Value.slice.injEq, true_and] at heq
      obtain ⟨rfl, rfl⟩ := heq
      have hfin : OpsB B0 x w (.returned (.slice ad its.length cp)) wr := by
        obtain ⟨⟨xs, h1, h2⟩, h3, h4⟩ := hX.out
        rw [List.drop_length] at h3
        have h5 := flats_nil h3.symm
        subst h5
        rw [List.append_nil] at h1
        exact ⟨ad, cp, its, rfl, ⟨by rw [h1]; exact h2, fun s hs => (h4 s hs).1⟩, hrV, fun s hs => (h4 s hs).2, fun b o h => (hloV b o h).1, hB.out⟩
      have Hfin := Lib.hid hfin
      clear hfin hrV hloV hown hlt
      go_wp2_with fail
      go_ret
      exact Hfin.out
theorem RAt.across {α : Type} {enc : α → List Value} {m : Nat} {w w0 wr : World} {B : Nat} {ao : Option Addr} {l : List α} (h : RAt enc m w0 B ao l) (h0 : Below B w w0) (h1 : Below B w wr) : RAt enc m wr B ao l := by
  rcases h with h | ⟨b, off, e, hlt, hc⟩
  · exact .inl h
  · exact .inr ⟨b, off, e, hlt, fun i hi j u hu => (h1.cell (p := ⟨b, off + i * m + j, none⟩) hlt).trans ((h0.cell (p := ⟨b, off + i * m + j, none⟩) hlt).symm.trans (hc i hi j u hu))⟩
/-- Two owned rows keep apart. -/
def Apart (u v : Value) : Prop := ∀ g, u.ownBlock = some g → v.ownBlock ≠ some g
theorem rfold_any : ∀ x : Ex, x.ok → x.depth ≤ 16 → ∀ (ao : Option Addr) (cap : Nat) (l : List Tm), Hid (l = x.flat) → l.length ≤ 64 → l.length ≤ cap → (∀ t ∈ l, t.okT) → ∀ w : World, TmsAt w w.heap.size ao l →
    Calls Tryz.prog 40 #[.slice ao l.length cap] w (FoldP (foldE cmpV x).flat w) := by
  intro x
  induction x using Ex.ind with
  | h x ih =>
    intro hxo hxd ao cap l hl h64 hcap hok w hT
    have hpos : 0 < l.length := by rw [hl.out]; exact x.flat_pos
    obtain ⟨b, off, rfl, _⟩ := hT.form hpos
    obtain ⟨c0, c1, c2, c3, c4⟩ := RAt.tm hT hpos
    have h0 : l[0] = x.head := by
      have h1 : l = x.head :: flats x.args := hl.out.trans (Ex.flat_eq x)
      subst h1; rfl
    have hokh := hok _ (List.getElem_mem hpos)
    rw [h0] at c0 c1 c2 c3 c4 hokh
    simp only [Nat.zero_mul, Nat.add_zero] at c0 c1 c2 c3 c4
    obtain ⟨hx1, hx2, hx3⟩ := (Ex.ok_iff x).1 hxo
    have hfe := foldE_eq cmpV x
    have hbl : b < w.heap.size := World.block_lt_of_cell? w _ c0
    have hll : l.length = 1 + (flats x.args).length := by rw [hl.out, Ex.flat_eq, List.length_cons]; omega
    by_cases hl1 : l.length = 1
    · have ha : x.args = [] := by
        have := flats_len x.args
        exact List.eq_nil_of_length_eq_zero (by omega)
      have hres : Hid ([x.head] = (foldE cmpV x).flat) := by
        unfold Hid
        rw [hfe, ha]
        unfold foldN
        rw [if_neg (by simp)]
        rfl
      have Hok := Lib.hid hokh
      generalize x.head = t at *
      obtain ⟨o, ⟨tk, tn, ts⟩, tc⟩ := t
      simp only at *
      clear hT hok hl ih hfe hx1 hx2 hx3 hxo hxd h0 hll ha hokh
      rw [hl1]
      clear hl1 hpos h64 hcap
      go_enter Tryz.func40, Tryz.ntmps40
      go_wp2_with fail
      go_ret
      exact ⟨some ⟨w.heap.size, 0, none⟩, 1, [⟨o, ⟨tk, tn, ts⟩, tc⟩], ⟨hres.out, fun y hy => by rw [List.mem_singleton.1 hy]; exact Hok.out⟩, rfl, rAt_block encTm_len (heap_alloc_new _ _) rfl, by simp, by simp, (fun b o h => by simp only [Option.some.injEq, Addr.mk.injEq] at h; omega), al1 _ _⟩
    · have hl1' : ((l.length : Int) == 1) = false := by simp; omega
      have hap : 0 < x.args.length := by
        rcases Nat.eq_zero_or_pos x.args.length with h | h
        · rw [List.eq_nil_of_length_eq_zero h] at hll; simp [flats] at hll; omega
        · exact h
      have hO := fun W hB hT' => roperands_at w.heap.size (some ⟨b, off, none⟩) cap l x ⟨⟨by rw [List.append_nil]; exact hl.out, hxo⟩, by omega⟩ h64 hcap hok W hB hT'
      have hap3 := x.args_le
      have IH := Lib.hid ih
      have HO := Lib.hid hO
      have HT := Lib.hid hT
      have Hfe := Lib.hid hfe
      have Hx := Lib.hid (show _ ∧ _ ∧ _ from ⟨hxo, hx2, hx3⟩)
      have Hokh := Lib.hid hokh
      have HC := Lib.hid (show _ ∧ _ ∧ _ ∧ _ ∧ _ from ⟨c0, c1, c2, c3, c4⟩)
      have Hsub := Lib.hid (show ∀ a ∈ x.args, a.ok ∧ a.depth ≤ 16 ∧ a.flat.length ≤ 64 ∧ ∀ t ∈ a.flat, t.okT by
        intro a ha
        have h3 := le_depths ha
        rw [Ex.depth_eq] at hxd
        have h4 : ∀ t ∈ a.flat, t ∈ l := by
          intro t ht
          rw [hl.out, Ex.flat_eq]
          refine List.mem_cons_of_mem _ ?_
          exact flats_mem ha ht
        have h5 : a.flat.length ≤ l.length := by
          rw [hl.out, Ex.flat_eq x]
          have := flats_mem_len ha
          simp only [List.length_cons]; omega
        exact ⟨hx3 a ha, by omega, by omega, fun t ht => hok t (h4 t ht)⟩)
      have hown0 : OwnsTm (w.alloc (.cells #[.int .i64 x.head.op, .int .i64 x.head.v.k, .int .i64 x.head.v.n, .string x.head.v.s, .int .i64 x.head.c] 48)) w.heap.size (.slice (some ⟨w.heap.size, 0, none⟩) ([x.head] : List Tm).length 1) [x.head] := ownsR_new encTm_len (heap_alloc_new _ _) (Nat.le_refl _) rfl (by simp [maxLen])
      have Hown0 := Lib.hid hown0
      clear hT hok hl ih hO hfe hx1 hx2 hx3 hxo hxd h0 hll hokh hown0
      go_enter Tryz.func40, Tryz.ntmps40
      go_wp2_with fail
      refine (HO.out _ (al1 _ _).size (HT.out.below (al1 _ _))).mono ?_
      rintro e w1 ⟨io, icap, its, rfl, hits, hI, hIs, hIlo, hb1⟩
      have hil : its.length = x.args.length := by have := congrArg List.length hits.out.1; simpa using this
      have HB := Lib.hid (bt (al1 _ _) hb1)
      have Hown1 := Lib.hid (OwnsR.below Hown0.out hb1)
      have HI := Lib.hid hI
      have HIs := Lib.hid (show ∀ s ∈ its, ∀ W, Below w.heap.size w W → TmsAt W w.heap.size s.ao s.l from fun s hs W hW => RAt.across (hIs s hs) (al1 _ _) hW)
      have HIlo := Lib.hid (show ∀ bI oI, io = some ⟨bI, oI, none⟩ → w.heap.size < bI from fun bI oI h => by have := hIlo bI oI h; simp at this; omega)
      have hil1 : its.length ≤ 3 := by omega
      have hil0 : 0 < its.length := by omega
      have Hil := Lib.hid hil
      clear hb1 hI hIs hIlo hil Hown0
      go_wp2_with fail
      go_loopw [3, 4, 6] (fun u v i wr => ∃ (k : Nat) (outl : List Tm) (vs : List V) (ad ad' : Option Addr) (cp cp' : Nat), i = .int .i64 k ∧ u = .slice ad outl.length cp ∧ v = .slice ad' vs.length cp' ∧ k ≤ its.length ∧ vs.length ≤ k ∧ outl.length ≤ 1 + 64 * k ∧ Hid ((outl = x.head :: flats ((x.args.take k).map (foldE cmpV)) ∧ ∀ t ∈ outl, t.okT) ∧ vs = cvals ((x.args.take k).map (foldE cmpV))) ∧ Hid (OwnsTm wr w.heap.size (.slice ad outl.length cp) outl) ∧ Hid (OwnsR encVal 3 wr w.heap.size 31 (.slice ad' vs.length cp') vs) ∧ Hid (Apart (.slice ad' vs.length cp') (.slice ad outl.length cp)) ∧ Hid (RAt encSl 1 wr wr.heap.size io its ∧ ∀ bI oI, io = some ⟨bI, oI, none⟩ → (Value.slice ad outl.length cp).ownBlock ≠ some bI ∧ (Value.slice ad' vs.length cp').ownBlock ≠ some bI) ∧ Hid (Below w.heap.size w wr)) (fun _ _ i _ => its.length - (intOf i).toNat)
      case atStart => exact ⟨0, [x.head], [], some ⟨w.heap.size, 0, none⟩, none, 1, 0, rfl, rfl, rfl, by omega, by simp, by simp, ⟨⟨by simp [flats], fun y hy => by rw [List.mem_singleton.1 hy]; exact Hokh.out⟩, by simp [cvals]⟩, Hown1.out, OwnsR.nil, (fun g h => by simp [Value.ownBlock] at h), ⟨HI.out, fun bI oI h => by have := HIlo.out bI oI h; simp [Value.ownBlock]; omega⟩, HB.out⟩
      case round =>
        obtain ⟨k, outl, vs, ad, ad', cp, cp', rfl, rfl, rfl, hk, hvl, hol, hX, hown, hownV, hap, hIO, hB⟩ := hrel
        have hsz := hB.out.size
        by_cases hlt : k < its.length
        · obtain ⟨bi, oi, rfl, _⟩ := hIO.out.1.form hil0
          have d0 := RAt.cell hIO.out.1 hlt (j := 0) (u := .slice its[k].ao its[k].l.length its[k].cap) rfl
          simp only [Nat.mul_one, Nat.add_zero] at d0
          have hka : k < x.args.length := by have := Hil.out; omega
          have hs1 : its[k].l = (x.args[k]).flat := by
            have h1 := congrArg (fun z => z[k]?) hits.out.1
            simpa [List.getElem?_map, List.getElem?_eq_getElem hlt, List.getElem?_eq_getElem hka] using h1
          have hmem := List.getElem_mem hka
          obtain ⟨g1, g2, g3, g4⟩ := Hsub.out _ hmem
          have hE := IH.out x.args[k] hmem g1 g2 its[k].ao its[k].cap its[k].l hs1 (by rw [hs1]; exact g3) (hits.out.2 _ (List.getElem_mem hlt)) (by rw [hs1]; exact g4) wr ((HIs.out _ (List.getElem_mem hlt) _ hB.out).mono hsz)
          have htk : x.args.take (k + 1) = x.args.take k ++ [x.args[k]] := by rw [List.take_succ_eq_append_getElem hka]
          have hfo := foldE_ok cmpV x.args[k] g1
          have Htk := Lib.hid (congrArg (List.map (foldE cmpV)) htk)
          have HE := Lib.hid hE
          have hbl' : bi < wr.heap.size := World.block_lt_of_cell? wr _ d0
          have hlt2 : k + 1 ≤ its.length := hlt
          have Hfo := Lib.hid (show (foldE cmpV x.args[k]).ok ∧ (foldE cmpV x.args[k]).flat.length ≤ 64 from ⟨hfo.1, by omega⟩)
          clear hE htk hs1 hmem g1 g2 g3 g4 hfo
          generalize its[k] = s at *
          generalize x.args[k] = xk at *
          simp only [List.map_append, List.map_cons, List.map_nil] at Htk
          generalize foldE cmpV xk = y at *
          go_wp2_with fail
          refine HE.out.mono ?_
          rintro e w2 ⟨so, sc, L, hL, rfl, hTL, hnL, hcL, hlo, hb⟩
          have hLpos : 0 < L.length := by rw [hL.out.1]; exact y.flat_pos
          obtain ⟨bs, os, rfl, _⟩ := hTL.form hLpos
          obtain ⟨s0, s1, s2, s3, s4⟩ := RAt.tm hTL hLpos
          have hL0 : L[0] = y.head := by
            have h1 : L = y.head :: flats y.args := hL.out.1.trans (Ex.flat_eq y)
            subst h1; rfl
          rw [hL0] at s0 s1 s2 s3 s4
          simp only [Nat.zero_mul, Nat.add_zero] at s0 s1 s2 s3 s4
          have hL64 : L.length ≤ 64 := by rw [hL.out.1]; exact Hfo.out.2
          have hbs := hlo.out bs os rfl
          have hbs2 : bs < w2.heap.size := World.block_lt_of_cell? w2 _ s0
          have HTL := Lib.hid hTL
          have HB2 := Lib.hid (bt hB.out hb)
          have hsz2 := HB2.out.size
          have hown2 := OwnsR.below hown.out hb
          have hownV2 := OwnsR.below hownV.out hb
          have hI2 := hIO.out.1.later hb
          have hlo1 := Lib.hid (OwnsR.lt hown.out)
          have hlo2 := Lib.hid (OwnsR.lt hownV.out)
          have hwr2 : wr.heap.size ≤ w2.heap.size := hb.size
          clear hTL hb hL0
          by_cases h1 : y.head.op = 1
          · have H1 := Lib.hid h1
            rw [h1] at s0
            clear h1
            have hown2' := Lib.hid hown2
            have hI2' := Lib.hid hI2
            clear hown2 hI2
            go_wp2_with (first
              | (at_builtin
                 refine wpList_appR (enc := encVal) (m := 3) Tryz.underlying33 infoV rfl (by decide) encVal_len encVal_one _ w2 rfl (.tmp 38) (.tmp 43) rfl w.heap.size _ vs rfl hownV2 [y.head.v] 1 1 #[.int .i64 y.head.v.k, .int .i64 y.head.v.n, .string y.head.v.s] rfl rfl rfl rfl rfl rfl rfl (by decide) (by omega) (by unfold maxLen; omega) hsz2 ?_
                 intro vs3 g3 cap3 w3 hv3 hownV3 haw3 hb3 hat3 hlt3
                 have hown3 := hown2'.out.away haw3 (by
                   rcases hg : (Value.slice ad outl.length cp).ownBlock with _ | g
                   · exact .inl rfl
                   · exact .inr (fun e => hap.out g e.symm hg))
                 have hTX := (HTL.out.away haw3 (Nat.le_refl _) (fun b o h e => by
                   simp only [Option.some.injEq, Addr.mk.injEq] at h
                   have := (hlo2.out b e.symm).2
                   omega)).mono haw3.size
                 have hI3 := (hI2'.out.away haw3 (Nat.le_refl _) (fun bI oI h => fun e => (hIO.out.2 bI oI h).2 e.symm)).mono haw3.size
                 have HB3 := Lib.hid (HB2.out.trans hb3)
                 have hsz3 := HB3.out.size
                 have hsz23 := haw3.size
                 have hap3 : Hid (Apart (.slice (some ⟨g3, 0, none⟩) vs3.length cap3) (.slice ad outl.length cp)) := by
                   intro g hg e
                   simp only [Value.ownBlock, Option.some.injEq] at hg
                   subst hg
                   rcases hat3 with h | h
                   · exact hap.out _ h e
                   · have := (hlo1.out _ e).2; omega
                 have hIO3 : ∀ bI oI, some (⟨bi, oi, none⟩ : Addr) = some ⟨bI, oI, none⟩ → (Value.slice ad outl.length cp).ownBlock ≠ some bI ∧ (Value.slice (some ⟨g3, 0, none⟩) vs3.length cap3).ownBlock ≠ some bI := by
                   intro bI oI h
                   refine ⟨(hIO.out.2 bI oI h).1, fun e => ?_⟩
                   simp only [Value.ownBlock, Option.some.injEq] at e
                   subst e
                   rcases hat3 with h' | h'
                   · exact (hIO.out.2 _ oI h).2 h'
                   · simp only [Option.some.injEq, Addr.mk.injEq] at h; omega
                 clear hat3 haw3 hb3 hown2' hI2')
              | (at_builtin
                 refine wpList_copyR (enc := encTm) (m := 5) Tryz.underlying23 infoTm rfl (by decide) encTm_len encTm_one w3 rfl (.tmp 45) (.tmp 46) rfl w.heap.size _ outl rfl hown3 w3.heap.size (some ⟨bs, os, none⟩) sc L rfl hTX (by simp) (by omega) (by unfold maxLen; omega) hsz3 ?_
                 intro out4 v4 w4 hout4 hown4 haw4 hb4 hat4 _
                 obtain ⟨ad4, cp4, rfl, _, hlo4, _, _, _⟩ := OwnsR.rAt encTm_len hown4))
            have hV4 := hownV3.away haw4 (by
              rcases hg : (Value.slice (some ⟨g3, 0, none⟩) vs3.length cap3).ownBlock with _ | g
              · exact .inl rfl
              · exact .inr (fun e => hap3.out g hg e.symm))
            have hap4 : Hid (Apart (.slice (some ⟨g3, 0, none⟩) vs3.length cap3) (.slice ad4 out4.length cp4)) := by
              intro g hg e
              rcases hat4 with h | h
              · rw [h] at e; exact hap3.out g hg e
              · rw [h] at e
                have := (OwnsR.lt hownV3 g hg).2
                simp only [Option.some.injEq] at e
                omega
            have hI4 := (hI3.away haw4 (Nat.le_refl _) (fun bI oI h => fun e => (hIO3 bI oI h).1 e.symm)).mono haw4.size
            have hI4' : ∀ bI oI, some (⟨bi, oi, none⟩ : Addr) = some ⟨bI, oI, none⟩ → (Value.slice ad4 out4.length cp4).ownBlock ≠ some bI ∧ (Value.slice (some ⟨g3, 0, none⟩) vs3.length cap3).ownBlock ≠ some bI := by
              intro bI oI h
              refine ⟨fun e => ?_, (hIO3 bI oI h).2⟩
              rcases hat4 with h' | h'
              · rw [h'] at e; exact (hIO3 bI oI h).1 e
              · rw [h'] at e
                simp only [Option.some.injEq, Addr.mk.injEq] at e h
                have := hsz23
                omega
            have HR := Lib.hid (show _ ∧ _ ∧ _ ∧ _ from ⟨hI4, hI4', hown4, hV4⟩)
            clear hI4 hI4' hV4 hown4 hat4 haw4 hTX hown3 hownV3 hI3
            go_wp2_with fail
            refine ⟨⟨k + 1, out4, vs3, ad4, some ⟨g3, 0, none⟩, cp4, cap3, by go_num, rfl, rfl, hlt2, by rw [hv3.out]; simp; omega, ?_, ⟨⟨?_, ?_⟩, ?_⟩, HR.out.2.2.1, HR.out.2.2.2, hap4, ⟨HR.out.1, HR.out.2.1⟩, HB3.out.trans hb4⟩, by simp [intOf]; omega⟩
            · rw [hout4.out]; simp; omega
            · rw [hout4.out, hX.out.1.1, Htk.out, flats_app, hL.out.1]; simp [flats]
            · intro t ht
              rw [hout4.out] at ht
              rcases List.mem_append.1 ht with ht | ht
              · exact hX.out.1.2 t ht
              · exact hL.out.2 t ht
            · rw [hv3.out, hX.out.2, Htk.out, cvals_snoc, if_pos H1.out]
          · have y1 : (y.head.op == 1) = false := by simpa using h1
            have hTX := HTL.out
            have H1 := Lib.hid h1
            clear h1
            go_wp2_with (at_builtin; refine wpList_copyR (enc := encTm) (m := 5) Tryz.underlying23 infoTm rfl (by decide) encTm_len encTm_one w2 rfl (.tmp 45) (.tmp 46) rfl w.heap.size _ outl rfl hown2 w2.heap.size (some ⟨bs, os, none⟩) sc L rfl hTX (by simp) ?_ ?_ hsz2 ?_)
            · omega
            · unfold maxLen; omega
            intro out4 v4 w4 hout4 hown4 haw4 hb4 hat4 _
            obtain ⟨ad4, cp4, rfl, _, hlo4, _, _, _⟩ := OwnsR.rAt encTm_len hown4
            have hV4 := hownV2.away haw4 (by
              rcases hg : (Value.slice ad' vs.length cp').ownBlock with _ | g
              · exact .inl rfl
              · exact .inr (fun e => hap.out g hg e.symm))
            have hap4 : Hid (Apart (.slice ad' vs.length cp') (.slice ad4 out4.length cp4)) := by
              intro g hg e
              rcases hat4 with h | h
              · rw [h] at e; exact hap.out g hg e
              · rw [h] at e
                have := (OwnsR.lt hownV2 g hg).2
                simp only [Option.some.injEq] at e
                omega
            have hI4 := (hI2.away haw4 (Nat.le_refl _) (fun bI oI h => fun e => (hIO.out.2 bI oI h).1 e.symm)).mono haw4.size
            have hI4' : ∀ bI oI, some (⟨bi, oi, none⟩ : Addr) = some ⟨bI, oI, none⟩ → (Value.slice ad4 out4.length cp4).ownBlock ≠ some bI ∧ (Value.slice ad' vs.length cp').ownBlock ≠ some bI := by
              intro bI oI h
              refine ⟨fun e => ?_, (hIO.out.2 bI oI h).2⟩
              rcases hat4 with h' | h'
              · rw [h'] at e; exact (hIO.out.2 bI oI h).1 e
              · rw [h'] at e
                simp only [Option.some.injEq, Addr.mk.injEq] at e h
                have := HB2.out.size
                omega
            have HR := Lib.hid (show _ ∧ _ ∧ _ ∧ _ from ⟨hI4, hI4', hown4, hV4⟩)
            clear hI4 hI4' hV4 hown4 hat4 haw4 hTX hown2 hownV2 hI2
            go_wp2_with fail
            refine ⟨⟨k + 1, out4, vs, ad4, ad', cp4, cp', by go_num, rfl, rfl, hlt2, by omega, ?_, ⟨⟨?_, ?_⟩, ?_⟩, HR.out.2.2.1, HR.out.2.2.2, hap4, ⟨HR.out.1, HR.out.2.1⟩, HB2.out.trans hb4⟩, by simp [intOf]; omega⟩
            · rw [hout4.out]; simp; omega
            · rw [hout4.out, hX.out.1.1, Htk.out, flats_app, hL.out.1]; simp [flats]
            · intro t ht
              rw [hout4.out] at ht
              rcases List.mem_append.1 ht with ht | ht
              · exact hX.out.1.2 t ht
              · exact hL.out.2 t ht
            · rw [hX.out.2, Htk.out, cvals_snoc, if_neg H1.out]
        · have hke : k = its.length := by omega
          subst hke
          have htake : x.args.take its.length = x.args := List.take_of_length_le (by have := Hil.out; omega)
          rw [htake] at hX
          obtain ⟨aoV, capV, heq, hrO, hloO, hnO, hcO, _⟩ := OwnsR.rAt encTm_len hown.out
          simp only [Value.slice.injEq, true_and] at heq
          obtain ⟨rfl, rfl⟩ := heq
          obtain ⟨aoV, capV, heq, hrV, _, _, _, _⟩ := OwnsR.rAt encVal_len hownV.out
          simp only [Value.slice.injEq, true_and] at heq
          obtain ⟨rfl, rfl⟩ := heq
          have hysl : (x.args.map (foldE cmpV)).length = its.length := by rw [List.length_map]; have := Hil.out; omega
          have hle3 : (x.args.map (foldE cmpV)).length ≤ 3 := by omega
          have hysok : oks (x.args.map (foldE cmpV)) := by
            intro y hy
            obtain ⟨a, ha, rfl⟩ := List.mem_map.1 hy
            exact (foldE_ok cmpV a (Hx.out.2.2 a ha)).1
          have hkeep : ∀ W, Below wr.heap.size wr W → foldE cmpV x = Ex.node x.head (x.args.map (foldE cmpV)) → FoldP (foldE cmpV x).flat w (.returned (.slice ad outl.length cp)) W := by
            intro W hW he
            refine ⟨ad, cp, outl, ⟨?_, hX.out.1.2⟩, rfl, hrO.later hW, hnO, hcO, (fun b o h => (hloO b o h).1), bt hB.out hW⟩
            rw [he, hX.out.1.1, Ex.flat_eq, node_head, node_args _ _ hle3]
          have Hkeep := Lib.hid hkeep
          by_cases hall : vs.length < its.length
          · have hnode : foldE cmpV x = Ex.node x.head (x.args.map (foldE cmpV)) := by
              rw [Hfe.out]
              unfold foldN
              rw [if_neg]
              rintro ⟨_, h2, _⟩
              exact cvals_some (by rw [← hX.out.2, hysl]; exact hall) h2
            have Hfin := Lib.hid (hkeep wr (Below.refl _ _) hnode)
            have hall' : (vs.length : Int) < (its.length : Int) := by omega
            clear hkeep hnode hrO hloO hnO hcO hrV hysok hle3 hysl
            go_wp2_with fail
            go_ret
            exact Hfin.out
          · have hvl2 : vs.length = its.length := by omega
            obtain ⟨hc1, hc2⟩ := cvals_all (ys := x.args.map (foldE cmpV)) (by rw [← hX.out.2, hysl]; exact hvl2)
            have hvs : vs = (x.args.map (foldE cmpV)).map fun a => a.head.v := by rw [hX.out.2]; exact hc2
            have hA := rapply_any x.head.op ad' cp' vs (by rw [Hx.out.2.1, ← Hil.out, hvl2]) (by omega) (by
              intro v hv
              rw [hvs] at hv
              obtain ⟨a, ha, rfl⟩ := List.mem_map.1 hv
              exact (ok_const (hysok a ha) (hc1 a ha)).2.2.1) wr hrV
            have hc0 : wr.cell? ⟨b, off, none⟩ = some (.int .i64 x.head.op) := (hB.out.cell (p := ⟨b, off, none⟩) hbl).trans HC.out.1
            have hbl2 : b < wr.heap.size := by omega
            have hvB := appV_valid cmpV x.head.op vs (by
              intro v hv
              rw [hvs] at hv
              obtain ⟨a, ha, rfl⟩ := List.mem_map.1 hv
              exact (ok_const (hysok a ha) (hc1 a ha)).2.2.1)
            have hne : (x.args.map (foldE cmpV)) ≠ [] := by intro h; rw [h] at hysl; simp at hysl; omega
            have hyes : ((appV cmpV x.head.op vs).k = 0 → foldE cmpV x = Ex.node x.head (x.args.map (foldE cmpV))) ∧ ((appV cmpV x.head.op vs).k ≠ 0 → (foldE cmpV x).flat = [⟨1, appV cmpV x.head.op vs, 0⟩]) := by
              rw [Hfe.out]
              unfold foldN
              rw [← hvs]
              refine ⟨fun h => by rw [if_neg (fun hh => hh.2.2 h)], fun h => ?_⟩
              rw [if_pos ⟨hne, hc1, h⟩]; rfl
            have HA := Lib.hid hA
            have Hyes := Lib.hid hyes
            have HvB := Lib.hid hvB
            have hall' : ¬ (vs.length : Int) < (its.length : Int) := by omega
            have Hvs := Lib.hid hvs
            clear hkeep hrO hloO hnO hcO hrV hysok hle3 hysl hc1 hc2 hvs hA hvB hne hyes hvl2 hall
            go_wp2_with fail
            refine HA.out.mono ?_
            rintro e w2 ⟨k2, n2, s2, hv2, rfl, hb⟩
            have HW := Lib.hid (bt hb (al1 w2 (.cells #[.int .i64 k2, .int .i64 n2, .string s2] 31)))
            clear hb
            by_cases hk0 : k2 = 0
            · have yk : (k2 == 0) = true := by simpa using hk0
              have Hfin := Lib.hid (Hkeep.out _ HW.out (Hyes.out.1 (by rw [hv2.out]; exact hk0)))
              clear hk0
              go_wp2_with fail
              go_ret
              exact Hfin.out
            · have yk : (k2 == 0) = false := by simpa using hk0
              have Hfl := Lib.hid (Hyes.out.2 (by rw [hv2.out]; exact hk0))
              have Hv2 := Lib.hid (show vB ⟨k2, n2, s2⟩ = true from by rw [← hv2.out]; exact HvB.out)
              clear hk0
              go_wp2_with fail
              go_ret
              have hnew : ((w2.alloc (.cells #[.int .i64 k2, .int .i64 n2, .string s2] 31)).alloc (.cells #[.int .i64 1, .int .i64 k2, .int .i64 n2, .string s2, .int .i64 0] 48)).heap[w2.heap.size + 1]? = some (.cells #[.int .i64 1, .int .i64 k2, .int .i64 n2, .string s2, .int .i64 0] 48 (0, 0)) := by simpa using heap_alloc_new (w2.alloc (.cells #[.int .i64 k2, .int .i64 n2, .string s2] 31)) (.cells #[.int .i64 1, .int .i64 k2, .int .i64 n2, .string s2, .int .i64 0] 48)
              refine ⟨some ⟨w2.heap.size + 1, 0, none⟩, 1, [⟨1, ⟨k2, n2, s2⟩, 0⟩], ⟨?_, ?_⟩, rfl, rAt_block encTm_len hnew rfl, by simp, by simp, (fun b o h => by simp only [Option.some.injEq, Addr.mk.injEq] at h; have h1 := HW.out.size; have h2 := hB.out.size; simp at h1 h; omega), bt (bt hB.out HW.out) (al1 _ _)⟩
              · rw [Hfl.out, hv2.out]
              · intro y hy
                rw [List.mem_singleton.1 hy]
                exact ⟨⟨by simp, by simp⟩, vB_okV Hv2.out, ⟨by simp, by simp⟩⟩
theorem rFold_any (ao : Option Addr) (cap : Nat) (l : List Tm) (hl : l.length ≤ maxLen) (hcap : l.length ≤ cap) (hok : ∀ t ∈ l, t.okT) (w : World) (hT : TmsAt w w.heap.size ao l) :
    Calls Tryz.prog 16 #[.slice ao l.length cap] w (FoldP (foldL l) w) := by
  have hV := rexValid_any ao cap l hl hok w hT
  have HT := Lib.hid hT
  cases hvl : validL l
  · have hres : Hid (foldL l = []) := by unfold Hid foldL; rw [treeL_none hvl]
    rw [hvl] at hV
    have HV := Lib.hid hV
    clear hV hvl hok hT
    go_enter Tryz.func16, Tryz.ntmps16
    go_wp2_with fail
    refine HV.out.mono ?_
    rintro e w1 ⟨rfl, hb⟩
    go_wp2_with fail
    go_ret
    exact ⟨none, 0, [], ⟨hres.out.symm, by simp⟩, rfl, .nil, fun _ => rfl, by simp, (fun b o h => by simp at h), hb⟩
  · obtain ⟨x, hx, hH, hd, h64⟩ := validL_get hvl
    have hres : Hid (foldL l = (foldE cmpV x).flat) := by unfold Hid foldL; rw [hx]
    have hR := fun W hT => rfold_any x hH.2 hd ao cap l (Lib.hid (by have := hH.1; simpa using this)) h64 hcap hok W hT
    rw [hvl] at hV
    have HV := Lib.hid hV
    have HR := Lib.hid hR
    clear hV hvl hok hT hR hx hH hd
    go_enter Tryz.func16, Tryz.ntmps16
    go_wp2_with fail
    refine HV.out.mono ?_
    rintro e w1 ⟨rfl, hb⟩
    have HB := Lib.hid hb
    clear hb
    go_wp2_with fail
    refine (HR.out _ (HT.out.later HB.out)).mono ?_
    rintro e w2 ⟨so, sc, L, hL, rfl, hTL, hnL, hcL, hlo, hb⟩
    have HTL := Lib.hid hTL
    have HB2 := Lib.hid (bt HB.out hb)
    clear hTL hb
    go_wp2_with fail
    go_ret
    exact ⟨so, sc, L, ⟨hL.out.1.trans hres.out.symm, hL.out.2⟩, rfl, HTL.out, hnL, hcL, (fun b o h => Nat.le_trans HB.out.size (hlo.out b o h)), HB2.out⟩
end Go.Proofs.YtmikeifkmjhioaaGreatDoor
/- The walk of the law ExprFold. -/
namespace Go.Proofs.YtmikeifkmjhioaaGreatDoor
open Go.RowKit Go.Proofs.EB
set_option maxHeartbeats 8000000
set_option maxRecDepth 100000
attribute [local go_sem] World.cell?_alloc_some
theorem foldL_len (l : List Tm) : (foldL l).length ≤ 64 := by
  cases hv : validL l
  · unfold foldL; rw [treeL_none hv]; simp
  · obtain ⟨x, hx, hH, hd, h64⟩ := validL_get hv
    unfold foldL
    rw [hx]
    have h1 := (foldE_ok cmpV x hH.2).2.2
    have h2 : l.length = x.flat.length := by have := congrArg List.length hH.1; simpa using this
    show (foldE cmpV x).flat.length ≤ 64
    omega
theorem W_ExprFold (ao : Option Addr) (len cap : Nat) (zs : List Int) (eo : Option Addr) (ecap : Nat) (l : List Tm) (w : World) (h : IntsAt w ao len cap zs) (hl : l.length ≤ maxLen) (hE : (TmsAt w w.heap.size eo l ∧ ∀ t ∈ l, t.okT) ∧ l.length ≤ ecap) (hO : Ops w) (ht : Tab w) :
    Calls Tryz.prog 4 #[.slice ao len cap, .slice eo l.length ecap] w fun e w' => e = .returned (.bool true) ∧ Below w.heap.size w w' := by
  have HO := Lib.hid hO
  have HTb := Lib.hid ht
  have HE := Lib.hid hE
  clear hO ht hE
  go_enter Tryz.func4, Tryz.ntmps4
  go_wp2_with fail
  refine (new_any _ _ _ _ _ h).mono ?_
  rintro e w1 ⟨g, rfl, hg, hT, hb1⟩
  have hB1 := hb1.size
  generalize hBd : w1.heap.size = B at *
  have hTk : Took w1 B g w1 := ⟨hT, away_refl _ _, by omega⟩
  have HTk := Lib.hid hTk
  have hgB := tape_lt hT
  have Hb1 := Lib.hid hb1
  have HAl := Lib.hid (show ∀ wr, Took w1 B g wr → Below w.heap.size w wr from fun wr hk => Hb1.out.trans (hk.2.1.below (by omega) (fun k hk => by simp at hk; omega)))
  clear hT h hTk hBd hb1
  go_wp2_with fail
  refine (light_any eo none ecap 0 l [] hl (by simp) w1 (HE.out.1.1.later Hb1.out) .nil).mono ?_
  rintro e w2 ⟨lb, hlb, rfl, rfl⟩
  have hV : ∃ L2 : List Tm, L2.length ≤ 64 ∧ (∀ W, Below w.heap.size w W → Calls Tryz.prog 14 #[if lb = true then .slice eo l.length ecap else .slice none 0 0] W (FoldP L2 W)) ∧ (∀ W, Below w.heap.size w W → Calls Tryz.prog 16 #[if lb = true then .slice eo l.length ecap else .slice none 0 0] W (FoldP L2 W)) := by
    cases lb
    · refine ⟨foldL [], foldL_len _, fun W hW => ?_, fun W hW => ?_⟩
      · exact exFold_any none 0 [] (by simp) (by simp) W (HO.out.below hW) .nil
      · exact rFold_any none 0 [] (by simp) (by simp) (by simp) W .nil
    · refine ⟨foldL l, foldL_len _, fun W hW => ?_, fun W hW => ?_⟩
      · exact exFold_any eo ecap l hl HE.out.1.2 W (HO.out.below hW) (HE.out.1.1.later hW)
      · exact rFold_any eo ecap l hl HE.out.2 HE.out.1.2 W (HE.out.1.1.later hW)
  obtain ⟨L2, hL2, hV1, hV2⟩ := hV
  have HV1 := Lib.hid hV1
  have HV2 := Lib.hid hV2
  clear hV1 hV2 hlb
  cases lb
  all_goals
    go_wp2_with fail
    refine (expr_any B g 2 (by decide) (by decide) 2 (by decide) 3 (by unfold Hid; decide) w1 HTk.out.1 HTk.out.2.2).mono ?_
    rintro e w3 ⟨xo, xcap, xl, x, hx, rfl, hxT, hxn, hxlo, hxc, hK⟩
    have HK := Lib.hid (HTk.out.trans hK)
    have hv3 := expr_valid hx.out (by decide)
    have hxlm : xl.length ≤ maxLen := by unfold maxLen; omega
    have HX := Lib.hid (show _ ∧ _ from ⟨hx.out.2.2.2.2.1, hxc⟩)
    have Hxlo := Lib.hid (show ∀ b o, xo = some ⟨b, o, none⟩ → B ≤ b from fun b o h => by have := hxlo b o h; have := HTk.out.2.2; omega)
    have HxT := Lib.hid hxT
    have htree : treeL xl = some x := treeL_of ⟨by rw [hx.out.1]; simp, hx.out.2.1⟩ (by have := hx.out.2.2.1; omega) hv3.2
    have hfx : foldL xl = (foldE cmpV x).flat := by unfold foldL; rw [htree]
    obtain ⟨y, hy⟩ : ∃ y, y = foldE cmpV x := ⟨_, rfl⟩
    have hfo := foldE_ok cmpV x hx.out.2.1
    have hxlen : x.flat.length ≤ 64 := by rw [← hx.out.1]; exact hv3.2
    have hy64 : y.flat.length ≤ 64 := by rw [hy]; omega
    have hydep : y.depth ≤ 16 := by rw [hy]; have := hx.out.2.2.1; omega
    have hyok : y.ok := by rw [hy]; exact hfo.1
    have hyH : Head y.flat y [] := ⟨by simp, hyok⟩
    have hytree : treeL y.flat = some y := treeL_of hyH hydep hy64
    have hyv : validL y.flat = true := validL_iff.2 ⟨y, hyH, hydep, hy64⟩
    have hfy : foldL y.flat = y.flat := by unfold foldL; rw [hytree]; show (foldE cmpV y).flat = _; rw [hy, foldE_twice]
    have hev : ∀ row, evalL cmpV xl row = evalL cmpV y.flat row := fun row => by
      rw [evalL_tree row htree, evalL_tree row hytree, evalX_fold _ _ _ hx.out.2.1, evalX_fold _ _ _ hyok, hy, foldE_eval cmpV row x hx.out.2.1]
    have hty : ∀ types k, tyL types xl = (k, 0) → tyL types y.flat = (k, 0) := fun types k hk => by
      unfold tyL at hk ⊢
      rw [hv3.1, htree] at hk
      rw [hyv, hytree]
      by_cases ha : types.any noTy = true
      · rw [if_pos (.inr ha)] at hk
        simp at hk
      · rw [if_neg (by simp [ha])] at hk ⊢
        show y.fold (tyT types) = (k, 0)
        rw [hy]
        exact foldE_type cmpV types x hx.out.2.1 k hk
    rw [← hy] at hfx
    have Hfx := Lib.hid hfx
    have Hfy := Lib.hid hfy
    have Hev := Lib.hid hev
    have Hty := Lib.hid hty
    have Hyv := Lib.hid hyv
    clear hK hxT hxlo hv3 hxn HTk Hb1 htree hfx hy hfo hxlen hydep hyok hyH hytree hyv hfy hev hty hxc hx
    generalize y.flat = yl at *
    have hw3B := HK.out.2.2
    have hylm : yl.length ≤ maxLen := by unfold maxLen; omega
    go_wp2_with fail
    refine (exFold_any xo xcap xl hxlm HX.out.1 w3 (HO.out.below (HAl.out _ HK.out)) HxT.out).mono ?_
    rw [Hfx.out]
    rintro e w4 ⟨yo, ycap, yl', hyl, rfl, hyT, hyn, hyc, hylo, hb⟩
    obtain ⟨rfl, hyok⟩ := hyl.out
    have HK := Lib.hid (HK.out.below hb)
    have HxT := Lib.hid (HxT.out.later hb)
    have HyT := Lib.hid hyT
    have Hyok := Lib.hid hyok
    have Hylo := Lib.hid (show ∀ b o, yo = some ⟨b, o, none⟩ → B ≤ b from fun b o h => by have := hylo.out b o h; omega)
    clear hb hyT hyok hylo hyl
    go_wp2_with fail
    refine (rFold_any xo xcap xl hxlm HX.out.2 HX.out.1 w4 HxT.out).mono ?_
    rw [Hfx.out]
    rintro e w5 ⟨ro, rcap, rl, hrl, rfl, hrT, _, _, _, hb⟩
    obtain ⟨rfl, _⟩ := hrl.out
    replace HK := Lib.hid (HK.out.below hb)
    replace HxT := Lib.hid (HxT.out.later hb)
    replace HyT := Lib.hid (HyT.out.later hb)
    have HrT := Lib.hid hrT
    clear hb hrT hrl
    go_wp2_with fail
    refine (rsame_refl yo ro ycap rcap rl hylm w5 HyT.out HrT.out).mono ?_
    rintro e w6 ⟨rfl, hb⟩
    replace HK := Lib.hid (HK.out.below hb)
    replace HxT := Lib.hid (HxT.out.later hb)
    replace HyT := Lib.hid (HyT.out.later hb)
    clear hb HrT
    go_wp2_with fail
    refine (HV1.out _ (HAl.out _ HK.out)).mono ?_
    rintro e w7 ⟨po, pcap, pl, hpl, rfl, hpT, _, _, _, hb⟩
    obtain ⟨rfl, _⟩ := hpl.out
    replace HK := Lib.hid (HK.out.below hb)
    replace HxT := Lib.hid (HxT.out.later hb)
    replace HyT := Lib.hid (HyT.out.later hb)
    have HpT := Lib.hid hpT
    clear hb hpT hpl
    go_wp2_with fail
    refine (HV2.out _ (HAl.out _ HK.out)).mono ?_
    rintro e w8 ⟨qo, qcap, ql, hql, rfl, hqT, _, _, _, hb⟩
    obtain ⟨rfl, _⟩ := hql.out
    replace HK := Lib.hid (HK.out.below hb)
    replace HxT := Lib.hid (HxT.out.later hb)
    replace HyT := Lib.hid (HyT.out.later hb)
    replace HpT := Lib.hid (HpT.out.later hb)
    have HqT := Lib.hid hqT
    clear hb hqT hql
    go_wp2_with fail
    refine (rsame_refl po qo pcap qcap ql (by unfold maxLen; omega) w8 HpT.out HqT.out).mono ?_
    rintro e w9 ⟨rfl, hb⟩
    replace HK := Lib.hid (HK.out.below hb)
    replace HxT := Lib.hid (HxT.out.later hb)
    replace HyT := Lib.hid (HyT.out.later hb)
    clear hb HpT HqT HV1 HV2 hL2
    go_wp2_with fail
    refine (exFold_any yo ycap rl hylm Hyok.out w9 (HO.out.below (HAl.out _ HK.out)) HyT.out).mono ?_
    rw [Hfy.out]
    rintro e w10 ⟨so, scap, sl, hsl, rfl, hsT, _, _, _, hb⟩
    obtain ⟨rfl, _⟩ := hsl.out
    replace HK := Lib.hid (HK.out.below hb)
    replace HxT := Lib.hid (HxT.out.later hb)
    replace HyT := Lib.hid (HyT.out.later hb)
    have HsT := Lib.hid hsT
    clear hb hsT hsl
    go_wp2_with fail
    refine (rsame_refl so yo scap ycap sl hylm w10 HsT.out HyT.out).mono ?_
    rintro e w11 ⟨rfl, hb⟩
    replace HK := Lib.hid (HK.out.below hb)
    replace HxT := Lib.hid (HxT.out.later hb)
    replace HyT := Lib.hid (HyT.out.later hb)
    clear hb HsT
    have hVy := exValid_any yo ycap sl hylm Hyok.out w11 (HO.out.below (HAl.out _ HK.out)) HyT.out
    rw [Hyv.out] at hVy
    have HVy := Lib.hid hVy
    clear hVy
    go_wp2_with fail
    refine HVy.out.mono ?_
    rintro e w12 ⟨rfl, hb⟩
    replace HK := Lib.hid (HK.out.below hb)
    replace HxT := Lib.hid (HxT.out.later hb)
    replace HyT := Lib.hid (HyT.out.later hb)
    clear hb
    go_wp2_with fail
    refine (trow_any B g 2 w12 (by decide) HK.out.1 HK.out.2.2).mono ?_
    rintro e w13 ⟨zo, zcap, zl, rfl, hzl, hzv, hzr, hK, hzlo, _⟩
    replace HxT := Lib.hid (tms_took HxT.out Hxlo.out hK hgB)
    replace HyT := Lib.hid (tms_took HyT.out Hylo.out hK hgB)
    have HzR := Lib.hid (rowAt_rAt hzr)
    have Hzlo := Lib.hid (show ∀ b o, zo = some ⟨b, o, none⟩ → B ≤ b from fun b o h => by have := hzlo b o h; have := HK.out.2.2; omega)
    have Hzv := Lib.hid (show ∀ v ∈ zl, v.s.size ≤ maxLen from fun v hv => vB_size (hzv v hv))
    replace HK := Lib.hid (HK.out.trans hK)
    clear hK hzv hzr hzlo
    go_wp2_with fail
    refine (next_any B g 2 w13 (by decide) (by decide) HK.out.1 HK.out.2.2).mono ?_
    rintro e w14 ⟨r1, rfl, hr10, hr11, hK⟩
    replace HxT := Lib.hid (tms_took HxT.out Hxlo.out hK hgB)
    replace HyT := Lib.hid (tms_took HyT.out Hylo.out hK hgB)
    replace HzR := Lib.hid (tms_took HzR.out Hzlo.out hK hgB)
    replace HK := Lib.hid (HK.out.trans hK)
    have hr12 : r1 < 2 := by omega
    clear hK hr11
    go_wp2_with fail
    refine (next_any B g 2 w14 (by decide) (by decide) HK.out.1 HK.out.2.2).mono ?_
    rintro e w15 ⟨r2, rfl, hr20, hr21, hK⟩
    replace HxT := Lib.hid (tms_took HxT.out Hxlo.out hK hgB)
    replace HyT := Lib.hid (tms_took HyT.out Hylo.out hK hgB)
    replace HzR := Lib.hid (tms_took HzR.out Hzlo.out hK hgB)
    replace HK := Lib.hid (HK.out.trans hK)
    have hr22 : r2 < 2 := by omega
    clear hK hr21
    have hI0 := rAt_block (enc := encInt) (l := [1 + r1, 1 + r2]) encInt_len (heap_alloc_new w15 (.cells #[.int .i64 (1 + r1), .int .i64 (1 + r2)] 3)) rfl
    have HI0 := Lib.hid hI0
    have hAl15 := al1 w15 (.cells #[.int .i64 (1 + r1), .int .i64 (1 + r2)] 3)
    replace HK := Lib.hid (HK.out.below hAl15)
    replace HxT := Lib.hid (HxT.out.later hAl15)
    replace HyT := Lib.hid (HyT.out.later hAl15)
    replace HzR := Lib.hid (HzR.out.later hAl15)
    have HB := Lib.hid (HAl.out _ HK.out)
    clear hI0 hAl15
    go_wp2_with fail
    refine (exType_any xo (some ⟨w15.heap.size, 0, none⟩) xcap 2 xl [1 + r1, 1 + r2] hxlm HX.out.1 (by simp [maxLen]) _ (HO.out.below HB.out) HxT.out HI0.out).mono ?_
    rintro e w16 ⟨fa, fm, hf, rfl, hb⟩
    replace HB := Lib.hid (bt HB.out hb)
    replace HxT := Lib.hid (HxT.out.later hb)
    replace HyT := Lib.hid (HyT.out.later hb)
    replace HzR := Lib.hid (HzR.out.later hb)
    replace HI0 := Lib.hid (HI0.out.later hb)
    clear hb
    go_wp2_with fail
    refine (exType_any yo (some ⟨w15.heap.size, 0, none⟩) ycap 2 sl [1 + r1, 1 + r2] hylm Hyok.out (by simp [maxLen]) _ (HO.out.below HB.out) HyT.out HI0.out).mono ?_
    rintro e w17 ⟨ga, gm, hgt, rfl, hb⟩
    replace HB := Lib.hid (bt HB.out hb)
    replace HxT := Lib.hid (HxT.out.later hb)
    replace HyT := Lib.hid (HyT.out.later hb)
    replace HzR := Lib.hid (HzR.out.later hb)
    clear hb
    have hgu := guardV
    have hzm : zl.length ≤ maxLen := by unfold maxLen; omega
    go_wp2_with fail
    refine (exEval_any xo zo xcap zcap xl zl hxlm HX.out.1 hzm Hzv.out _ (HO.out.below HB.out) HxT.out HzR.out).mono ?_
    rintro e w18 ⟨k1, m1, s1, hv1, rfl, hb⟩
    replace HB := Lib.hid (bt HB.out hb)
    replace HyT := Lib.hid (HyT.out.later hb)
    replace HzR := Lib.hid (HzR.out.later hb)
    clear hb
    go_wp2_with fail
    refine (exEval_any yo zo ycap zcap sl zl hylm Hyok.out hzm Hzv.out _ (HO.out.below HB.out) HyT.out HzR.out).mono ?_
    rintro e w19 ⟨k2, m2, s2, hv2, rfl, hb⟩
    replace HB := Lib.hid (bt HB.out hb)
    clear hb
    have hsame : (⟨k1, m1, s1⟩ : V) = ⟨k2, m2, s2⟩ := hv1.out.symm.trans ((Hev.out zl).trans hv2.out)
    simp only [V.mk.injEq] at hsame
    obtain ⟨rfl, rfl, rfl⟩ := hsame
    have heq : ∀ w, (binOp .eql 31 (.agg #[.int .i64 k1, .int .i64 m1, .string s1]) (.agg #[.int .i64 k1, .int .i64 m1, .string s1])).run Tryz.prog w = .ok (.bool true) w := fun w => by rw [eqlV]; simp
    by_cases hf0 : fm = 0
    · subst hf0
      have h5 := (Hty.out _ fa hf.out).symm.trans hgt.out
      simp only [Prod.mk.injEq] at h5
      obtain ⟨rfl, rfl⟩ := h5
      have yf : (fa == fa) = true := by simp
      go_wp2_with fail
      refine (awake_any _ (HO.out.below HB.out) (tab_below HTb.out HB.out)).mono ?_
      rintro e w20 ⟨rfl, hb⟩
      replace HB := Lib.hid (bt HB.out hb)
      clear hb
      go_wp2_with fail
      go_ret
      exact ⟨rfl, HB.out⟩
    · have yf : (fm != 0) = true := by simpa using hf0
      clear hf0
      go_wp2_with fail
      refine (awake_any _ (HO.out.below HB.out) (tab_below HTb.out HB.out)).mono ?_
      rintro e w20 ⟨rfl, hb⟩
      replace HB := Lib.hid (bt HB.out hb)
      clear hb
      go_wp2_with fail
      go_ret
      exact ⟨rfl, HB.out⟩
end Go.Proofs.YtmikeifkmjhioaaGreatDoor
