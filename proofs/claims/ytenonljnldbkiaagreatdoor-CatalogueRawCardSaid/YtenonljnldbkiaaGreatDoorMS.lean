/- The checker of package catalogue in memory; find, findTable, hasStore, source. -/
import Derived.Test.YtenonljnldbkiaaGreatDoorMD
namespace Go.Proofs.YtenonljnldbkiaaGreatDoor
open Go.RowKit Go.Proofs.EB Go.Proofs.TX
set_option maxHeartbeats 4000000
set_option maxRecDepth 100000
attribute [local go_sem] World.cell?_alloc_some

theorem box_at' {w : World} {g i : Nat} {C : Array Value} {T : TypeId} {u : Value} (h : w.heap[g]? = some (.cells C T (0, 0))) (hi : C[i]? = some u) : w.cell? ⟨g, i, none⟩ = some u := by simp [World.cell?, h, hi]
/-- The columns of a store in memory. -/
structure Cn where
  ns : SL ByteArray
  ts : SL Int
def encCn (c : Cn) : List Value := [.slice c.ns.ao c.ns.l.length c.ns.cap, .slice c.ts.ao c.ts.l.length c.ts.cap]
theorem encCn_len (c : Cn) : (encCn c).length = 2 := rfl
theorem encCn_one (c : Cn) : ∀ u ∈ encCn c, u.oneCell' = true := by intro u hu; simp [encCn] at hu; rcases hu with rfl | rfl <;> rfl
theorem encStr'_len (s : ByteArray) : (encStr' s).length = 1 := rfl
theorem encStr'_one (s : ByteArray) : ∀ u ∈ encStr' s, u.oneCell' = true := by intro u hu; simp [encStr'] at hu; subst hu; rfl
def Cn.cs (c : Cn) : Cs := (c.ns.l, c.ts.l)
/-- A row lies in a block that nobody writes. -/
def InP (Pr : Nat → Prop) (ao : Option Addr) : Prop := ∀ b o, ao = some ⟨b, o, none⟩ → Pr b
/-- The blocks of which Pr speaks are as they were. -/
structure Keep (Pr : Nat → Prop) (w w' : World) : Prop where
  os : w'.os = w.os
  tape : w'.tape = w.tape
  output : w'.output = w.output
  size : w.heap.size ≤ w'.heap.size
  block : ∀ k, k < w.heap.size → Pr k → w'.heap[k]? = w.heap[k]?
theorem Keep.refl (Pr : Nat → Prop) (w : World) : Keep Pr w w := ⟨rfl, rfl, rfl, Nat.le_refl _, fun _ _ _ => rfl⟩
theorem Keep.trans {Pr : Nat → Prop} {a b c : World} (h : Keep Pr a b) (k : Keep Pr b c) : Keep Pr a c :=
  ⟨k.os.trans h.os, k.tape.trans h.tape, k.output.trans h.output, Nat.le_trans h.size k.size, fun i hi hp => (k.block i (Nat.lt_of_lt_of_le hi h.size) hp).trans (h.block i hi hp)⟩
theorem Keep.of_below {Pr : Nat → Prop} {w w' : World} (h : Below w.heap.size w w') : Keep Pr w w' := ⟨h.os, h.tape, h.output, h.size, fun k hk _ => h.block k hk⟩
theorem Keep.sub {Pr Qr : Nat → Prop} {w w' : World} (h : Keep Pr w w') (hs : ∀ k, Qr k → Pr k) : Keep Qr w w' := ⟨h.os, h.tape, h.output, h.size, fun k hk hq => h.block k hk (hs k hq)⟩
theorem Keep.below {Pr : Nat → Prop} {w w' : World} {B : Nat} (h : Keep Pr w w') (hB : B ≤ w.heap.size) (hl : ∀ k, k < B → Pr k) : Below B w w' := ⟨h.os, h.tape, h.output, h.size, fun k hk => h.block k (by omega) (hl k hk)⟩
theorem Keep.box {Pr : Nat → Prop} {w w' : World} {k : Nat} {o : Obj} (h : Keep Pr w w') (hp : Pr k) (hk : w.heap[k]? = some o) : w'.heap[k]? = some o := (h.block k (Array.getElem?_eq_some_iff.1 hk).1 hp).trans hk
theorem Keep.setCell {Pr : Nat → Prop} {w w' : World} (h : Keep Pr w w') {p : Addr} (hp : ¬ Pr p.block) (u : Value) : Keep Pr w (w'.setCell p u) :=
  ⟨h.os, h.tape, h.output, by have := h.size; simpa [World.setCell] using this, fun k hk hq => by rw [Below.heap_setCell _ _ _ _ (fun e => hp (e ▸ hq))]; exact h.block k hk hq⟩
theorem RAt.keep {α : Type} {enc : α → List Value} {m : Nat} {Pr : Nat → Prop} {w w' : World} {ao : Option Addr} {l : List α} (h : RAt enc m w w.heap.size ao l) (hk : Keep Pr w w') (hp : InP Pr ao) : RAt enc m w' w'.heap.size ao l := by
  rcases h with h0 | ⟨b, off, e, hlt, hc⟩
  · exact .inl h0
  · refine .inr ⟨b, off, e, Nat.lt_of_lt_of_le hlt hk.size, fun i hi j u hu => ?_⟩
    rw [World.cell?_of_block (hk.block b hlt (hp b off e))]
    exact hc i hi j u hu
structure CnOk (Pr : Nat → Prop) (w : World) (c : Cn) : Prop where
  ns : StrsS w w.heap.size c.ns
  ts : IntsS w w.heap.size c.ts
  n : InP Pr c.ns.ao
  t : InP Pr c.ts.ao
theorem RdS.keep {α : Type} {enc : α → List Value} {m : Nat} {P : World → Nat → α → Prop} {Pr : Nat → Prop} {w w' : World} {s : SL α} (h : RdS enc m P w w.heap.size s) (hk : Keep Pr w w') (hp : InP Pr s.ao) (hP : ∀ a, P w w.heap.size a → P w' w'.heap.size a) : RdS enc m P w' w'.heap.size s :=
  ⟨RAt.keep h.row hk hp, h.nil, h.cap, h.len, fun a ha => hP a (h.each a ha)⟩
theorem CnOk.keep {Pr : Nat → Prop} {w w' : World} {c : Cn} (h : CnOk Pr w c) (hk : Keep Pr w w') : CnOk Pr w' c :=
  ⟨RdS.keep h.ns hk h.n fun _ h => h, RdS.keep h.ts hk h.t fun _ h => h, h.n, h.t⟩
theorem CnOk.sub {Pr Qr : Nat → Prop} {w : World} {c : Cn} (h : CnOk Pr w c) (hs : ∀ k, Pr k → Qr k) : CnOk Qr w c := ⟨h.ns, h.ts, fun b o e => hs b (h.n b o e), fun b o e => hs b (h.t b o e)⟩

/-- A checker: its box, its names, the columns of its stores. -/
structure ChkV (Pr : Nat → Prop) (w : World) (B g : Nat) (c : Cat) (nv : Value) (nms : List ByteArray) (sv : Value) (sts : List Cn) (num err : Int) : Prop where
  box : w.heap[g]? = some (.cells (c.cells ++ #[nv, sv, .int .i64 num, .int .i64 err]) 90 (0, 0))
  hB : B ≤ w.heap.size
  cat : CatAt w B c
  low : ∀ k, k < B → Pr k
  top : ∀ k, Pr k → k < w.heap.size
  hg : ¬ Pr g
  on : OwnsR encStr' 1 w B 9 nv nms
  os : OwnsR encCn 2 w B 95 sv sts
  pn : ∀ k, nv.ownBlock = some k → ¬ Pr k ∧ k ≠ g
  ps : ∀ k, sv.ownBlock = some k → ¬ Pr k ∧ k ≠ g
  pd : nv.ownBlock = none ∨ nv.ownBlock ≠ sv.ownBlock
  each : ∀ s ∈ sts, CnOk Pr w s
def Chk (Pr : Nat → Prop) (w : World) (B g : Nat) (c : Cat) (nms : List ByteArray) (sts : List Cn) (num err : Int) : Prop := ∃ nv sv, ChkV Pr w B g c nv nms sv sts num err
theorem ChkV.below {Pr : Nat → Prop} {w w' : World} {B g : Nat} {c : Cat} {nv : Value} {nms : List ByteArray} {sv : Value} {sts : List Cn} {num err : Int} (h : ChkV Pr w B g c nv nms sv sts num err) (hb : Below w.heap.size w w') : ChkV Pr w' B g c nv nms sv sts num err :=
  { h with box := (hb.block _ (Array.getElem?_eq_some_iff.1 h.box).1).trans h.box, hB := Nat.le_trans h.hB hb.size, top := fun k hk => Nat.lt_of_lt_of_le (h.top k hk) hb.size, cat := h.cat.below (hb.mono h.hB) (Nat.le_refl _), on := h.on.below hb, os := h.os.below hb, each := fun s hs => (h.each s hs).keep (.of_below hb) }
theorem Chk.below {Pr : Nat → Prop} {w w' : World} {B g : Nat} {c : Cat} {nms : List ByteArray} {sts : List Cn} {num err : Int} (h : Chk Pr w B g c nms sts num err) (hb : Below w.heap.size w w') : Chk Pr w' B g c nms sts num err := by
  obtain ⟨nv, sv, h⟩ := h; exact ⟨nv, sv, h.below hb⟩
/-- New blocks may be protected. -/
theorem Chk.guard {Pr : Nat → Prop} {w w' : World} {B g : Nat} {c : Cat} {nms : List ByteArray} {sts : List Cn} {num err : Int} (h0 : Chk Pr w B g c nms sts num err) (hb : Below w.heap.size w w') (Qr : Nat → Prop) (hq : ∀ k, Qr k → w.heap.size ≤ k ∧ k < w'.heap.size) : Chk (fun k => Pr k ∨ Qr k) w' B g c nms sts num err := by
  obtain ⟨nv, sv, h1⟩ := h0
  have h := h1.below hb
  have hgs := (Array.getElem?_eq_some_iff.1 h1.box).1
  refine ⟨nv, sv, { h with low := fun k hk => .inl (h.low k hk), top := ?_, hg := ?_, pn := fun k hk => ⟨?_, (h.pn k hk).2⟩, ps := fun k hk => ⟨?_, (h.ps k hk).2⟩, each := fun s hs => (h.each s hs).sub fun _ => .inl }⟩
  · rintro k (h1 | h1)
    · exact h.top k h1
    · exact (hq k h1).2
  · rintro (h2 | h2)
    · exact h.hg h2
    · have := (hq _ h2).1; omega
  · rintro (h2 | h2)
    · exact (h.pn k hk).1 h2
    · have := (hq _ h2).1; have := (h1.on.lt k hk).2; omega
  · rintro (h2 | h2)
    · exact (h.ps k hk).1 h2
    · have := (hq _ h2).1; have := (h1.os.lt k hk).2; omega
theorem Chk.unguard {Pr Qr : Nat → Prop} {w : World} {B g : Nat} {c : Cat} {nms : List ByteArray} {sts : List Cn} {num err : Int} (h : Chk Pr w B g c nms sts num err) (hq : ∀ k, Qr k → Pr k) (hB : ∀ k, k < B → Qr k) (he : ∀ s ∈ sts, CnOk Qr w s) : Chk Qr w B g c nms sts num err := by
  obtain ⟨nv, sv, h⟩ := h
  exact ⟨nv, sv, { h with low := hB, top := fun k hk => h.top k (hq k hk), hg := fun k => h.hg (hq _ k), pn := fun k hk => ⟨fun q => (h.pn k hk).1 (hq _ q), (h.pn k hk).2⟩, ps := fun k hk => ⟨fun q => (h.ps k hk).1 (hq _ q), (h.ps k hk).2⟩, each := he }⟩
/-- What a walk reads of a checker. -/
theorem Chk.read {Pr : Nat → Prop} {w : World} {B g : Nat} {c : Cat} {nms : List ByteArray} {sts : List Cn} {num err : Int} (h : Chk Pr w B g c nms sts num err) :
    ∃ na ncap sa scap, w.cell? ⟨g, 8, none⟩ = some (.slice na nms.length ncap) ∧ w.cell? ⟨g, 9, none⟩ = some (.slice sa sts.length scap) ∧ w.cell? ⟨g, 10, none⟩ = some (.int .i64 num) ∧ w.cell? ⟨g, 11, none⟩ = some (.int .i64 err) ∧
      RAt encStr' 1 w w.heap.size na nms ∧ RAt encCn 2 w w.heap.size sa sts ∧ nms.length ≤ ncap ∧ ncap ≤ maxLen ∧ sts.length ≤ scap ∧ scap ≤ maxLen := by
  obtain ⟨nv, sv, h⟩ := h
  obtain ⟨na, ncap, rfl, hr, _, _, h1, h2⟩ := OwnsR.rAt encStr'_len h.on
  obtain ⟨sa, scap, rfl, hs, _, _, h3, h4⟩ := OwnsR.rAt encCn_len h.os
  have hb := h.box
  unfold Cat.cells at hb
  exact ⟨na, ncap, sa, scap, box_at' hb rfl, box_at' hb rfl, box_at' hb rfl, box_at' hb rfl, hr, hs, h1, h2, h3, h4⟩
theorem Chk.catCells {Pr : Nat → Prop} {w : World} {B g : Nat} {c : Cat} {nms : List ByteArray} {sts : List Cn} {num err : Int} (h : Chk Pr w B g c nms sts num err) :
    w.cell? ⟨g, 0, none⟩ = some (.slice c.ts.ao c.ts.l.length c.ts.cap) ∧ w.cell? ⟨g, 1, none⟩ = some (.slice c.vs.ao c.vs.l.length c.vs.cap) := by
  obtain ⟨nv, sv, h⟩ := h
  have hb := h.box
  unfold Cat.cells at hb
  exact ⟨box_at' hb rfl, box_at' hb rfl⟩
theorem Chk.cat {Pr : Nat → Prop} {w : World} {B g : Nat} {c : Cat} {nms : List ByteArray} {sts : List Cn} {num err : Int} (h : Chk Pr w B g c nms sts num err) : CatAt w w.heap.size c ∧ B ≤ w.heap.size := by
  obtain ⟨nv, sv, h⟩ := h
  exact ⟨h.cat.below (Below.refl _ _) h.hB, h.hB⟩
theorem below_drewN (B : Nat) (w : World) (n : Nat) : Below B w (w.drewN n) := ⟨rfl, rfl, rfl, Nat.le_refl _, fun _ _ => rfl⟩
theorem find_any (Pr : Nat → Prop) (B g : Nat) (c : Cat) (nms : List ByteArray) (sts : List Cn) (num err : Int) (x : ByteArray) (w : World) (h : Chk Pr w B g c nms sts num err) (hn : sts.length ≤ nms.length) :
    Calls Tryz.prog 45 #[.pointer (some ⟨g, 0, none⟩), .string x] w (Gives (.int .i64 (idx x (nms.take sts.length))) w) := by
  obtain ⟨na, ncap, sa, scap, c8, c9, _, _, hr, _, l1, l2, l3, l4⟩ := h.read
  have hlen : (nms.take sts.length).length = sts.length := by rw [List.length_take]; omega
  have hF := Lib.hid (fun n => (idxS_any x na ncap (nms.take sts.length) (by rw [hlen]; omega) (w.drewN n) ((hr.take _).later (below_drewN _ w n))).mono fun e w' ⟨h1, h2⟩ => (⟨h1, h2.symm⟩ : e = _ ∧ w' = _))
  rw [hlen] at hF
  have z1 : sts.length ≤ ncap := by omega
  have z2 : (sts.length : Int) ≤ (ncap : Int) := by omega
  unfold maxLen at l2 l4
  clear h hr hlen hn
  go_enter Tryz.func45, Tryz.ntmps45
  go_wp2_with fail
  go_quiet ((go_at_call 91; exact Calls.quiet_of_same (hF.out _)))
  go_wp2_with fail
  go_ret
  exact ⟨rfl, below_drewN _ _ _⟩
end Go.Proofs.YtenonljnldbkiaaGreatDoor
/- Functions of the checker: declare, findTable, hasStore, source, key. -/
namespace Go.Proofs.YtenonljnldbkiaaGreatDoor
open Go.RowKit Go.Proofs.EB Go.Proofs.TX
set_option maxHeartbeats 4000000
set_option maxRecDepth 100000
attribute [local go_sem] World.cell?_alloc_some

theorem infoS' : (Tryz.prog.info? 9).map (fun i => (i.zero, i.size, i.bytes)) = some (some (.string ⟨#[]⟩), 1, 16) := by kernel_rfl
theorem infoI' : (Tryz.prog.info? 3).map (fun i => (i.zero, i.size, i.bytes)) = some (some (.int .i64 0), 1, 8) := by kernel_rfl
theorem infoCn : (Tryz.prog.info? 95).map (fun i => (i.zero, i.size, i.bytes)) = some (some (.agg #[.slice none 0 0, .slice none 0 0]), 2, 48) := by kernel_rfl
theorem away_set (w : World) (g i : Nat) (v : Value) : Away (some g) w (w.setCell ⟨g, i, none⟩ v) :=
  ⟨rfl, rfl, rfl, by simp [World.setCell], fun k _ hne => Below.heap_setCell _ _ _ _ (fun e => hne (by rw [e]))⟩
/-- The names of a checker after an append. -/
theorem ChkV.named {Pr : Nat → Prop} {w w3 : World} {B g g3 cap : Nat} {c : Cat} {nv : Value} {nms l3 : List ByteArray} {sv : Value} {sts : List Cn} {num err : Int} (h : ChkV Pr w B g c nv nms sv sts num err)
    (ho : OwnsR encStr' 1 w3 B 9 (.slice (some ⟨g3, 0, none⟩) l3.length cap) l3) (ha : Away nv.ownBlock w w3) (hat : nv.ownBlock = some g3 ∨ w.heap.size ≤ g3) :
    ChkV Pr (w3.setCell ⟨g, 8, none⟩ (.slice (some ⟨g3, 0, none⟩) l3.length cap)) B g c (.slice (some ⟨g3, 0, none⟩) l3.length cap) l3 sv sts num err ∧ Keep Pr w (w3.setCell ⟨g, 8, none⟩ (.slice (some ⟨g3, 0, none⟩) l3.length cap)) := by
  have hgs := (Array.getElem?_eq_some_iff.1 h.box).1
  have hk : Keep Pr w w3 := ⟨ha.os, ha.tape, ha.output, ha.size, fun k hk hp => ha.block k hk (fun e => (h.pn k e.symm).1 hp)⟩
  have hk2 := hk.setCell (p := ⟨g, 8, none⟩) h.hg (.slice (some ⟨g3, 0, none⟩) l3.length cap)
  have hbx : w3.heap[g]? = some (.cells (c.cells ++ #[nv, sv, .int .i64 num, .int .i64 err]) 90 (0, 0)) :=
    (ha.block g hgs (fun e => (h.pn g e.symm).2 rfl)).trans h.box
  have hA2 := away_set w3 g 8 (.slice (some ⟨g3, 0, none⟩) l3.length cap)
  have hg3 : g3 ≠ g := by
    rcases hat with e | e
    · exact (h.pn g3 e).2
    · omega
  have hp3 : ¬ Pr g3 := by
    rcases hat with e | e
    · exact (h.pn g3 e).1
    · intro hp; have := h.top g3 hp; omega
  have hos : OwnsR encCn 2 w3 B 95 sv sts := h.os.away ha (by
    rcases h.pd with e | e
    · rw [e]; cases hv : sv.ownBlock <;> simp
    · exact .inr fun k => e k.symm)
  refine ⟨⟨?_, Nat.le_trans h.hB hk2.size, h.cat.below (hk2.below h.hB h.low) (Nat.le_refl _), h.low, fun k hp => Nat.lt_of_lt_of_le (h.top k hp) hk2.size, h.hg, ho.away hA2 (.inr ?_), hos.away hA2 (.inr fun e => (h.ps g e).2 rfl), ?_, h.ps, ?_, fun s hs => (h.each s hs).keep hk2⟩, hk2⟩
  · have := heap_setCell_same w3 g 8 _ _ (.slice (some ⟨g3, 0, none⟩) l3.length cap) hbx
    rw [this]
    simp [Cat.cells]
  · simp [Value.ownBlock]; exact hg3
  · intro k e
    simp [Value.ownBlock] at e
    subst e
    exact ⟨hp3, hg3⟩
  · right
    intro e
    simp only [Value.ownBlock] at e
    rcases hat with h1 | h1
    · rcases h.pd with e2 | e2
      · rw [e2] at h1; cases h1
      · rw [h1] at e2; exact e2 e
    · have := (h.os.lt g3 e.symm).2; omega
/-- What declare leaves. -/
def DeclP (Pr : Nat → Prop) (B g : Nat) (c : Cat) (nms : List ByteArray) (sts : List Cn) (num err : Int) (x : ByteArray) (w : World) (e : Ending) (w' : World) : Prop :=
  e = .returned (.int .i64 (nameE x nms)) ∧ Chk Pr w' B g c (nms ++ [x]) sts num err ∧ Keep Pr w w'
theorem declare_any (Pr : Nat → Prop) (B g : Nat) (c : Cat) (nms : List ByteArray) (sts : List Cn) (num err : Int) (x : ByteArray) (hx : x.size ≤ maxLen) (w : World) (h : Chk Pr w B g c nms sts num err) (hn : nms.length ≤ 10000) :
    Calls Tryz.prog 118 #[.pointer (some ⟨g, 0, none⟩), .string x] w (DeclP Pr B g c nms sts num err x w) := by
  obtain ⟨na, ncap, sa, scap, c8, c9, _, _, hr, _, l1, l2, l3, l4⟩ := h.read
  have hN := Lib.hid (checkName_any x hx na ncap nms (by unfold maxLen; omega) w hr)
  obtain ⟨nv, sv, hV⟩ := h
  obtain ⟨hB, hown, hbx, hpn⟩ := (⟨hV.hB, hV.on, hV.box, hV.pn⟩ : _ ∧ _ ∧ _ ∧ _)
  have hnv : nv = .slice na nms.length ncap := by
    have := box_at' (i := 8) hbx (by unfold Cat.cells; rfl)
    rw [c8] at this; exact (Option.some.inj this).symm
  subst hnv
  have hgs := (Array.getElem?_eq_some_iff.1 hbx).1
  have HV := Lib.hid hV
  have Hbx := Lib.hid hbx
  have Hpn := Lib.hid hpn
  clear hr hbx hpn hV
  obtain ⟨r, hr⟩ : ∃ r, nameE x nms = r := ⟨_, rfl⟩
  rw [hr] at hN
  have Hr := Lib.hid hr
  clear hr
  go_enter Tryz.func118, Tryz.ntmps118
  go_wp2_with fail
  refine hN.out.mono ?_
  rintro e w1 ⟨rfl, rfl⟩
  go_wp2_with (at_builtin; refine wpList_appR (enc := encStr') (m := 1) Tryz.underlying40 infoS' rfl (by decide) encStr'_len encStr'_one _ w rfl (.tmp 16) (.tmp 18) rfl B _ nms rfl hown [x] 1 1 #[.string x] rfl rfl rfl rfl rfl rfl rfl (by decide) (by omega) (by unfold maxLen; omega) hB ?_; intro l3 g3 cap3 w3 hl3 hown3 haw3 hb3 hat3 hlt3; have n8 := (haw3.block g hgs (fun e => (Hpn.out g e.symm).2 rfl)).trans Hbx.out; have f8 : w3.frozen? ⟨g, 8, none⟩ = false := (by simp [World.frozen?, n8]); have d8 := (by exact box_at' (i := 8) n8 (by unfold Cat.cells; rfl)))
  go_ret
  obtain ⟨k1, k2⟩ := HV.out.named hown3 haw3 hat3
  exact ⟨ret_i Hr.out.symm, ⟨_, _, by rw [← hl3.out]; exact k1⟩, k2⟩
end Go.Proofs.YtenonljnldbkiaaGreatDoor
