/- Bags in memory. -/
import Derived.Test.YtdckpjkbchibjaaBa
import Derived.Test.YtdckpjkbchibjaaSl
namespace Go.Proofs.Ytdckpjkbchibjaa
open Go.RowKit Go.Proofs.EB
set_option maxHeartbeats 1000000

structure Be where
  r : SL V
  n : Int
def Be.en (e : Be) : En := (e.r.l, e.n)
def ens (l : List Be) : List En := l.map Be.en
def encBe (e : Be) : List Value := [.slice e.r.ao e.r.l.length e.r.cap, .int .i64 e.n]
theorem encBe_len (e : Be) : (encBe e).length = 2 := rfl
theorem encBe_one (e : Be) : ∀ u ∈ encBe e, u.oneCell' = true := by
  intro u hu
  simp only [encBe, List.mem_cons, List.not_mem_nil, or_false] at hu
  rcases hu with rfl | rfl <;> rfl
/-- A slice of values that reads as a row. -/
structure RwS (w : World) (B : Nat) (r : SL V) : Prop where
  row : RowAt w B r.ao r.l
  nil : r.ao = none → r.cap = 0
  cap : r.l.length ≤ r.cap
  len : r.l.length ≤ maxLen
def n64 (n : Int) : Prop := -9223372036854775808 ≤ n ∧ n ≤ 9223372036854775807
structure BeOk (w : World) (B : Nat) (e : Be) : Prop where
  row : RwS w B e.r
  n : n64 e.n
abbrev BagS (w : World) (B : Nat) (s : SL Be) : Prop := RdS encBe 2 BeOk w B s
section
variable {w w' : World} {B B' : Nat}
theorem RwS.below {r : SL V} (h : RwS w B r) (hb : Below B w w') (hB : B ≤ B') : RwS w' B' r := ⟨(h.row.below hb).mono hB, h.nil, h.cap, h.len⟩
theorem RwS.later {r : SL V} (h : RwS w w.heap.size r) (hb : Below w.heap.size w w') : RwS w' w'.heap.size r := h.below hb hb.size
theorem BeOk.below {e : Be} (h : BeOk w B e) (hb : Below B w w') (hB : B ≤ B') : BeOk w' B' e := ⟨h.row.below hb hB, h.n⟩
theorem BagS.below {s : SL Be} (h : BagS w B s) (hb : Below B w w') (hB : B ≤ B') : BagS w' B' s := RdS.below h hb hB fun _ h => h.below hb hB
theorem BagS.later {s : SL Be} (h : BagS w w.heap.size s) (hb : Below w.heap.size w w') : BagS w' w'.heap.size s := BagS.below h hb hb.size
theorem BagS.drop {b off cap : Nat} {l : List Be} (h : BagS w B ⟨some ⟨b, off, none⟩, cap, l⟩) (k : Nat) (hk : k ≤ cap) : BagS w B ⟨some ⟨b, off + k * 2, none⟩, cap - k, l.drop k⟩ :=
  ⟨h.row.drop k, fun e => by simp at e, by have := h.cap; simp only [List.length_drop] at *; omega, by have := h.len; simp only [List.length_drop] at *; omega, fun a ha => h.each a (List.mem_of_mem_drop ha)⟩
theorem BagS.nil : BagS w B ⟨none, 0, []⟩ := ⟨.inl rfl, fun _ => rfl, Nat.le_refl _, by simp [maxLen], fun a ha => by simp at ha⟩
/-- The cells of an entry. -/
theorem be_cells {b off : Nat} {l : List Be} (h : RAt encBe 2 w B (some ⟨b, off, none⟩) l) {i : Nat} (hi : i < l.length) :
    w.cell? ⟨b, off + i * 2, none⟩ = some (.slice l[i].r.ao l[i].r.l.length l[i].r.cap) ∧ w.cell? ⟨b, off + i * 2 + 1, none⟩ = some (.int .i64 l[i].n) :=
  ⟨h.cell hi (j := 0) rfl, h.cell hi (j := 1) rfl⟩
end
theorem ens_len (l : List Be) : (ens l).length = l.length := by simp [ens]
theorem ens_get {l : List Be} {i : Nat} (h : i < (ens l).length) : (ens l)[i] = (l[i]'(by simpa [ens] using h)).en := by simp [ens]
theorem ens_take (l : List Be) (k : Nat) : ens (l.take k) = (ens l).take k := by simp [ens]
theorem ens_drop (l : List Be) (k : Nat) : ens (l.drop k) = (ens l).drop k := by simp [ens]
theorem ens_app (a b : List Be) : ens (a ++ b) = ens a ++ ens b := by simp [ens]
end Go.Proofs.Ytdckpjkbchibjaa
