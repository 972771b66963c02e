/- A year in memory. -/
import Derived.Test.YtfnjhalpedccaaaSlpM
namespace Go.Proofs.Ytfnjhalpedccaaa
open Go.RowKit Go.Sort
set_option linter.unusedVariables false
set_option linter.unusedSimpArgs false

/-- a year: its payslips, and what all come to; F: where it lies -/
structure YOf (W : World) (p n cnt : Nat) (g : Nat → Slp) (t : Tot) (F : Nat → Prop) (A : Option Addr) (c : Nat) (B : Option Addr) (bc : Nat) : Prop where
  K : Bx W p 86 (.slice A cnt c :: t.cs B n bc)
  S : Shs W B n t.X t.Y
  sB : B = none → bc = 0
  O : W.ownsRow 0 37 10 (.slice A cnt c) cnt (slc g cnt)
  M : ∀ i, i < cnt → SlM W (g i)
  lt : ∀ q, F q → q < W.heap.size
  fp : F p
  fB : ∀ q, atB B q → F q
  fA : ∀ q, atB A q → F q
  fg : ∀ i, i < cnt → ∀ q, (g i).at_ q → F q
  dB : ¬ atB B p
  dA : ¬ atB A p
  dAB : ∀ q, atB A q → ¬ atB B q
  dg : ∀ i, i < cnt → ∀ q, (g i).at_ q → q ≠ p ∧ ¬ atB A q
def YO (W : World) (p n cnt : Nat) (g : Nat → Slp) (t : Tot) (F : Nat → Prop) : Prop := ∃ A c B bc, YOf W p n cnt g t F A c B bc
theorem own_hb {A : Option Addr} {n c q : Nat} (h : (Value.slice A n c).ownBlock = some q) : atB A q := by
  cases A with
  | none => cases h
  | some a => exact h
theorem YOf.same {W W' : World} {p n cnt : Nat} {g : Nat → Slp} {t : Tot} {F : Nat → Prop} {A : Option Addr} {c : Nat} {B : Option Addr} {bc : Nat} (h : YOf W p n cnt g t F A c B bc) (hz : W.heap.size ≤ W'.heap.size) (hq : ∀ q, F q → W'.heap[q]? = W.heap[q]?) : YOf W' p n cnt g t F A c B bc where
  K := h.K.of_block (hq p h.fp)
  S := shs_blk h.S fun q hb => hq q (h.fB q hb)
  sB := h.sB
  O := own_blk h.O fun q e => hq q (h.fA q (own_hb e))
  M := fun i hi => (h.M i hi).blk fun q e => hq q (h.fg i hi q e)
  lt := fun q f => Nat.lt_of_lt_of_le (h.lt q f) hz
  fp := h.fp
  fB := h.fB
  fA := h.fA
  fg := h.fg
  dB := h.dB
  dA := h.dA
  dAB := h.dAB
  dg := h.dg
theorem YO.same {W W' : World} {p n cnt : Nat} {g : Nat → Slp} {t : Tot} {F : Nat → Prop} (h : YO W p n cnt g t F) (hz : W.heap.size ≤ W'.heap.size) (hq : ∀ q, F q → W'.heap[q]? = W.heap[q]?) : YO W' p n cnt g t F := by
  obtain ⟨A, c, B, bc, h⟩ := h
  exact ⟨A, c, B, bc, h.same hz hq⟩
theorem YO.below {W W' : World} {p n cnt : Nat} {g : Nat → Slp} {t : Tot} {F : Nat → Prop} (h : YO W p n cnt g t F) (hb : Below W.heap.size W W') : YO W' p n cnt g t F := by
  obtain ⟨A, c, B, bc, h⟩ := h
  exact ⟨A, c, B, bc, h.same hb.size fun q f => hb.block q (h.lt q f)⟩
theorem YO.chg {W W' : World} {p n cnt : Nat} {g : Nat → Slp} {t : Tot} {F G : Nat → Prop} (h : YO W p n cnt g t F) (hc : Chg G W W') (hd : ∀ q, F q → ¬ G q) : YO W' p n cnt g t F := by
  obtain ⟨A, c, B, bc, h⟩ := h
  exact ⟨A, c, B, bc, h.same hc.size fun q f => hc.block q (h.lt q f) (hd q f)⟩
theorem YO.lt {W : World} {p n cnt : Nat} {g : Nat → Slp} {t : Tot} {F : Nat → Prop} (h : YO W p n cnt g t F) : ∀ q, F q → q < W.heap.size := by
  obtain ⟨A, c, B, bc, h⟩ := h
  exact h.lt
end Go.Proofs.Ytfnjhalpedccaaa
