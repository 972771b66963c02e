/- What date's laws ask of the laid variables, and that it stays while the calls go on. -/
import Derived.Test.YtkgfmanolanlhaaDoorDateE
import Derived.Test.YtkgfmanolanlhaaDoorTxt
import Derived.Lib.LaidTab
import Derived.Lib.AppendIntMem
import Derived.Lib.SmallJoins
namespace Go.Proofs.YtkgfmanolanlhaaDoor
open Go.RowKit
set_option linter.unusedVariables false
set_option linter.unusedSimpArgs false

/-- how many digits a year, a month and a day have -/
def Wd (w : World) : Prop := Day w 0 4 2 2 ∧ 0 < w.heap.size
theorem Wd.below {B : Nat} {w w' : World} (h : Wd w) (hb : Below B w w') (hB : w.heap.size ≤ B) : Wd w' := ⟨h.1.below hb (by have := h.2; omega), by have := h.2; have := hb.size; omega⟩
/-- the table of the powers of ten -/
def Tab (w : World) : Prop := Lib.TabIs Tryd.prog w "internal/strconv.uint64pow10" .u64 Lib.pow10Tab
/-- a variable that holds an error -/
def Er (w : World) (g : Nat) : Prop := (∃ t p, w.cell? ⟨g, 0, none⟩ = some (.iface t p)) ∧ g < w.heap.size
theorem Er.below {w w' : World} {g : Nat} (h : Er w g) (hb : Below w.heap.size w w') : Er w' g := by
  obtain ⟨⟨t, p, e⟩, hg⟩ := h
  exact ⟨⟨t, p, (hb.cell (p := ⟨g, 0, none⟩) hg).trans e⟩, by have := hb.size; omega⟩
/-- the greatest length of what is looked for at once -/
def Mx (w : World) : Prop := (∃ m, w.cell? ⟨5, 0, none⟩ = some (.int .i64 m)) ∧ 5 < w.heap.size
/-- all that is laid -/
def Door (w : World) : Prop := Wd w ∧ Tab w ∧ Er w 2 ∧ Er w 3 ∧ Mx w
theorem Door.below {w w' : World} (h : Door w) (hb : Below w.heap.size w w') : Door w' := by
  obtain ⟨h1, h2, h3, h4, ⟨m, h5⟩, h6⟩ := h
  exact ⟨h1.below hb (Nat.le_refl _), (Lib.tabBelow_of_tabIs h2) w' hb, h3.below hb, h4.below hb, ⟨m, (hb.cell (p := ⟨5, 0, none⟩) h6).trans h5⟩, by have := hb.size; omega⟩
end Go.Proofs.YtkgfmanolanlhaaDoor
