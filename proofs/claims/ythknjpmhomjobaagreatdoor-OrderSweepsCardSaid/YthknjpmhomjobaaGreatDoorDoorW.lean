/- What the laid variables give a walk (the table of the powers of ten), and that a heap lays them: for codes' rows, and for words'. -/
import Derived.Test.YthknjpmhomjobaaGreatDoorPost
import Derived.Test.YthknjpmhomjobaaGreatDoorFmt
import Derived.LaidMore
import Derived.Lay
import Derived.Lib.LaidTab
import Derived.Stop.Joined
import Derived.Stop.LaidErr
namespace Go.Proofs.YthknjpmhomjobaaGreatDoor
open Go Go.ChangeShapes Go.WideShapes Go.ChangeAt Go.RowKit
set_option maxRecDepth 100000
/-- the laid variables of codes' rows, and of words' -/
def laidW : List (String × DataW Unit) := [("math/bits.deBruijn32tab", Rows.laid_math_bits_deBruijn32tab), ("math/bits.deBruijn64tab", Rows.laid_math_bits_deBruijn64tab), ("internal/strconv.uint64pow10", Rows.laid_internal_strconv_uint64pow10), ("strconv.ErrRange", Rows.laid_strconv_ErrRange), ("strconv.ErrSyntax", Rows.laid_strconv_ErrSyntax)]
theorem doorW_met (os : Os) (args : Array Value) : laidMetH Tryz.prog laidW ((World.laidAll Tryz.prog os laidW).forCall (fun _ _ => 0) ⟨#[], args, []⟩).memory := by
  rw [MakeChecks.laidMetH_plain _ _ _ (by kernel_rfl)]
  exact laidMet_laidAll _ (by kernel_rfl) (by kernel_rfl)
theorem tab_of_laidW {W : World} (h : laidMetH Tryz.prog laidW W) : Tab W := by
  rw [MakeChecks.laidMetH_plain _ _ _ (by kernel_rfl)] at h
  have h2 := h.tail.tail
  have gt : Tryz.prog.globalNamed "internal/strconv.uint64pow10" = some 0 := by kernel_rfl
  have tt : (Tryz.prog.globals[0]?).map (·.type) = some 126 := by kernel_rfl
  exact Lib.tabIs_of_head (rest := _) gt tt Tryz.underlying126 Tryz.underlying69 (by kernel_rfl) (by kernel_rfl) h2
end Go.Proofs.YthknjpmhomjobaaGreatDoor
