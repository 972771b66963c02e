/- What the laid variables give a walk (the table of the powers of ten), and that a heap lays them: for codes' rows, and for words'. -/
import Derived.Test.YtgadlfdioakodabDoorPost
import Derived.Test.YtgadlfdioakodabDoorFmt
import Derived.LaidMore
import Derived.Lay
import Derived.Lib.LaidTab
import Derived.Stop.Joined
import Derived.Stop.LaidErr
namespace Go.Proofs.YtgadlfdioakodabDoor
open Go Go.ChangeShapes Go.WideShapes Go.ChangeAt Go.RowKit
set_option maxRecDepth 100000
/-- the laid variables of codes' rows, and of words' -/
def laidK : List (String × DataW Unit) := [("math/bits.deBruijn32tab", Rows.laid_math_bits_deBruijn32tab), ("math/bits.deBruijn64tab", Rows.laid_math_bits_deBruijn64tab), ("internal/strconv.uint64pow10", Rows.laid_internal_strconv_uint64pow10)]
theorem doorK_met (os : Os) (args : Array Value) : laidMetH Tryd.prog laidK ((World.laidAll Tryd.prog os laidK).forCall (fun _ _ => 0) ⟨#[], args, []⟩).memory := by
  rw [MakeChecks.laidMetH_plain _ _ _ (by kernel_rfl)]
  exact laidMet_laidAll _ (by kernel_rfl) (by kernel_rfl)
theorem tab_of_laidK {W : World} (h : laidMetH Tryd.prog laidK W) : Tab W := by
  rw [MakeChecks.laidMetH_plain _ _ _ (by kernel_rfl)] at h
  have h2 := h.tail.tail
  have gt : Tryd.prog.globalNamed "internal/strconv.uint64pow10" = some 1 := by kernel_rfl
  have tt : (Tryd.prog.globals[1]?).map (·.type) = some 172 := by kernel_rfl
  exact Lib.tabIs_of_head (rest := _) gt tt Tryd.underlying172 Tryd.underlying130 (by kernel_rfl) (by kernel_rfl) h2
end Go.Proofs.YtgadlfdioakodabDoor
