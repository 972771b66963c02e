/- What the laid variables give a walk (the table of the powers of ten), and that the door's own heap lays them. -/
import Derived.Test.YtjjeohnejhhacaaDoorPost
import Derived.Test.YtjjeohnejhhacaaDoorFmt
import Derived.LaidMore
import Derived.Lib.LaidTab
import Derived.Stop.Joined
import Derived.Stop.LaidErr
namespace Go.Proofs.YtjjeohnejhhacaaDoor
open Go.ChangeShapes Go.WideShapes Go.ChangeAt Go.RowKit
/-- the laid variables of the rows -/
def laid3 : List (String × DataW Unit) := [("math/bits.deBruijn32tab", Rows.laid_math_bits_deBruijn32tab), ("math/bits.deBruijn64tab", Rows.laid_math_bits_deBruijn64tab), ("internal/strconv.uint64pow10", Rows.laid_internal_strconv_uint64pow10)]
theorem door_met (os : Os) (args : Array Value) : laidMetH Tryd.prog laid3 ((World.doorLaid Tryd.prog 400 os).forCall (fun _ _ => 0) ⟨#[], args, []⟩).memory :=
  laidMetH_of_parts3 (fuel := 8) (laidMet_of_run' 65 (by kernel_rfl) (by kernel_rfl)) (by kernel_rfl) (by kernel_rfl)
theorem tab_of_laid {W : World} (h : laidMetH Tryd.prog laid3 W) : Tab W := by
  rw [MakeChecks.laidMetH_plain _ _ _ (by kernel_rfl)] at h
  have h2 := h.tail.tail
  have hb : (Tryd.prog.globalNamed "internal/strconv.uint64pow10").bind (fun g => (Tryd.prog.globals[g]?).map (·.type)) = some 92 := by kernel_rfl
  obtain ⟨g, hg1, hg2⟩ := Option.bind_eq_some_iff.1 hb
  exact Lib.tabIs_of_head (rest := []) hg1 hg2 Tryd.underlying92 Tryd.underlying45 (by kernel_rfl) (by kernel_rfl) h2
end Go.Proofs.YtjjeohnejhhacaaDoor
