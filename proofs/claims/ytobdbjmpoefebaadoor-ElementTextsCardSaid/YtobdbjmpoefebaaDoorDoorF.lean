/- What the laid variables give a walk of ElementTexts: the table of the powers of ten, and that of the blanks; a heap lays them. -/
import Derived.Test.YtobdbjmpoefebaaDoorDoorK
import Derived.Test.YtobdbjmpoefebaaDoorWkElementTexts
namespace Go.Proofs.YtobdbjmpoefebaaDoor
open Go Go.ChangeShapes Go.WideShapes Go.ChangeAt Go.RowKit
set_option maxRecDepth 100000
/-- the laid variables of ElementTexts -/
def laidF : List (String × DataW Unit) := [("math/bits.deBruijn32tab", Rows.laid_math_bits_deBruijn32tab), ("math/bits.deBruijn64tab", Rows.laid_math_bits_deBruijn64tab), ("internal/strconv.uint64pow10", Rows.laid_internal_strconv_uint64pow10), ("unicode.White_Space", Rows.laid_unicode_White_Space), ("strings.asciiSpace", Rows.laid_strings_asciiSpace)]
theorem doorF_met (os : Os) (args : Array Value) : laidMetH Tryd.prog laidF ((World.laidAll Tryd.prog os laidF).forCall (fun _ _ => 0) ⟨#[], args, []⟩).memory := by
  rw [MakeChecks.laidMetH_plain _ _ _ (by kernel_rfl)]
  exact laidMet_laidAll _ (by kernel_rfl) (by kernel_rfl)
theorem tab_of_laidF {W : World} (h : laidMetH Tryd.prog laidF W) : Tab W ∧ Spc W := by
  rw [MakeChecks.laidMetH_plain _ _ _ (by kernel_rfl)] at h
  have h2 := h.tail.tail
  have h4 := h2.tail.tail
  have gt : Tryd.prog.globalNamed "internal/strconv.uint64pow10" = some 3 := by kernel_rfl
  have tt : (Tryd.prog.globals[3]?).map (·.type) = some 182 := by kernel_rfl
  have gs : Tryd.prog.globalNamed "strings.asciiSpace" = some 0 := by kernel_rfl
  have ts : (Tryd.prog.globals[0]?).map (·.type) = some 108 := by kernel_rfl
  exact ⟨Lib.tabIs_of_head (rest := _) gt tt Tryd.underlying182 Tryd.underlying133 (by kernel_rfl) (by kernel_rfl) h2,
    Lib.tabIs_of_head (rest := _) gs ts Tryd.underlying108 Tryd.underlying5 (by kernel_rfl) (by kernel_rfl) h4⟩
end Go.Proofs.YtobdbjmpoefebaaDoor
