/- The law TaxYear, as far as it asks whether it asks at all. -/
import Derived.Test.YtffihnbpjcgicaaDoorTaxYZ
import Derived.Test.YtffihnbpjcgicaaDoorTaxD
import Derived.Test.YtffihnbpjcgicaaDoorOpenX
import Derived.BigQuiet
namespace Go.Proofs.YtffihnbpjcgicaaDoor
open Go.RowKit Go.Sort
set_option linter.unusedVariables false
set_option linter.unusedSimpArgs false

theorem Tm.s {w : World} {T : TB} (h : Tm w T) : SchM w T.AS T.nS T.S := And.left h
theorem tsz_of {T : TB} (h : TFits T) : Tsz T := ⟨h.2.1.1, h.2.2.1.1, fun _ i hi => (h.2.2.2.2.2.1 i hi).1.1, fun _ i hi => (h.2.2.2.2.2.2.1 i hi).2.2.2.2.2.1.1⟩
theorem yrB_23 : yrB 2023 4 6 = true := by decide +kernel
theorem due_err {T : TB} {s k a f y n d : Int} (h : fitsV T s k a f ≠ 0) : (dueT T s k a f y n d).2 = fitsV T s k a f := by
  have e : (exactT T s k a f y n d).2 = fitsV T s k a f := by unfold exactT; rw [if_pos h]
  unfold dueT
  rw [e, if_pos h]
end Go.Proofs.YtffihnbpjcgicaaDoor
