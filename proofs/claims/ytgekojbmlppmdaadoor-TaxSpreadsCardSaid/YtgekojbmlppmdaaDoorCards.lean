/-
  DERIVED. GIVEN WITH THE SEED: THE CARDS: each row of YtgekojbmlppmdaaDoorRows.lean that lists a variable, with what it lists TIED to the program's text (the seventh form; the later family's looks); each row that meets fmt, with fmt's text TOLD by the authors' own Lean function (tested against real Go, not proved from fmt's source: count such statements apart). THE CARD IS WHAT COUNTS. Prove the row's statement (the work); the ties are given (YtgekojbmlppmdaaDoorTie.lean); close each card by the builder's one call (the guide's Derived/Test/ToyasCard.lean, 'card_holds'). Laid BY PROGRAM, IN A SANDBOX (cutbox-door.mjs). By AI agents, Wed Nov 11 2026. No macro, syntax, notation, axiom, sorry.
-/
import Derived.Test.YtgekojbmlppmdaaDoorRows
import GoSem.ClaimSeven
namespace Go.Proofs.YtgekojbmlppmdaaDoor
namespace Rows

/-- THE TIED CARD OF 'stipendlaw13.TaxDue'. -/
def taxDueCard : Claim7 := { stood := { row := taxDueRow, standIns := [], harness := (true, "4f251a021c393b62260a816544e448bb84e2ab9d593221b0955afe0090d74062"), looks := false }, kinds := [], alts := [], laidByText := true, laidKinds := [.data], laidTests := true, laidLooks := .later }
def TaxDueCardSaid : Prop := Claim7.holds Tryd.pinned (.plain (OpenSpec.ofChange taxDueSpec)) taxDueCard

/-- THE TIED CARD OF 'stipendlaw13.TaxRefuses'. -/
def taxRefusesCard : Claim7 := { stood := { row := taxRefusesRow, standIns := [], harness := (true, "4f251a021c393b62260a816544e448bb84e2ab9d593221b0955afe0090d74062"), looks := false }, kinds := [], alts := [], laidByText := true, laidKinds := [.data], laidTests := true, laidLooks := .later }
def TaxRefusesCardSaid : Prop := Claim7.holds Tryd.pinned (.plain (OpenSpec.ofChange taxRefusesSpec)) taxRefusesCard

/-- THE TIED CARD OF 'stipendlaw13.TaxRises'. -/
def taxRisesCard : Claim7 := { stood := { row := taxRisesRow, standIns := [], harness := (true, "4f251a021c393b62260a816544e448bb84e2ab9d593221b0955afe0090d74062"), looks := false }, kinds := [], alts := [], laidByText := true, laidKinds := [.data], laidTests := true, laidLooks := .later }
def TaxRisesCardSaid : Prop := Claim7.holds Tryd.pinned (.plain (OpenSpec.ofChange taxRisesSpec)) taxRisesCard

/-- THE TIED CARD OF 'stipendlaw13.TaxYear'. -/
def taxYearCard : Claim7 := { stood := { row := taxYearRow, standIns := [], harness := (true, "4f251a021c393b62260a816544e448bb84e2ab9d593221b0955afe0090d74062"), looks := false }, kinds := [], alts := [], laidByText := true, laidKinds := [.data], laidTests := true, laidLooks := .later }
def TaxYearCardSaid : Prop := Claim7.holds Tryd.pinned (.plain (OpenSpec.ofChange taxYearSpec)) taxYearCard

/-- THE TIED CARD OF 'stipendlaw13.TaxSpreads'. -/
def taxSpreadsCard : Claim7 := { stood := { row := taxSpreadsRow, standIns := [], harness := (true, "4f251a021c393b62260a816544e448bb84e2ab9d593221b0955afe0090d74062"), looks := false }, kinds := [], alts := [], laidByText := true, laidKinds := [.data], laidTests := true, laidLooks := .later }
def TaxSpreadsCardSaid : Prop := Claim7.holds Tryd.pinned (.plain (OpenSpec.ofChange taxSpreadsSpec)) taxSpreadsCard

/-- THE TIED CARD OF 'stipendlaw13.TaxExplains'. -/
def taxExplainsCard : Claim7 := { stood := { row := taxExplainsRow, standIns := [], harness := (true, "4f251a021c393b62260a816544e448bb84e2ab9d593221b0955afe0090d74062"), looks := false }, kinds := [], alts := [], laidByText := true, laidKinds := [.data], laidTests := true, laidLooks := .later }
def TaxExplainsCardSaid : Prop := Claim7.holds Tryd.pinned (.plain (OpenSpec.ofChange taxExplainsSpec)) taxExplainsCard

/-- THE TIED CARD OF 'stipendtop.WholeTax'. -/
def wholeTaxCard : Claim7 := { stood := { row := wholeTaxRow, standIns := [], harness := (true, "4f251a021c393b62260a816544e448bb84e2ab9d593221b0955afe0090d74062"), looks := false }, kinds := [], alts := [], laidByText := true, laidKinds := [.data], laidTests := true, laidLooks := .later }
def WholeTaxCardSaid : Prop := Claim7.holds Tryd.pinned (.plain (OpenSpec.ofChange wholeTaxSpec)) wholeTaxCard

/-- THE SECOND FORM's CARD OF 'stipendlaw13.TaxDue'. -/
def taxDueUptoCard : Claim7 := { stood := { row := taxDueUptoRow, standIns := [], harness := (true, "4f251a021c393b62260a816544e448bb84e2ab9d593221b0955afe0090d74062"), looks := false }, kinds := [], alts := [], laidByText := true, laidKinds := [.data], laidTests := true, laidLooks := .later }
def TaxDueUptoCardSaid : Prop := Claim7.holds Tryd.pinned (.plain (OpenSpec.upto taxDueSpec)) taxDueUptoCard

/-- THE SECOND FORM's CARD OF 'stipendlaw13.TaxRefuses'. -/
def taxRefusesUptoCard : Claim7 := { stood := { row := taxRefusesUptoRow, standIns := [], harness := (true, "4f251a021c393b62260a816544e448bb84e2ab9d593221b0955afe0090d74062"), looks := false }, kinds := [], alts := [], laidByText := true, laidKinds := [.data], laidTests := true, laidLooks := .later }
def TaxRefusesUptoCardSaid : Prop := Claim7.holds Tryd.pinned (.plain (OpenSpec.upto taxRefusesSpec)) taxRefusesUptoCard

/-- THE SECOND FORM's CARD OF 'stipendlaw13.TaxRises'. -/
def taxRisesUptoCard : Claim7 := { stood := { row := taxRisesUptoRow, standIns := [], harness := (true, "4f251a021c393b62260a816544e448bb84e2ab9d593221b0955afe0090d74062"), looks := false }, kinds := [], alts := [], laidByText := true, laidKinds := [.data], laidTests := true, laidLooks := .later }
def TaxRisesUptoCardSaid : Prop := Claim7.holds Tryd.pinned (.plain (OpenSpec.upto taxRisesSpec)) taxRisesUptoCard

/-- THE SECOND FORM's CARD OF 'stipendlaw13.TaxYear'. -/
def taxYearUptoCard : Claim7 := { stood := { row := taxYearUptoRow, standIns := [], harness := (true, "4f251a021c393b62260a816544e448bb84e2ab9d593221b0955afe0090d74062"), looks := false }, kinds := [], alts := [], laidByText := true, laidKinds := [.data], laidTests := true, laidLooks := .later }
def TaxYearUptoCardSaid : Prop := Claim7.holds Tryd.pinned (.plain (OpenSpec.upto taxYearSpec)) taxYearUptoCard

/-- THE SECOND FORM's CARD OF 'stipendlaw13.TaxSpreads'. -/
def taxSpreadsUptoCard : Claim7 := { stood := { row := taxSpreadsUptoRow, standIns := [], harness := (true, "4f251a021c393b62260a816544e448bb84e2ab9d593221b0955afe0090d74062"), looks := false }, kinds := [], alts := [], laidByText := true, laidKinds := [.data], laidTests := true, laidLooks := .later }
def TaxSpreadsUptoCardSaid : Prop := Claim7.holds Tryd.pinned (.plain (OpenSpec.upto taxSpreadsSpec)) taxSpreadsUptoCard

/-- THE SECOND FORM's CARD OF 'stipendlaw13.TaxExplains'. -/
def taxExplainsUptoCard : Claim7 := { stood := { row := taxExplainsUptoRow, standIns := [], harness := (true, "4f251a021c393b62260a816544e448bb84e2ab9d593221b0955afe0090d74062"), looks := false }, kinds := [], alts := [], laidByText := true, laidKinds := [.data], laidTests := true, laidLooks := .later }
def TaxExplainsUptoCardSaid : Prop := Claim7.holds Tryd.pinned (.plain (OpenSpec.upto taxExplainsSpec)) taxExplainsUptoCard

/-- THE SECOND FORM's CARD OF 'stipendtop.WholeTax'. -/
def wholeTaxUptoCard : Claim7 := { stood := { row := wholeTaxUptoRow, standIns := [], harness := (true, "4f251a021c393b62260a816544e448bb84e2ab9d593221b0955afe0090d74062"), looks := false }, kinds := [], alts := [], laidByText := true, laidKinds := [.data], laidTests := true, laidLooks := .later }
def WholeTaxUptoCardSaid : Prop := Claim7.holds Tryd.pinned (.plain (OpenSpec.upto wholeTaxSpec)) wholeTaxUptoCard
end Rows
end Go.Proofs.YtgekojbmlppmdaaDoor
