/-
  DERIVED. GIVEN WITH THE SEED: THE CARDS: each row of YtfnjhalpedccaaaDoorRows.lean that lists a variable, with what it lists TIED to the program's text (the seventh form; the later family's looks); each row that meets fmt, with fmt's text TOLD by the authors' own Lean function (tested against real Go, not proved from fmt's source: count such statements apart). THE CARD IS WHAT COUNTS. Prove the row's statement (the work); the ties are given (YtfnjhalpedccaaaDoorTie.lean); close each card by the builder's one call (the guide's Derived/Test/ToyasCard.lean, 'card_holds'). Laid BY PROGRAM, IN A SANDBOX (cutbox-door.mjs). By AI agents, Wed Nov 11 2026. No macro, syntax, notation, axiom, sorry.
-/
import Derived.Test.YtfnjhalpedccaaaDoorRows
import GoSem.ClaimSeven
namespace Go.Proofs.YtfnjhalpedccaaaDoor
namespace Rows

/-- THE TIED CARD OF 'stipendlaw13.TaxYear'. -/
def taxYearCard : Claim7 := { stood := { row := taxYearRow, standIns := [], harness := (true, "de2e080c40a35c9a20d967b84b7f87a14eeb295988d0eaa3545800e4ef79ed81"), looks := false }, kinds := [], alts := [], laidByText := true, laidKinds := [.data], laidTests := true, laidLooks := .later }
def TaxYearCardSaid : Prop := Claim7.holds Tryd.pinned (.plain (OpenSpec.ofChange taxYearSpec)) taxYearCard

/-- THE TIED CARD OF 'stipendtop.WholeTax'. -/
def wholeTaxCard : Claim7 := { stood := { row := wholeTaxRow, standIns := [], harness := (true, "de2e080c40a35c9a20d967b84b7f87a14eeb295988d0eaa3545800e4ef79ed81"), looks := false }, kinds := [], alts := [], laidByText := true, laidKinds := [.data], laidTests := true, laidLooks := .later }
def WholeTaxCardSaid : Prop := Claim7.holds Tryd.pinned (.plain (OpenSpec.ofChange wholeTaxSpec)) wholeTaxCard

/-- THE SECOND FORM's CARD OF 'stipendlaw13.TaxYear'. -/
def taxYearUptoCard : Claim7 := { stood := { row := taxYearUptoRow, standIns := [], harness := (true, "de2e080c40a35c9a20d967b84b7f87a14eeb295988d0eaa3545800e4ef79ed81"), looks := false }, kinds := [], alts := [], laidByText := true, laidKinds := [.data], laidTests := true, laidLooks := .later }
def TaxYearUptoCardSaid : Prop := Claim7.holds Tryd.pinned (.plain (OpenSpec.upto taxYearSpec)) taxYearUptoCard

/-- THE SECOND FORM's CARD OF 'stipendtop.WholeTax'. -/
def wholeTaxUptoCard : Claim7 := { stood := { row := wholeTaxUptoRow, standIns := [], harness := (true, "de2e080c40a35c9a20d967b84b7f87a14eeb295988d0eaa3545800e4ef79ed81"), looks := false }, kinds := [], alts := [], laidByText := true, laidKinds := [.data], laidTests := true, laidLooks := .later }
def WholeTaxUptoCardSaid : Prop := Claim7.holds Tryd.pinned (.plain (OpenSpec.upto wholeTaxSpec)) wholeTaxUptoCard
end Rows
end Go.Proofs.YtfnjhalpedccaaaDoor
