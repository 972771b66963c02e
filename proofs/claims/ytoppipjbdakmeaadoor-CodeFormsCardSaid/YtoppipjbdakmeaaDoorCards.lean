/-
  DERIVED. GIVEN WITH THE SEED: THE CARDS: each row of YtoppipjbdakmeaaDoorRows.lean that lists a variable, with what it lists TIED to the program's text (the seventh form; the later family's looks); each row that meets fmt, with fmt's text TOLD by the authors' own Lean function (tested against real Go, not proved from fmt's source: count such statements apart). THE CARD IS WHAT COUNTS. Prove the row's statement (the work); the ties are given (YtoppipjbdakmeaaDoorTie.lean); close each card by the builder's one call (the guide's Derived/Test/ToyasCard.lean, 'card_holds'). Laid BY PROGRAM, IN A SANDBOX (cutbox-door.mjs). By AI agents, Wed Nov 11 2026. No macro, syntax, notation, axiom, sorry.
-/
import Derived.Test.YtoppipjbdakmeaaDoorRows
import GoSem.ClaimSeven
namespace Go.Proofs.YtoppipjbdakmeaaDoor
namespace Rows

/-- THE TIED CARD OF 'stipendlaw10.KeepCuts'. -/
def keepCutsCard : Claim7 := { stood := { row := keepCutsRow, standIns := [], harness := (true, "d19d85312700e87af4deb21dc98dafb7d1cb65713cfbec0f227ad42459a0ad65"), looks := false }, kinds := [], alts := [], laidByText := true, laidKinds := [.data, .data, .data], laidTests := true, laidLooks := .later }
def KeepCutsCardSaid : Prop := Claim7.holds Tryd.pinned (.plain (OpenSpec.ofChange keepCutsSpec)) keepCutsCard

/-- THE TIED CARD OF 'stipendlaw08.CodeForms'. -/
def codeFormsCard : Claim7 := { stood := { row := codeFormsRow, standIns := [], harness := (true, "d19d85312700e87af4deb21dc98dafb7d1cb65713cfbec0f227ad42459a0ad65"), looks := false }, kinds := [], alts := [], laidByText := true, laidKinds := [.data, .data, .data], laidTests := true, laidLooks := .later }
def CodeFormsCardSaid : Prop := Claim7.holds Tryd.pinned (.plain (OpenSpec.ofChange codeFormsSpec)) codeFormsCard

/-- THE TIED CARD OF 'stipendtop.WholeCodes'. -/
def wholeCodesCard : Claim7 := { stood := { row := wholeCodesRow, standIns := [], harness := (true, "d19d85312700e87af4deb21dc98dafb7d1cb65713cfbec0f227ad42459a0ad65"), looks := false }, kinds := [], alts := [], laidByText := true, laidKinds := [.data, .data, .data], laidTests := true, laidLooks := .later }
def WholeCodesCardSaid : Prop := Claim7.holds Tryd.pinned (.plain (OpenSpec.ofChange wholeCodesSpec)) wholeCodesCard

/-- THE SECOND FORM's CARD OF 'stipendlaw10.KeepCuts'. -/
def keepCutsUptoCard : Claim7 := { stood := { row := keepCutsUptoRow, standIns := [], harness := (true, "d19d85312700e87af4deb21dc98dafb7d1cb65713cfbec0f227ad42459a0ad65"), looks := false }, kinds := [], alts := [], laidByText := true, laidKinds := [.data, .data, .data], laidTests := true, laidLooks := .later }
def KeepCutsUptoCardSaid : Prop := Claim7.holds Tryd.pinned (.plain (OpenSpec.upto keepCutsSpec)) keepCutsUptoCard

/-- THE SECOND FORM's CARD OF 'stipendlaw08.CodeForms'. -/
def codeFormsUptoCard : Claim7 := { stood := { row := codeFormsUptoRow, standIns := [], harness := (true, "d19d85312700e87af4deb21dc98dafb7d1cb65713cfbec0f227ad42459a0ad65"), looks := false }, kinds := [], alts := [], laidByText := true, laidKinds := [.data, .data, .data], laidTests := true, laidLooks := .later }
def CodeFormsUptoCardSaid : Prop := Claim7.holds Tryd.pinned (.plain (OpenSpec.upto codeFormsSpec)) codeFormsUptoCard

/-- THE SECOND FORM's CARD OF 'stipendtop.WholeCodes'. -/
def wholeCodesUptoCard : Claim7 := { stood := { row := wholeCodesUptoRow, standIns := [], harness := (true, "d19d85312700e87af4deb21dc98dafb7d1cb65713cfbec0f227ad42459a0ad65"), looks := false }, kinds := [], alts := [], laidByText := true, laidKinds := [.data, .data, .data], laidTests := true, laidLooks := .later }
def WholeCodesUptoCardSaid : Prop := Claim7.holds Tryd.pinned (.plain (OpenSpec.upto wholeCodesSpec)) wholeCodesUptoCard
end Rows
end Go.Proofs.YtoppipjbdakmeaaDoor
