/-
  DERIVED. GIVEN WITH THE SEED: THE CARDS: each row of YthndkplmhpbgdaaDoorRows.lean that lists a variable, with what it lists TIED to the program's text (the seventh form; the later family's looks); each row that meets fmt, with fmt's text TOLD by the authors' own Lean function (tested against real Go, not proved from fmt's source: count such statements apart). THE CARD IS WHAT COUNTS. Prove the row's statement (the work); the ties are given (YthndkplmhpbgdaaDoorTie.lean); close each card by the builder's one call (the guide's Derived/Test/ToyasCard.lean, 'card_holds'). Laid BY PROGRAM, IN A SANDBOX (cutbox-door.mjs). By AI agents, Wed Nov 11 2026. No macro, syntax, notation, axiom, sorry.
-/
import Derived.Test.YthndkplmhpbgdaaDoorRows
import GoSem.ClaimSeven
namespace Go.Proofs.YthndkplmhpbgdaaDoor
namespace Rows

/-- THE TIED CARD OF 'stipendlaw07.WordJoins'. -/
def wordJoinsCard : Claim7 := { stood := { row := wordJoinsRow, standIns := [], harness := (true, "2d2c0ac8ce44fba1df98564295eb5ac6f9cbd69f6da8444ff873ec02ea2b1b29"), looks := true }, kinds := [], alts := [], laidByText := true, laidKinds := [.data, .data, .data, .sentinel, .sentinel], laidTests := true, laidLooks := .later }
def WordJoinsCardSaid : Prop := Claim7.holds Tryd.pinned (.plain (OpenSpec.ofChange wordJoinsSpec)) wordJoinsCard

/-- THE TIED CARD OF 'stipendlaw07.WordQuotes'. -/
def wordQuotesCard : Claim7 := { stood := { row := wordQuotesRow, standIns := [], harness := (true, "2d2c0ac8ce44fba1df98564295eb5ac6f9cbd69f6da8444ff873ec02ea2b1b29"), looks := true }, kinds := [], alts := [], laidByText := true, laidKinds := [.data, .data, .data, .sentinel, .sentinel], laidTests := true, laidLooks := .later }
def WordQuotesCardSaid : Prop := Claim7.holds Tryd.pinned (.plain (OpenSpec.ofChange wordQuotesSpec)) wordQuotesCard

/-- THE TIED CARD OF 'stipendlaw07.WordInts'. -/
def wordIntsCard : Claim7 := { stood := { row := wordIntsRow, standIns := [], harness := (true, "2d2c0ac8ce44fba1df98564295eb5ac6f9cbd69f6da8444ff873ec02ea2b1b29"), looks := true }, kinds := [], alts := [], laidByText := true, laidKinds := [.data, .data, .data, .sentinel, .sentinel], laidTests := true, laidLooks := .later }
def WordIntsCardSaid : Prop := Claim7.holds Tryd.pinned (.plain (OpenSpec.ofChange wordIntsSpec)) wordIntsCard

/-- THE TIED CARD OF 'stipendlaw07.WordNames'. -/
def wordNamesCard : Claim7 := { stood := { row := wordNamesRow, standIns := [], harness := (true, "2d2c0ac8ce44fba1df98564295eb5ac6f9cbd69f6da8444ff873ec02ea2b1b29"), looks := true }, kinds := [], alts := [], laidByText := true, laidKinds := [.data, .data, .data, .sentinel, .sentinel], laidTests := true, laidLooks := .later }
def WordNamesCardSaid : Prop := Claim7.holds Tryd.pinned (.plain (OpenSpec.ofChange wordNamesSpec)) wordNamesCard

/-- THE TIED CARD OF 'stipendlaw07.WordLines'. -/
def wordLinesCard : Claim7 := { stood := { row := wordLinesRow, standIns := [], harness := (true, "2d2c0ac8ce44fba1df98564295eb5ac6f9cbd69f6da8444ff873ec02ea2b1b29"), looks := true }, kinds := [], alts := [], laidByText := true, laidKinds := [.data, .data, .data, .sentinel, .sentinel], laidTests := true, laidLooks := .later }
def WordLinesCardSaid : Prop := Claim7.holds Tryd.pinned (.plain (OpenSpec.ofChange wordLinesSpec)) wordLinesCard

/-- THE TIED CARD OF 'stipendlaw08.CodeChecks'. -/
def codeChecksCard : Claim7 := { stood := { row := codeChecksRow, standIns := [], harness := (true, "2d2c0ac8ce44fba1df98564295eb5ac6f9cbd69f6da8444ff873ec02ea2b1b29"), looks := true }, kinds := [], alts := [], laidByText := true, laidKinds := [.data, .data, .data], laidTests := true, laidLooks := .later }
def CodeChecksCardSaid : Prop := Claim7.holds Tryd.pinned (.plain (OpenSpec.ofChange codeChecksSpec)) codeChecksCard

/-- THE TIED CARD OF 'stipendlaw08.CodeParses'. -/
def codeParsesCard : Claim7 := { stood := { row := codeParsesRow, standIns := [], harness := (true, "2d2c0ac8ce44fba1df98564295eb5ac6f9cbd69f6da8444ff873ec02ea2b1b29"), looks := true }, kinds := [], alts := [], laidByText := true, laidKinds := [.data, .data, .data], laidTests := true, laidLooks := .later }
def CodeParsesCardSaid : Prop := Claim7.holds Tryd.pinned (.plain (OpenSpec.ofChange codeParsesSpec)) codeParsesCard

/-- THE TIED CARD OF 'stipendlaw08.CodeForms'. -/
def codeFormsCard : Claim7 := { stood := { row := codeFormsRow, standIns := [], harness := (true, "2d2c0ac8ce44fba1df98564295eb5ac6f9cbd69f6da8444ff873ec02ea2b1b29"), looks := true }, kinds := [], alts := [], laidByText := true, laidKinds := [.data, .data, .data], laidTests := true, laidLooks := .later }
def CodeFormsCardSaid : Prop := Claim7.holds Tryd.pinned (.plain (OpenSpec.ofChange codeFormsSpec)) codeFormsCard

/-- THE TIED CARD OF 'stipendlaw08.CodeFrees'. -/
def codeFreesCard : Claim7 := { stood := { row := codeFreesRow, standIns := [], harness := (true, "2d2c0ac8ce44fba1df98564295eb5ac6f9cbd69f6da8444ff873ec02ea2b1b29"), looks := true }, kinds := [], alts := [], laidByText := true, laidKinds := [.data, .data, .data], laidTests := true, laidLooks := .later }
def CodeFreesCardSaid : Prop := Claim7.holds Tryd.pinned (.plain (OpenSpec.ofChange codeFreesSpec)) codeFreesCard

/-- THE TIED CARD OF 'stipendlaw08.CodeRises'. -/
def codeRisesCard : Claim7 := { stood := { row := codeRisesRow, standIns := [], harness := (true, "2d2c0ac8ce44fba1df98564295eb5ac6f9cbd69f6da8444ff873ec02ea2b1b29"), looks := true }, kinds := [], alts := [], laidByText := true, laidKinds := [.data, .data, .data], laidTests := true, laidLooks := .later }
def CodeRisesCardSaid : Prop := Claim7.holds Tryd.pinned (.plain (OpenSpec.ofChange codeRisesSpec)) codeRisesCard

/-- THE TIED CARD OF 'stipendtop.WholeCodes'. -/
def wholeCodesCard : Claim7 := { stood := { row := wholeCodesRow, standIns := [], harness := (true, "2d2c0ac8ce44fba1df98564295eb5ac6f9cbd69f6da8444ff873ec02ea2b1b29"), looks := true }, kinds := [], alts := [], laidByText := true, laidKinds := [.data, .data, .data], laidTests := true, laidLooks := .later }
def WholeCodesCardSaid : Prop := Claim7.holds Tryd.pinned (.plain (OpenSpec.ofChange wholeCodesSpec)) wholeCodesCard

/-- THE SECOND FORM's CARD OF 'stipendlaw07.WordJoins'. -/
def wordJoinsUptoCard : Claim7 := { stood := { row := wordJoinsUptoRow, standIns := [], harness := (true, "2d2c0ac8ce44fba1df98564295eb5ac6f9cbd69f6da8444ff873ec02ea2b1b29"), looks := true }, kinds := [], alts := [], laidByText := true, laidKinds := [.data, .data, .data, .sentinel, .sentinel], laidTests := true, laidLooks := .later }
def WordJoinsUptoCardSaid : Prop := Claim7.holds Tryd.pinned (.plain (OpenSpec.upto wordJoinsSpec)) wordJoinsUptoCard

/-- THE SECOND FORM's CARD OF 'stipendlaw07.WordQuotes'. -/
def wordQuotesUptoCard : Claim7 := { stood := { row := wordQuotesUptoRow, standIns := [], harness := (true, "2d2c0ac8ce44fba1df98564295eb5ac6f9cbd69f6da8444ff873ec02ea2b1b29"), looks := true }, kinds := [], alts := [], laidByText := true, laidKinds := [.data, .data, .data, .sentinel, .sentinel], laidTests := true, laidLooks := .later }
def WordQuotesUptoCardSaid : Prop := Claim7.holds Tryd.pinned (.plain (OpenSpec.upto wordQuotesSpec)) wordQuotesUptoCard

/-- THE SECOND FORM's CARD OF 'stipendlaw07.WordInts'. -/
def wordIntsUptoCard : Claim7 := { stood := { row := wordIntsUptoRow, standIns := [], harness := (true, "2d2c0ac8ce44fba1df98564295eb5ac6f9cbd69f6da8444ff873ec02ea2b1b29"), looks := true }, kinds := [], alts := [], laidByText := true, laidKinds := [.data, .data, .data, .sentinel, .sentinel], laidTests := true, laidLooks := .later }
def WordIntsUptoCardSaid : Prop := Claim7.holds Tryd.pinned (.plain (OpenSpec.upto wordIntsSpec)) wordIntsUptoCard

/-- THE SECOND FORM's CARD OF 'stipendlaw07.WordNames'. -/
def wordNamesUptoCard : Claim7 := { stood := { row := wordNamesUptoRow, standIns := [], harness := (true, "2d2c0ac8ce44fba1df98564295eb5ac6f9cbd69f6da8444ff873ec02ea2b1b29"), looks := true }, kinds := [], alts := [], laidByText := true, laidKinds := [.data, .data, .data, .sentinel, .sentinel], laidTests := true, laidLooks := .later }
def WordNamesUptoCardSaid : Prop := Claim7.holds Tryd.pinned (.plain (OpenSpec.upto wordNamesSpec)) wordNamesUptoCard

/-- THE SECOND FORM's CARD OF 'stipendlaw07.WordLines'. -/
def wordLinesUptoCard : Claim7 := { stood := { row := wordLinesUptoRow, standIns := [], harness := (true, "2d2c0ac8ce44fba1df98564295eb5ac6f9cbd69f6da8444ff873ec02ea2b1b29"), looks := true }, kinds := [], alts := [], laidByText := true, laidKinds := [.data, .data, .data, .sentinel, .sentinel], laidTests := true, laidLooks := .later }
def WordLinesUptoCardSaid : Prop := Claim7.holds Tryd.pinned (.plain (OpenSpec.upto wordLinesSpec)) wordLinesUptoCard

/-- THE SECOND FORM's CARD OF 'stipendlaw08.CodeChecks'. -/
def codeChecksUptoCard : Claim7 := { stood := { row := codeChecksUptoRow, standIns := [], harness := (true, "2d2c0ac8ce44fba1df98564295eb5ac6f9cbd69f6da8444ff873ec02ea2b1b29"), looks := true }, kinds := [], alts := [], laidByText := true, laidKinds := [.data, .data, .data], laidTests := true, laidLooks := .later }
def CodeChecksUptoCardSaid : Prop := Claim7.holds Tryd.pinned (.plain (OpenSpec.upto codeChecksSpec)) codeChecksUptoCard

/-- THE SECOND FORM's CARD OF 'stipendlaw08.CodeParses'. -/
def codeParsesUptoCard : Claim7 := { stood := { row := codeParsesUptoRow, standIns := [], harness := (true, "2d2c0ac8ce44fba1df98564295eb5ac6f9cbd69f6da8444ff873ec02ea2b1b29"), looks := true }, kinds := [], alts := [], laidByText := true, laidKinds := [.data, .data, .data], laidTests := true, laidLooks := .later }
def CodeParsesUptoCardSaid : Prop := Claim7.holds Tryd.pinned (.plain (OpenSpec.upto codeParsesSpec)) codeParsesUptoCard

/-- THE SECOND FORM's CARD OF 'stipendlaw08.CodeForms'. -/
def codeFormsUptoCard : Claim7 := { stood := { row := codeFormsUptoRow, standIns := [], harness := (true, "2d2c0ac8ce44fba1df98564295eb5ac6f9cbd69f6da8444ff873ec02ea2b1b29"), looks := true }, kinds := [], alts := [], laidByText := true, laidKinds := [.data, .data, .data], laidTests := true, laidLooks := .later }
def CodeFormsUptoCardSaid : Prop := Claim7.holds Tryd.pinned (.plain (OpenSpec.upto codeFormsSpec)) codeFormsUptoCard

/-- THE SECOND FORM's CARD OF 'stipendlaw08.CodeFrees'. -/
def codeFreesUptoCard : Claim7 := { stood := { row := codeFreesUptoRow, standIns := [], harness := (true, "2d2c0ac8ce44fba1df98564295eb5ac6f9cbd69f6da8444ff873ec02ea2b1b29"), looks := true }, kinds := [], alts := [], laidByText := true, laidKinds := [.data, .data, .data], laidTests := true, laidLooks := .later }
def CodeFreesUptoCardSaid : Prop := Claim7.holds Tryd.pinned (.plain (OpenSpec.upto codeFreesSpec)) codeFreesUptoCard

/-- THE SECOND FORM's CARD OF 'stipendlaw08.CodeRises'. -/
def codeRisesUptoCard : Claim7 := { stood := { row := codeRisesUptoRow, standIns := [], harness := (true, "2d2c0ac8ce44fba1df98564295eb5ac6f9cbd69f6da8444ff873ec02ea2b1b29"), looks := true }, kinds := [], alts := [], laidByText := true, laidKinds := [.data, .data, .data], laidTests := true, laidLooks := .later }
def CodeRisesUptoCardSaid : Prop := Claim7.holds Tryd.pinned (.plain (OpenSpec.upto codeRisesSpec)) codeRisesUptoCard

/-- THE SECOND FORM's CARD OF 'stipendtop.WholeCodes'. -/
def wholeCodesUptoCard : Claim7 := { stood := { row := wholeCodesUptoRow, standIns := [], harness := (true, "2d2c0ac8ce44fba1df98564295eb5ac6f9cbd69f6da8444ff873ec02ea2b1b29"), looks := true }, kinds := [], alts := [], laidByText := true, laidKinds := [.data, .data, .data], laidTests := true, laidLooks := .later }
def WholeCodesUptoCardSaid : Prop := Claim7.holds Tryd.pinned (.plain (OpenSpec.upto wholeCodesSpec)) wholeCodesUptoCard
end Rows
end Go.Proofs.YthndkplmhpbgdaaDoor
