/-
  DERIVED. GIVEN WITH THE SEED: THE CARDS: each row of YtnpkpjnkbajnjaaDoorRows.lean that lists a variable, with what it lists TIED to the program's text (the seventh form; the later family's looks); each row that meets fmt, with fmt's text TOLD by the authors' own Lean function (tested against real Go, not proved from fmt's source: count such statements apart). THE CARD IS WHAT COUNTS. Prove the row's statement (the work); the ties are given (YtnpkpjnkbajnjaaDoorTie.lean); close each card by the builder's one call (the guide's Derived/Test/ToyasCard.lean, 'card_holds'). Laid BY PROGRAM, IN A SANDBOX (cutbox-door.mjs). By AI agents, Wed Nov 11 2026. No macro, syntax, notation, axiom, sorry.
-/
import Derived.Test.YtnpkpjnkbajnjaaDoorRows
import GoSem.ClaimSeven
namespace Go.Proofs.YtnpkpjnkbajnjaaDoor
namespace Rows

/-- THE TIED CARD OF 'stipendlaw01.MoneySpreads'. -/
def moneySpreadsCard : Claim7 := { stood := { row := moneySpreadsRow, standIns := [], harness := (true, "1380c53d9dd8b6e16f26e854a48038a4d83dcc5891a71d5b6eed2722f618aa54"), looks := true }, kinds := [], alts := [], laidByText := true, laidKinds := [.data, .data, .data], laidTests := true, laidLooks := .later }
def MoneySpreadsCardSaid : Prop := Claim7.holds Tryd.pinned (.plain (OpenSpec.ofChange moneySpreadsSpec)) moneySpreadsCard

/-- THE TIED CARD OF 'stipendlaw03.DateCounts'. -/
def dateCountsCard : Claim7 := { stood := { row := dateCountsRow, standIns := [], harness := (true, "1380c53d9dd8b6e16f26e854a48038a4d83dcc5891a71d5b6eed2722f618aa54"), looks := true }, kinds := [], alts := [], laidByText := true, laidKinds := [.data, .data, .data, .data, .sentinel, .sentinel, .data, .pinned], laidTests := true, laidLooks := .later }
def DateCountsCardSaid : Prop := Claim7.holds Tryd.pinned (.plain (OpenSpec.ofChange dateCountsSpec)) dateCountsCard

/-- THE TIED CARD OF 'stipendlaw03.DateBack'. -/
def dateBackCard : Claim7 := { stood := { row := dateBackRow, standIns := [], harness := (true, "1380c53d9dd8b6e16f26e854a48038a4d83dcc5891a71d5b6eed2722f618aa54"), looks := true }, kinds := [], alts := [], laidByText := true, laidKinds := [.data, .data, .data, .data, .sentinel, .sentinel, .data, .pinned], laidTests := true, laidLooks := .later }
def DateBackCardSaid : Prop := Claim7.holds Tryd.pinned (.plain (OpenSpec.ofChange dateBackSpec)) dateBackCard

/-- THE TIED CARD OF 'stipendlaw03.DateAdds'. -/
def dateAddsCard : Claim7 := { stood := { row := dateAddsRow, standIns := [], harness := (true, "1380c53d9dd8b6e16f26e854a48038a4d83dcc5891a71d5b6eed2722f618aa54"), looks := true }, kinds := [], alts := [], laidByText := true, laidKinds := [.data, .data, .data, .data, .sentinel, .sentinel, .data, .pinned], laidTests := true, laidLooks := .later }
def DateAddsCardSaid : Prop := Claim7.holds Tryd.pinned (.plain (OpenSpec.ofChange dateAddsSpec)) dateAddsCard

/-- THE TIED CARD OF 'stipendlaw03.DateMonths'. -/
def dateMonthsCard : Claim7 := { stood := { row := dateMonthsRow, standIns := [], harness := (true, "1380c53d9dd8b6e16f26e854a48038a4d83dcc5891a71d5b6eed2722f618aa54"), looks := true }, kinds := [], alts := [], laidByText := true, laidKinds := [.data, .data, .data, .data, .sentinel, .sentinel, .data, .pinned], laidTests := true, laidLooks := .later }
def DateMonthsCardSaid : Prop := Claim7.holds Tryd.pinned (.plain (OpenSpec.ofChange dateMonthsSpec)) dateMonthsCard

/-- THE TIED CARD OF 'stipendlaw03.DateTexts'. -/
def dateTextsCard : Claim7 := { stood := { row := dateTextsRow, standIns := [], harness := (true, "1380c53d9dd8b6e16f26e854a48038a4d83dcc5891a71d5b6eed2722f618aa54"), looks := true }, kinds := [], alts := [], laidByText := true, laidKinds := [.data, .data, .data, .data, .sentinel, .sentinel, .data, .pinned], laidTests := true, laidLooks := .later }
def DateTextsCardSaid : Prop := Claim7.holds Tryd.pinned (.plain (OpenSpec.ofChange dateTextsSpec)) dateTextsCard

/-- THE TIED CARD OF 'stipendlaw03.DateOrder'. -/
def dateOrderCard : Claim7 := { stood := { row := dateOrderRow, standIns := [], harness := (true, "1380c53d9dd8b6e16f26e854a48038a4d83dcc5891a71d5b6eed2722f618aa54"), looks := true }, kinds := [], alts := [], laidByText := true, laidKinds := [.data, .data, .data, .data, .sentinel, .sentinel, .data, .pinned], laidTests := true, laidLooks := .later }
def DateOrderCardSaid : Prop := Claim7.holds Tryd.pinned (.plain (OpenSpec.ofChange dateOrderSpec)) dateOrderCard

/-- THE TIED CARD OF 'stipendlaw03.DateWorks'. -/
def dateWorksCard : Claim7 := { stood := { row := dateWorksRow, standIns := [], harness := (true, "1380c53d9dd8b6e16f26e854a48038a4d83dcc5891a71d5b6eed2722f618aa54"), looks := true }, kinds := [], alts := [], laidByText := true, laidKinds := [.data, .data, .data, .data, .sentinel, .sentinel, .data, .pinned], laidTests := true, laidLooks := .later }
def DateWorksCardSaid : Prop := Claim7.holds Tryd.pinned (.plain (OpenSpec.ofChange dateWorksSpec)) dateWorksCard

/-- THE TIED CARD OF 'stipendlaw04.PeriodMakes'. -/
def periodMakesCard : Claim7 := { stood := { row := periodMakesRow, standIns := [], harness := (true, "1380c53d9dd8b6e16f26e854a48038a4d83dcc5891a71d5b6eed2722f618aa54"), looks := true }, kinds := [], alts := [], laidByText := true, laidKinds := [.data], laidTests := true, laidLooks := .later }
def PeriodMakesCardSaid : Prop := Claim7.holds Tryd.pinned (.plain (OpenSpec.ofChange periodMakesSpec)) periodMakesCard

/-- THE TIED CARD OF 'stipendlaw04.PeriodCovers'. -/
def periodCoversCard : Claim7 := { stood := { row := periodCoversRow, standIns := [], harness := (true, "1380c53d9dd8b6e16f26e854a48038a4d83dcc5891a71d5b6eed2722f618aa54"), looks := true }, kinds := [], alts := [], laidByText := true, laidKinds := [.data], laidTests := true, laidLooks := .later }
def PeriodCoversCardSaid : Prop := Claim7.holds Tryd.pinned (.plain (OpenSpec.ofChange periodCoversSpec)) periodCoversCard

/-- THE TIED CARD OF 'stipendlaw04.PeriodWeeks'. -/
def periodWeeksCard : Claim7 := { stood := { row := periodWeeksRow, standIns := [], harness := (true, "1380c53d9dd8b6e16f26e854a48038a4d83dcc5891a71d5b6eed2722f618aa54"), looks := true }, kinds := [], alts := [], laidByText := true, laidKinds := [.data], laidTests := true, laidLooks := .later }
def PeriodWeeksCardSaid : Prop := Claim7.holds Tryd.pinned (.plain (OpenSpec.ofChange periodWeeksSpec)) periodWeeksCard

/-- THE TIED CARD OF 'stipendlaw04.PeriodOutside'. -/
def periodOutsideCard : Claim7 := { stood := { row := periodOutsideRow, standIns := [], harness := (true, "1380c53d9dd8b6e16f26e854a48038a4d83dcc5891a71d5b6eed2722f618aa54"), looks := true }, kinds := [], alts := [], laidByText := true, laidKinds := [.data], laidTests := true, laidLooks := .later }
def PeriodOutsideCardSaid : Prop := Claim7.holds Tryd.pinned (.plain (OpenSpec.ofChange periodOutsideSpec)) periodOutsideCard

/-- THE TIED CARD OF 'stipendlaw04.PeriodNames'. -/
def periodNamesCard : Claim7 := { stood := { row := periodNamesRow, standIns := [], harness := (true, "1380c53d9dd8b6e16f26e854a48038a4d83dcc5891a71d5b6eed2722f618aa54"), looks := true }, kinds := [], alts := [], laidByText := true, laidKinds := [.data], laidTests := true, laidLooks := .later }
def PeriodNamesCardSaid : Prop := Claim7.holds Tryd.pinned (.plain (OpenSpec.ofChange periodNamesSpec)) periodNamesCard

/-- THE TIED CARD OF 'stipendlaw04.PeriodPays'. -/
def periodPaysCard : Claim7 := { stood := { row := periodPaysRow, standIns := [], harness := (true, "1380c53d9dd8b6e16f26e854a48038a4d83dcc5891a71d5b6eed2722f618aa54"), looks := true }, kinds := [], alts := [], laidByText := true, laidKinds := [.data], laidTests := true, laidLooks := .later }
def PeriodPaysCardSaid : Prop := Claim7.holds Tryd.pinned (.plain (OpenSpec.ofChange periodPaysSpec)) periodPaysCard

/-- THE TIED CARD OF 'stipendtop.WholeParts'. -/
def wholePartsCard : Claim7 := { stood := { row := wholePartsRow, standIns := [], harness := (true, "1380c53d9dd8b6e16f26e854a48038a4d83dcc5891a71d5b6eed2722f618aa54"), looks := true }, kinds := [], alts := [], laidByText := true, laidKinds := [.data, .data, .data], laidTests := true, laidLooks := .later }
def WholePartsCardSaid : Prop := Claim7.holds Tryd.pinned (.plain (OpenSpec.ofChange wholePartsSpec)) wholePartsCard

/-- THE TIED CARD OF 'stipendtop.WholeYears'. -/
def wholeYearsCard : Claim7 := { stood := { row := wholeYearsRow, standIns := [], harness := (true, "1380c53d9dd8b6e16f26e854a48038a4d83dcc5891a71d5b6eed2722f618aa54"), looks := true }, kinds := [], alts := [], laidByText := true, laidKinds := [.data], laidTests := true, laidLooks := .later }
def WholeYearsCardSaid : Prop := Claim7.holds Tryd.pinned (.plain (OpenSpec.ofChange wholeYearsSpec)) wholeYearsCard

/-- THE SECOND FORM's CARD OF 'stipendlaw01.MoneySpreads'. -/
def moneySpreadsUptoCard : Claim7 := { stood := { row := moneySpreadsUptoRow, standIns := [], harness := (true, "1380c53d9dd8b6e16f26e854a48038a4d83dcc5891a71d5b6eed2722f618aa54"), looks := true }, kinds := [], alts := [], laidByText := true, laidKinds := [.data, .data, .data], laidTests := true, laidLooks := .later }
def MoneySpreadsUptoCardSaid : Prop := Claim7.holds Tryd.pinned (.plain (OpenSpec.upto moneySpreadsSpec)) moneySpreadsUptoCard

/-- THE SECOND FORM's CARD OF 'stipendlaw03.DateCounts'. -/
def dateCountsUptoCard : Claim7 := { stood := { row := dateCountsUptoRow, standIns := [], harness := (true, "1380c53d9dd8b6e16f26e854a48038a4d83dcc5891a71d5b6eed2722f618aa54"), looks := true }, kinds := [], alts := [], laidByText := true, laidKinds := [.data, .data, .data, .data, .sentinel, .sentinel, .data, .pinned], laidTests := true, laidLooks := .later }
def DateCountsUptoCardSaid : Prop := Claim7.holds Tryd.pinned (.plain (OpenSpec.upto dateCountsSpec)) dateCountsUptoCard

/-- THE SECOND FORM's CARD OF 'stipendlaw03.DateBack'. -/
def dateBackUptoCard : Claim7 := { stood := { row := dateBackUptoRow, standIns := [], harness := (true, "1380c53d9dd8b6e16f26e854a48038a4d83dcc5891a71d5b6eed2722f618aa54"), looks := true }, kinds := [], alts := [], laidByText := true, laidKinds := [.data, .data, .data, .data, .sentinel, .sentinel, .data, .pinned], laidTests := true, laidLooks := .later }
def DateBackUptoCardSaid : Prop := Claim7.holds Tryd.pinned (.plain (OpenSpec.upto dateBackSpec)) dateBackUptoCard

/-- THE SECOND FORM's CARD OF 'stipendlaw03.DateAdds'. -/
def dateAddsUptoCard : Claim7 := { stood := { row := dateAddsUptoRow, standIns := [], harness := (true, "1380c53d9dd8b6e16f26e854a48038a4d83dcc5891a71d5b6eed2722f618aa54"), looks := true }, kinds := [], alts := [], laidByText := true, laidKinds := [.data, .data, .data, .data, .sentinel, .sentinel, .data, .pinned], laidTests := true, laidLooks := .later }
def DateAddsUptoCardSaid : Prop := Claim7.holds Tryd.pinned (.plain (OpenSpec.upto dateAddsSpec)) dateAddsUptoCard

/-- THE SECOND FORM's CARD OF 'stipendlaw03.DateMonths'. -/
def dateMonthsUptoCard : Claim7 := { stood := { row := dateMonthsUptoRow, standIns := [], harness := (true, "1380c53d9dd8b6e16f26e854a48038a4d83dcc5891a71d5b6eed2722f618aa54"), looks := true }, kinds := [], alts := [], laidByText := true, laidKinds := [.data, .data, .data, .data, .sentinel, .sentinel, .data, .pinned], laidTests := true, laidLooks := .later }
def DateMonthsUptoCardSaid : Prop := Claim7.holds Tryd.pinned (.plain (OpenSpec.upto dateMonthsSpec)) dateMonthsUptoCard

/-- THE SECOND FORM's CARD OF 'stipendlaw03.DateTexts'. -/
def dateTextsUptoCard : Claim7 := { stood := { row := dateTextsUptoRow, standIns := [], harness := (true, "1380c53d9dd8b6e16f26e854a48038a4d83dcc5891a71d5b6eed2722f618aa54"), looks := true }, kinds := [], alts := [], laidByText := true, laidKinds := [.data, .data, .data, .data, .sentinel, .sentinel, .data, .pinned], laidTests := true, laidLooks := .later }
def DateTextsUptoCardSaid : Prop := Claim7.holds Tryd.pinned (.plain (OpenSpec.upto dateTextsSpec)) dateTextsUptoCard

/-- THE SECOND FORM's CARD OF 'stipendlaw03.DateOrder'. -/
def dateOrderUptoCard : Claim7 := { stood := { row := dateOrderUptoRow, standIns := [], harness := (true, "1380c53d9dd8b6e16f26e854a48038a4d83dcc5891a71d5b6eed2722f618aa54"), looks := true }, kinds := [], alts := [], laidByText := true, laidKinds := [.data, .data, .data, .data, .sentinel, .sentinel, .data, .pinned], laidTests := true, laidLooks := .later }
def DateOrderUptoCardSaid : Prop := Claim7.holds Tryd.pinned (.plain (OpenSpec.upto dateOrderSpec)) dateOrderUptoCard

/-- THE SECOND FORM's CARD OF 'stipendlaw03.DateWorks'. -/
def dateWorksUptoCard : Claim7 := { stood := { row := dateWorksUptoRow, standIns := [], harness := (true, "1380c53d9dd8b6e16f26e854a48038a4d83dcc5891a71d5b6eed2722f618aa54"), looks := true }, kinds := [], alts := [], laidByText := true, laidKinds := [.data, .data, .data, .data, .sentinel, .sentinel, .data, .pinned], laidTests := true, laidLooks := .later }
def DateWorksUptoCardSaid : Prop := Claim7.holds Tryd.pinned (.plain (OpenSpec.upto dateWorksSpec)) dateWorksUptoCard

/-- THE SECOND FORM's CARD OF 'stipendlaw04.PeriodMakes'. -/
def periodMakesUptoCard : Claim7 := { stood := { row := periodMakesUptoRow, standIns := [], harness := (true, "1380c53d9dd8b6e16f26e854a48038a4d83dcc5891a71d5b6eed2722f618aa54"), looks := true }, kinds := [], alts := [], laidByText := true, laidKinds := [.data], laidTests := true, laidLooks := .later }
def PeriodMakesUptoCardSaid : Prop := Claim7.holds Tryd.pinned (.plain (OpenSpec.upto periodMakesSpec)) periodMakesUptoCard

/-- THE SECOND FORM's CARD OF 'stipendlaw04.PeriodCovers'. -/
def periodCoversUptoCard : Claim7 := { stood := { row := periodCoversUptoRow, standIns := [], harness := (true, "1380c53d9dd8b6e16f26e854a48038a4d83dcc5891a71d5b6eed2722f618aa54"), looks := true }, kinds := [], alts := [], laidByText := true, laidKinds := [.data], laidTests := true, laidLooks := .later }
def PeriodCoversUptoCardSaid : Prop := Claim7.holds Tryd.pinned (.plain (OpenSpec.upto periodCoversSpec)) periodCoversUptoCard

/-- THE SECOND FORM's CARD OF 'stipendlaw04.PeriodWeeks'. -/
def periodWeeksUptoCard : Claim7 := { stood := { row := periodWeeksUptoRow, standIns := [], harness := (true, "1380c53d9dd8b6e16f26e854a48038a4d83dcc5891a71d5b6eed2722f618aa54"), looks := true }, kinds := [], alts := [], laidByText := true, laidKinds := [.data], laidTests := true, laidLooks := .later }
def PeriodWeeksUptoCardSaid : Prop := Claim7.holds Tryd.pinned (.plain (OpenSpec.upto periodWeeksSpec)) periodWeeksUptoCard

/-- THE SECOND FORM's CARD OF 'stipendlaw04.PeriodOutside'. -/
def periodOutsideUptoCard : Claim7 := { stood := { row := periodOutsideUptoRow, standIns := [], harness := (true, "1380c53d9dd8b6e16f26e854a48038a4d83dcc5891a71d5b6eed2722f618aa54"), looks := true }, kinds := [], alts := [], laidByText := true, laidKinds := [.data], laidTests := true, laidLooks := .later }
def PeriodOutsideUptoCardSaid : Prop := Claim7.holds Tryd.pinned (.plain (OpenSpec.upto periodOutsideSpec)) periodOutsideUptoCard

/-- THE SECOND FORM's CARD OF 'stipendlaw04.PeriodNames'. -/
def periodNamesUptoCard : Claim7 := { stood := { row := periodNamesUptoRow, standIns := [], harness := (true, "1380c53d9dd8b6e16f26e854a48038a4d83dcc5891a71d5b6eed2722f618aa54"), looks := true }, kinds := [], alts := [], laidByText := true, laidKinds := [.data], laidTests := true, laidLooks := .later }
def PeriodNamesUptoCardSaid : Prop := Claim7.holds Tryd.pinned (.plain (OpenSpec.upto periodNamesSpec)) periodNamesUptoCard

/-- THE SECOND FORM's CARD OF 'stipendlaw04.PeriodPays'. -/
def periodPaysUptoCard : Claim7 := { stood := { row := periodPaysUptoRow, standIns := [], harness := (true, "1380c53d9dd8b6e16f26e854a48038a4d83dcc5891a71d5b6eed2722f618aa54"), looks := true }, kinds := [], alts := [], laidByText := true, laidKinds := [.data], laidTests := true, laidLooks := .later }
def PeriodPaysUptoCardSaid : Prop := Claim7.holds Tryd.pinned (.plain (OpenSpec.upto periodPaysSpec)) periodPaysUptoCard

/-- THE SECOND FORM's CARD OF 'stipendtop.WholeParts'. -/
def wholePartsUptoCard : Claim7 := { stood := { row := wholePartsUptoRow, standIns := [], harness := (true, "1380c53d9dd8b6e16f26e854a48038a4d83dcc5891a71d5b6eed2722f618aa54"), looks := true }, kinds := [], alts := [], laidByText := true, laidKinds := [.data, .data, .data], laidTests := true, laidLooks := .later }
def WholePartsUptoCardSaid : Prop := Claim7.holds Tryd.pinned (.plain (OpenSpec.upto wholePartsSpec)) wholePartsUptoCard

/-- THE SECOND FORM's CARD OF 'stipendtop.WholeYears'. -/
def wholeYearsUptoCard : Claim7 := { stood := { row := wholeYearsUptoRow, standIns := [], harness := (true, "1380c53d9dd8b6e16f26e854a48038a4d83dcc5891a71d5b6eed2722f618aa54"), looks := true }, kinds := [], alts := [], laidByText := true, laidKinds := [.data], laidTests := true, laidLooks := .later }
def WholeYearsUptoCardSaid : Prop := Claim7.holds Tryd.pinned (.plain (OpenSpec.upto wholeYearsSpec)) wholeYearsUptoCard
end Rows
end Go.Proofs.YtnpkpjnkbajnjaaDoor
