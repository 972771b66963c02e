/-
  DERIVED. GIVEN WITH THE SEED: THE CARDS: each row of YtkgfmanolanlhaaDoorRows.lean that lists a variable, with what it lists TIED to the program's text (the seventh form; the later family's looks); each row that meets fmt, with fmt's text TOLD by the authors' own Lean function (tested against real Go, not proved from fmt's source: count such statements apart). THE CARD IS WHAT COUNTS. Prove the row's statement (the work); the ties are given (YtkgfmanolanlhaaDoorTie.lean); close each card by the builder's one call (the guide's Derived/Test/ToyasCard.lean, 'card_holds'). Laid BY PROGRAM, IN A SANDBOX (cutbox-door.mjs). By AI agents, Wed Nov 11 2026. No macro, syntax, notation, axiom, sorry.
-/
import Derived.Test.YtkgfmanolanlhaaDoorRows
import GoSem.ClaimSeven
namespace Go.Proofs.YtkgfmanolanlhaaDoor
namespace Rows

/-- THE TIED CARD OF 'stipendlaw03.DateCounts'. -/
def dateCountsCard : Claim7 := { stood := { row := dateCountsRow, standIns := [], harness := (true, "956a5e4b6e298033d39c4584c12654bd13e94409b7b0a8c5772d4ee9e62cee1c"), looks := true }, kinds := [], alts := [], laidByText := true, laidKinds := [.data, .data, .data, .data, .sentinel, .sentinel, .data, .pinned], laidTests := true, laidLooks := .later }
def DateCountsCardSaid : Prop := Claim7.holds Tryd.pinned (.plain (OpenSpec.ofChange dateCountsSpec)) dateCountsCard

/-- THE TIED CARD OF 'stipendlaw03.DateBack'. -/
def dateBackCard : Claim7 := { stood := { row := dateBackRow, standIns := [], harness := (true, "956a5e4b6e298033d39c4584c12654bd13e94409b7b0a8c5772d4ee9e62cee1c"), looks := true }, kinds := [], alts := [], laidByText := true, laidKinds := [.data, .data, .data, .data, .sentinel, .sentinel, .data, .pinned], laidTests := true, laidLooks := .later }
def DateBackCardSaid : Prop := Claim7.holds Tryd.pinned (.plain (OpenSpec.ofChange dateBackSpec)) dateBackCard

/-- THE TIED CARD OF 'stipendlaw03.DateAdds'. -/
def dateAddsCard : Claim7 := { stood := { row := dateAddsRow, standIns := [], harness := (true, "956a5e4b6e298033d39c4584c12654bd13e94409b7b0a8c5772d4ee9e62cee1c"), looks := true }, kinds := [], alts := [], laidByText := true, laidKinds := [.data, .data, .data, .data, .sentinel, .sentinel, .data, .pinned], laidTests := true, laidLooks := .later }
def DateAddsCardSaid : Prop := Claim7.holds Tryd.pinned (.plain (OpenSpec.ofChange dateAddsSpec)) dateAddsCard

/-- THE TIED CARD OF 'stipendlaw03.DateMonths'. -/
def dateMonthsCard : Claim7 := { stood := { row := dateMonthsRow, standIns := [], harness := (true, "956a5e4b6e298033d39c4584c12654bd13e94409b7b0a8c5772d4ee9e62cee1c"), looks := true }, kinds := [], alts := [], laidByText := true, laidKinds := [.data, .data, .data, .data, .sentinel, .sentinel, .data, .pinned], laidTests := true, laidLooks := .later }
def DateMonthsCardSaid : Prop := Claim7.holds Tryd.pinned (.plain (OpenSpec.ofChange dateMonthsSpec)) dateMonthsCard

/-- THE TIED CARD OF 'stipendlaw03.DateTexts'. -/
def dateTextsCard : Claim7 := { stood := { row := dateTextsRow, standIns := [], harness := (true, "956a5e4b6e298033d39c4584c12654bd13e94409b7b0a8c5772d4ee9e62cee1c"), looks := true }, kinds := [], alts := [], laidByText := true, laidKinds := [.data, .data, .data, .data, .sentinel, .sentinel, .data, .pinned], laidTests := true, laidLooks := .later }
def DateTextsCardSaid : Prop := Claim7.holds Tryd.pinned (.plain (OpenSpec.ofChange dateTextsSpec)) dateTextsCard

/-- THE TIED CARD OF 'stipendlaw03.DateOrder'. -/
def dateOrderCard : Claim7 := { stood := { row := dateOrderRow, standIns := [], harness := (true, "956a5e4b6e298033d39c4584c12654bd13e94409b7b0a8c5772d4ee9e62cee1c"), looks := true }, kinds := [], alts := [], laidByText := true, laidKinds := [.data, .data, .data, .data, .sentinel, .sentinel, .data, .pinned], laidTests := true, laidLooks := .later }
def DateOrderCardSaid : Prop := Claim7.holds Tryd.pinned (.plain (OpenSpec.ofChange dateOrderSpec)) dateOrderCard

/-- THE TIED CARD OF 'stipendlaw03.DateWorks'. -/
def dateWorksCard : Claim7 := { stood := { row := dateWorksRow, standIns := [], harness := (true, "956a5e4b6e298033d39c4584c12654bd13e94409b7b0a8c5772d4ee9e62cee1c"), looks := true }, kinds := [], alts := [], laidByText := true, laidKinds := [.data, .data, .data, .data, .sentinel, .sentinel, .data, .pinned], laidTests := true, laidLooks := .later }
def DateWorksCardSaid : Prop := Claim7.holds Tryd.pinned (.plain (OpenSpec.ofChange dateWorksSpec)) dateWorksCard

/-- THE TIED CARD OF 'stipendlaw04.PeriodPays'. -/
def periodPaysCard : Claim7 := { stood := { row := periodPaysRow, standIns := [], harness := (true, "956a5e4b6e298033d39c4584c12654bd13e94409b7b0a8c5772d4ee9e62cee1c"), looks := true }, kinds := [], alts := [], laidByText := true, laidKinds := [.data], laidTests := true, laidLooks := .later }
def PeriodPaysCardSaid : Prop := Claim7.holds Tryd.pinned (.plain (OpenSpec.ofChange periodPaysSpec)) periodPaysCard

/-- THE SECOND FORM's CARD OF 'stipendlaw03.DateCounts'. -/
def dateCountsUptoCard : Claim7 := { stood := { row := dateCountsUptoRow, standIns := [], harness := (true, "956a5e4b6e298033d39c4584c12654bd13e94409b7b0a8c5772d4ee9e62cee1c"), looks := true }, kinds := [], alts := [], laidByText := true, laidKinds := [.data, .data, .data, .data, .sentinel, .sentinel, .data, .pinned], laidTests := true, laidLooks := .later }
def DateCountsUptoCardSaid : Prop := Claim7.holds Tryd.pinned (.plain (OpenSpec.upto dateCountsSpec)) dateCountsUptoCard

/-- THE SECOND FORM's CARD OF 'stipendlaw03.DateBack'. -/
def dateBackUptoCard : Claim7 := { stood := { row := dateBackUptoRow, standIns := [], harness := (true, "956a5e4b6e298033d39c4584c12654bd13e94409b7b0a8c5772d4ee9e62cee1c"), looks := true }, kinds := [], alts := [], laidByText := true, laidKinds := [.data, .data, .data, .data, .sentinel, .sentinel, .data, .pinned], laidTests := true, laidLooks := .later }
def DateBackUptoCardSaid : Prop := Claim7.holds Tryd.pinned (.plain (OpenSpec.upto dateBackSpec)) dateBackUptoCard

/-- THE SECOND FORM's CARD OF 'stipendlaw03.DateAdds'. -/
def dateAddsUptoCard : Claim7 := { stood := { row := dateAddsUptoRow, standIns := [], harness := (true, "956a5e4b6e298033d39c4584c12654bd13e94409b7b0a8c5772d4ee9e62cee1c"), looks := true }, kinds := [], alts := [], laidByText := true, laidKinds := [.data, .data, .data, .data, .sentinel, .sentinel, .data, .pinned], laidTests := true, laidLooks := .later }
def DateAddsUptoCardSaid : Prop := Claim7.holds Tryd.pinned (.plain (OpenSpec.upto dateAddsSpec)) dateAddsUptoCard

/-- THE SECOND FORM's CARD OF 'stipendlaw03.DateMonths'. -/
def dateMonthsUptoCard : Claim7 := { stood := { row := dateMonthsUptoRow, standIns := [], harness := (true, "956a5e4b6e298033d39c4584c12654bd13e94409b7b0a8c5772d4ee9e62cee1c"), looks := true }, kinds := [], alts := [], laidByText := true, laidKinds := [.data, .data, .data, .data, .sentinel, .sentinel, .data, .pinned], laidTests := true, laidLooks := .later }
def DateMonthsUptoCardSaid : Prop := Claim7.holds Tryd.pinned (.plain (OpenSpec.upto dateMonthsSpec)) dateMonthsUptoCard

/-- THE SECOND FORM's CARD OF 'stipendlaw03.DateTexts'. -/
def dateTextsUptoCard : Claim7 := { stood := { row := dateTextsUptoRow, standIns := [], harness := (true, "956a5e4b6e298033d39c4584c12654bd13e94409b7b0a8c5772d4ee9e62cee1c"), looks := true }, kinds := [], alts := [], laidByText := true, laidKinds := [.data, .data, .data, .data, .sentinel, .sentinel, .data, .pinned], laidTests := true, laidLooks := .later }
def DateTextsUptoCardSaid : Prop := Claim7.holds Tryd.pinned (.plain (OpenSpec.upto dateTextsSpec)) dateTextsUptoCard

/-- THE SECOND FORM's CARD OF 'stipendlaw03.DateOrder'. -/
def dateOrderUptoCard : Claim7 := { stood := { row := dateOrderUptoRow, standIns := [], harness := (true, "956a5e4b6e298033d39c4584c12654bd13e94409b7b0a8c5772d4ee9e62cee1c"), looks := true }, kinds := [], alts := [], laidByText := true, laidKinds := [.data, .data, .data, .data, .sentinel, .sentinel, .data, .pinned], laidTests := true, laidLooks := .later }
def DateOrderUptoCardSaid : Prop := Claim7.holds Tryd.pinned (.plain (OpenSpec.upto dateOrderSpec)) dateOrderUptoCard

/-- THE SECOND FORM's CARD OF 'stipendlaw03.DateWorks'. -/
def dateWorksUptoCard : Claim7 := { stood := { row := dateWorksUptoRow, standIns := [], harness := (true, "956a5e4b6e298033d39c4584c12654bd13e94409b7b0a8c5772d4ee9e62cee1c"), looks := true }, kinds := [], alts := [], laidByText := true, laidKinds := [.data, .data, .data, .data, .sentinel, .sentinel, .data, .pinned], laidTests := true, laidLooks := .later }
def DateWorksUptoCardSaid : Prop := Claim7.holds Tryd.pinned (.plain (OpenSpec.upto dateWorksSpec)) dateWorksUptoCard

/-- THE SECOND FORM's CARD OF 'stipendlaw04.PeriodPays'. -/
def periodPaysUptoCard : Claim7 := { stood := { row := periodPaysUptoRow, standIns := [], harness := (true, "956a5e4b6e298033d39c4584c12654bd13e94409b7b0a8c5772d4ee9e62cee1c"), looks := true }, kinds := [], alts := [], laidByText := true, laidKinds := [.data], laidTests := true, laidLooks := .later }
def PeriodPaysUptoCardSaid : Prop := Claim7.holds Tryd.pinned (.plain (OpenSpec.upto periodPaysSpec)) periodPaysUptoCard
end Rows
end Go.Proofs.YtkgfmanolanlhaaDoor
