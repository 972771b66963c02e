/-
  DERIVED. GIVEN WITH THE SEED: THE CARDS: each row of YtgdalejccbhjcaaDoorRows.lean that lists a variable, with what it lists TIED to the program's text (the seventh form; the later family's looks); each row that meets fmt, with fmt's text TOLD by the authors' own Lean function (tested against real Go, not proved from fmt's source: count such statements apart). THE CARD IS WHAT COUNTS. Prove the row's statement (the work); the ties are given (YtgdalejccbhjcaaDoorTie.lean); close each card by the builder's one call (the guide's Derived/Test/ToyasCard.lean, 'card_holds'). Laid BY PROGRAM, IN A SANDBOX (cutbox-door.mjs). By AI agents, Wed Nov 11 2026. No macro, syntax, notation, axiom, sorry.
-/
import Derived.Test.YtgdalejccbhjcaaDoorRows
import GoSem.ClaimSeven
namespace Go.Proofs.YtgdalejccbhjcaaDoor
namespace Rows

/-- THE TIED CARD OF 'stipendlaw18.AttachServes'. -/
def attachServesCard : Claim7 := { stood := { row := attachServesRow, standIns := [], harness := (true, "eeb16c74f0f61b6d3e43134ca72b5677de0489ea559ebfc3d337efa85ade528e"), looks := false }, kinds := [], alts := [], laidByText := true, laidKinds := [.data, .data, .data], laidTests := true, laidLooks := .later }
def AttachServesCardSaid : Prop := Claim7.holds Tryd.pinned (.plain (OpenSpec.ofChange attachServesSpec)) attachServesCard

/-- THE TIED CARD OF 'stipendlaw18.AttachProtects'. -/
def attachProtectsCard : Claim7 := { stood := { row := attachProtectsRow, standIns := [], harness := (true, "eeb16c74f0f61b6d3e43134ca72b5677de0489ea559ebfc3d337efa85ade528e"), looks := false }, kinds := [], alts := [], laidByText := true, laidKinds := [.data, .data, .data], laidTests := true, laidLooks := .later }
def AttachProtectsCardSaid : Prop := Claim7.holds Tryd.pinned (.plain (OpenSpec.ofChange attachProtectsSpec)) attachProtectsCard

/-- THE TIED CARD OF 'stipendlaw18.AttachShort'. -/
def attachShortCard : Claim7 := { stood := { row := attachShortRow, standIns := [], harness := (true, "eeb16c74f0f61b6d3e43134ca72b5677de0489ea559ebfc3d337efa85ade528e"), looks := false }, kinds := [], alts := [], laidByText := true, laidKinds := [.data, .data, .data], laidTests := true, laidLooks := .later }
def AttachShortCardSaid : Prop := Claim7.holds Tryd.pinned (.plain (OpenSpec.ofChange attachShortSpec)) attachShortCard

/-- THE TIED CARD OF 'stipendlaw18.AttachBooks'. -/
def attachBooksCard : Claim7 := { stood := { row := attachBooksRow, standIns := [], harness := (true, "eeb16c74f0f61b6d3e43134ca72b5677de0489ea559ebfc3d337efa85ade528e"), looks := false }, kinds := [], alts := [], laidByText := true, laidKinds := [.data, .data, .data], laidTests := true, laidLooks := .later }
def AttachBooksCardSaid : Prop := Claim7.holds Tryd.pinned (.plain (OpenSpec.ofChange attachBooksSpec)) attachBooksCard

/-- THE TIED CARD OF 'stipendlaw18.AttachRight'. -/
def attachRightCard : Claim7 := { stood := { row := attachRightRow, standIns := [], harness := (true, "eeb16c74f0f61b6d3e43134ca72b5677de0489ea559ebfc3d337efa85ade528e"), looks := false }, kinds := [], alts := [], laidByText := true, laidKinds := [.data, .data, .data], laidTests := true, laidLooks := .later }
def AttachRightCardSaid : Prop := Claim7.holds Tryd.pinned (.plain (OpenSpec.ofChange attachRightSpec)) attachRightCard

/-- THE TIED CARD OF 'stipendlaw16.ShareLines'. -/
def shareLinesCard : Claim7 := { stood := { row := shareLinesRow, standIns := [], harness := (true, "eeb16c74f0f61b6d3e43134ca72b5677de0489ea559ebfc3d337efa85ade528e"), looks := false }, kinds := [], alts := [], laidByText := true, laidKinds := [.data, .data, .data], laidTests := true, laidLooks := .later }
def ShareLinesCardSaid : Prop := Claim7.holds Tryd.pinned (.plain (OpenSpec.ofChange shareLinesSpec)) shareLinesCard

/-- THE SECOND FORM's CARD OF 'stipendlaw18.AttachServes'. -/
def attachServesUptoCard : Claim7 := { stood := { row := attachServesUptoRow, standIns := [], harness := (true, "eeb16c74f0f61b6d3e43134ca72b5677de0489ea559ebfc3d337efa85ade528e"), looks := false }, kinds := [], alts := [], laidByText := true, laidKinds := [.data, .data, .data], laidTests := true, laidLooks := .later }
def AttachServesUptoCardSaid : Prop := Claim7.holds Tryd.pinned (.plain (OpenSpec.upto attachServesSpec)) attachServesUptoCard

/-- THE SECOND FORM's CARD OF 'stipendlaw18.AttachProtects'. -/
def attachProtectsUptoCard : Claim7 := { stood := { row := attachProtectsUptoRow, standIns := [], harness := (true, "eeb16c74f0f61b6d3e43134ca72b5677de0489ea559ebfc3d337efa85ade528e"), looks := false }, kinds := [], alts := [], laidByText := true, laidKinds := [.data, .data, .data], laidTests := true, laidLooks := .later }
def AttachProtectsUptoCardSaid : Prop := Claim7.holds Tryd.pinned (.plain (OpenSpec.upto attachProtectsSpec)) attachProtectsUptoCard

/-- THE SECOND FORM's CARD OF 'stipendlaw18.AttachShort'. -/
def attachShortUptoCard : Claim7 := { stood := { row := attachShortUptoRow, standIns := [], harness := (true, "eeb16c74f0f61b6d3e43134ca72b5677de0489ea559ebfc3d337efa85ade528e"), looks := false }, kinds := [], alts := [], laidByText := true, laidKinds := [.data, .data, .data], laidTests := true, laidLooks := .later }
def AttachShortUptoCardSaid : Prop := Claim7.holds Tryd.pinned (.plain (OpenSpec.upto attachShortSpec)) attachShortUptoCard

/-- THE SECOND FORM's CARD OF 'stipendlaw18.AttachBooks'. -/
def attachBooksUptoCard : Claim7 := { stood := { row := attachBooksUptoRow, standIns := [], harness := (true, "eeb16c74f0f61b6d3e43134ca72b5677de0489ea559ebfc3d337efa85ade528e"), looks := false }, kinds := [], alts := [], laidByText := true, laidKinds := [.data, .data, .data], laidTests := true, laidLooks := .later }
def AttachBooksUptoCardSaid : Prop := Claim7.holds Tryd.pinned (.plain (OpenSpec.upto attachBooksSpec)) attachBooksUptoCard

/-- THE SECOND FORM's CARD OF 'stipendlaw18.AttachRight'. -/
def attachRightUptoCard : Claim7 := { stood := { row := attachRightUptoRow, standIns := [], harness := (true, "eeb16c74f0f61b6d3e43134ca72b5677de0489ea559ebfc3d337efa85ade528e"), looks := false }, kinds := [], alts := [], laidByText := true, laidKinds := [.data, .data, .data], laidTests := true, laidLooks := .later }
def AttachRightUptoCardSaid : Prop := Claim7.holds Tryd.pinned (.plain (OpenSpec.upto attachRightSpec)) attachRightUptoCard

/-- THE SECOND FORM's CARD OF 'stipendlaw16.ShareLines'. -/
def shareLinesUptoCard : Claim7 := { stood := { row := shareLinesUptoRow, standIns := [], harness := (true, "eeb16c74f0f61b6d3e43134ca72b5677de0489ea559ebfc3d337efa85ade528e"), looks := false }, kinds := [], alts := [], laidByText := true, laidKinds := [.data, .data, .data], laidTests := true, laidLooks := .later }
def ShareLinesUptoCardSaid : Prop := Claim7.holds Tryd.pinned (.plain (OpenSpec.upto shareLinesSpec)) shareLinesUptoCard
end Rows
end Go.Proofs.YtgdalejccbhjcaaDoor
