/-
  DERIVED. GIVEN WITH THE SEED: THE CARDS: each row of YtobdbjmpoefebaaDoorRows.lean that lists a variable, with what it lists TIED to the program's text (the seventh form; the later family's looks); each row that meets fmt, with fmt's text TOLD by the authors' own Lean function (tested against real Go, not proved from fmt's source: count such statements apart). THE CARD IS WHAT COUNTS. Prove the row's statement (the work); the ties are given (YtobdbjmpoefebaaDoorTie.lean); close each card by the builder's one call (the guide's Derived/Test/ToyasCard.lean, 'card_holds'). Laid BY PROGRAM, IN A SANDBOX (cutbox-door.mjs). By AI agents, Wed Nov 11 2026. No macro, syntax, notation, axiom, sorry.
-/
import Derived.Test.YtobdbjmpoefebaaDoorRows
import GoSem.ClaimSeven
namespace Go.Proofs.YtobdbjmpoefebaaDoor
namespace Rows

/-- THE TIED CARD OF 'stipendlaw10.KeepCuts'. -/
def keepCutsCard : Claim7 := { stood := { row := keepCutsRow, standIns := [], harness := (true, "280515d6d6cbf9e941e6e24fde7978815e1dc5ecf38c7b55246db7698cd319d3"), looks := false }, kinds := [], alts := [], laidByText := true, laidKinds := [.data, .data, .data], laidTests := true, laidLooks := .later }
def KeepCutsCardSaid : Prop := Claim7.holds Tryd.pinned (.plain (OpenSpec.ofChange keepCutsSpec)) keepCutsCard

/-- THE TIED CARD OF 'stipendlaw11.ElementValues'. -/
def elementValuesCard : Claim7 := { stood := { row := elementValuesRow, standIns := [], harness := (true, "280515d6d6cbf9e941e6e24fde7978815e1dc5ecf38c7b55246db7698cd319d3"), looks := false }, kinds := [], alts := [], laidByText := true, laidKinds := [.data, .data, .data], laidTests := true, laidLooks := .later }
def ElementValuesCardSaid : Prop := Claim7.holds Tryd.pinned (.plain (OpenSpec.ofChange elementValuesSpec)) elementValuesCard

/-- THE TIED CARD OF 'stipendlaw11.ElementChecks'. -/
def elementChecksCard : Claim7 := { stood := { row := elementChecksRow, standIns := [], harness := (true, "280515d6d6cbf9e941e6e24fde7978815e1dc5ecf38c7b55246db7698cd319d3"), looks := false }, kinds := [], alts := [], laidByText := true, laidKinds := [.data, .data, .data], laidTests := true, laidLooks := .later }
def ElementChecksCardSaid : Prop := Claim7.holds Tryd.pinned (.plain (OpenSpec.ofChange elementChecksSpec)) elementChecksCard

/-- THE TIED CARD OF 'stipendlaw11.ElementTexts'. -/
def elementTextsCard : Claim7 := { stood := { row := elementTextsRow, standIns := [], harness := (true, "280515d6d6cbf9e941e6e24fde7978815e1dc5ecf38c7b55246db7698cd319d3"), looks := false }, kinds := [], alts := [], laidByText := true, laidKinds := [.data, .data, .data, .listed, .data], laidTests := true, laidLooks := .later }
def ElementTextsCardSaid : Prop := Claim7.holds Tryd.pinned (.plain (OpenSpec.ofChange elementTextsSpec)) elementTextsCard

/-- THE TIED CARD OF 'stipendlaw11.ElementParses'. -/
def elementParsesCard : Claim7 := { stood := { row := elementParsesRow, standIns := [], harness := (true, "280515d6d6cbf9e941e6e24fde7978815e1dc5ecf38c7b55246db7698cd319d3"), looks := false }, kinds := [], alts := [], laidByText := true, laidKinds := [.data, .data, .data], laidTests := true, laidLooks := .later }
def ElementParsesCardSaid : Prop := Claim7.holds Tryd.pinned (.plain (OpenSpec.ofChange elementParsesSpec)) elementParsesCard

/-- THE TIED CARD OF 'stipendlaw11.ElementSums'. -/
def elementSumsCard : Claim7 := { stood := { row := elementSumsRow, standIns := [], harness := (true, "280515d6d6cbf9e941e6e24fde7978815e1dc5ecf38c7b55246db7698cd319d3"), looks := false }, kinds := [], alts := [], laidByText := true, laidKinds := [.data, .data, .data], laidTests := true, laidLooks := .later }
def ElementSumsCardSaid : Prop := Claim7.holds Tryd.pinned (.plain (OpenSpec.ofChange elementSumsSpec)) elementSumsCard

/-- THE TIED CARD OF 'stipendlaw11.ElementChange'. -/
def elementChangeCard : Claim7 := { stood := { row := elementChangeRow, standIns := [], harness := (true, "280515d6d6cbf9e941e6e24fde7978815e1dc5ecf38c7b55246db7698cd319d3"), looks := false }, kinds := [], alts := [], laidByText := true, laidKinds := [.data, .data, .data], laidTests := true, laidLooks := .later }
def ElementChangeCardSaid : Prop := Claim7.holds Tryd.pinned (.plain (OpenSpec.ofChange elementChangeSpec)) elementChangeCard

/-- THE SECOND FORM's CARD OF 'stipendlaw10.KeepCuts'. -/
def keepCutsUptoCard : Claim7 := { stood := { row := keepCutsUptoRow, standIns := [], harness := (true, "280515d6d6cbf9e941e6e24fde7978815e1dc5ecf38c7b55246db7698cd319d3"), looks := false }, kinds := [], alts := [], laidByText := true, laidKinds := [.data, .data, .data], laidTests := true, laidLooks := .later }
def KeepCutsUptoCardSaid : Prop := Claim7.holds Tryd.pinned (.plain (OpenSpec.upto keepCutsSpec)) keepCutsUptoCard

/-- THE SECOND FORM's CARD OF 'stipendlaw11.ElementValues'. -/
def elementValuesUptoCard : Claim7 := { stood := { row := elementValuesUptoRow, standIns := [], harness := (true, "280515d6d6cbf9e941e6e24fde7978815e1dc5ecf38c7b55246db7698cd319d3"), looks := false }, kinds := [], alts := [], laidByText := true, laidKinds := [.data, .data, .data], laidTests := true, laidLooks := .later }
def ElementValuesUptoCardSaid : Prop := Claim7.holds Tryd.pinned (.plain (OpenSpec.upto elementValuesSpec)) elementValuesUptoCard

/-- THE SECOND FORM's CARD OF 'stipendlaw11.ElementChecks'. -/
def elementChecksUptoCard : Claim7 := { stood := { row := elementChecksUptoRow, standIns := [], harness := (true, "280515d6d6cbf9e941e6e24fde7978815e1dc5ecf38c7b55246db7698cd319d3"), looks := false }, kinds := [], alts := [], laidByText := true, laidKinds := [.data, .data, .data], laidTests := true, laidLooks := .later }
def ElementChecksUptoCardSaid : Prop := Claim7.holds Tryd.pinned (.plain (OpenSpec.upto elementChecksSpec)) elementChecksUptoCard

/-- THE SECOND FORM's CARD OF 'stipendlaw11.ElementTexts'. -/
def elementTextsUptoCard : Claim7 := { stood := { row := elementTextsUptoRow, standIns := [], harness := (true, "280515d6d6cbf9e941e6e24fde7978815e1dc5ecf38c7b55246db7698cd319d3"), looks := false }, kinds := [], alts := [], laidByText := true, laidKinds := [.data, .data, .data, .listed, .data], laidTests := true, laidLooks := .later }
def ElementTextsUptoCardSaid : Prop := Claim7.holds Tryd.pinned (.plain (OpenSpec.upto elementTextsSpec)) elementTextsUptoCard

/-- THE SECOND FORM's CARD OF 'stipendlaw11.ElementParses'. -/
def elementParsesUptoCard : Claim7 := { stood := { row := elementParsesUptoRow, standIns := [], harness := (true, "280515d6d6cbf9e941e6e24fde7978815e1dc5ecf38c7b55246db7698cd319d3"), looks := false }, kinds := [], alts := [], laidByText := true, laidKinds := [.data, .data, .data], laidTests := true, laidLooks := .later }
def ElementParsesUptoCardSaid : Prop := Claim7.holds Tryd.pinned (.plain (OpenSpec.upto elementParsesSpec)) elementParsesUptoCard

/-- THE SECOND FORM's CARD OF 'stipendlaw11.ElementSums'. -/
def elementSumsUptoCard : Claim7 := { stood := { row := elementSumsUptoRow, standIns := [], harness := (true, "280515d6d6cbf9e941e6e24fde7978815e1dc5ecf38c7b55246db7698cd319d3"), looks := false }, kinds := [], alts := [], laidByText := true, laidKinds := [.data, .data, .data], laidTests := true, laidLooks := .later }
def ElementSumsUptoCardSaid : Prop := Claim7.holds Tryd.pinned (.plain (OpenSpec.upto elementSumsSpec)) elementSumsUptoCard

/-- THE SECOND FORM's CARD OF 'stipendlaw11.ElementChange'. -/
def elementChangeUptoCard : Claim7 := { stood := { row := elementChangeUptoRow, standIns := [], harness := (true, "280515d6d6cbf9e941e6e24fde7978815e1dc5ecf38c7b55246db7698cd319d3"), looks := false }, kinds := [], alts := [], laidByText := true, laidKinds := [.data, .data, .data], laidTests := true, laidLooks := .later }
def ElementChangeUptoCardSaid : Prop := Claim7.holds Tryd.pinned (.plain (OpenSpec.upto elementChangeSpec)) elementChangeUptoCard
end Rows
end Go.Proofs.YtobdbjmpoefebaaDoor
