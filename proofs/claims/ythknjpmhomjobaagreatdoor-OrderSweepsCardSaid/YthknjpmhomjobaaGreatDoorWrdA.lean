/- What the calls of word answer that look at bytes: quotable, bare, ended, small, digit; the document's Shown and Plain; a text that is cloned; Quote. -/
import Derived.Test.YthknjpmhomjobaaGreatDoorWrd
import Derived.Test.YthknjpmhomjobaaGreatDoorCodC
namespace Go.Proofs.YthknjpmhomjobaaGreatDoor
open Go.RowKit
set_option linter.unusedVariables false
set_option linter.unusedSimpArgs false

end Go.Proofs.YthknjpmhomjobaaGreatDoor
