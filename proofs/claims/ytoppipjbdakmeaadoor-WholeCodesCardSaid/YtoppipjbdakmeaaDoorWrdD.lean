/- What the calls of word answer: Name, Option. -/
import Derived.Test.YtoppipjbdakmeaaDoorWrdC
import Derived.RegionTactic
import Derived.Lib.IndexLaws
namespace Go.Proofs.YtoppipjbdakmeaaDoor
open Go.RowKit
set_option linter.unusedVariables false
set_option linter.unusedSimpArgs false

/-- where a byte stands first is within the text -/
theorem ix_lt {l : List UInt8} {c : UInt8} {i : Nat} (h : Lib.indexByte l c = i) : i < l.length := by
  obtain ⟨h1, _⟩ := Lib.indexByte_some h
  exact (List.getElem?_eq_some_iff.1 h1).1
end Go.Proofs.YtoppipjbdakmeaaDoor
