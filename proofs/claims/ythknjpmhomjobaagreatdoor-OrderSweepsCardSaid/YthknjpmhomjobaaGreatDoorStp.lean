/- Of what was there nothing turns, step by step. -/
import Derived.Test.YthknjpmhomjobaaGreatDoorPlain
import Derived.WalkKit
namespace Go.Proofs.YthknjpmhomjobaaGreatDoor
open Go.RowKit
theorem below_stepQ {B : Nat} {a b c : World} (h : Below B a b) (h2 : Below b.heap.size b c) (hB : B ≤ b.heap.size) : Below B a c := h.trans (h2.mono hB)
end Go.Proofs.YthknjpmhomjobaaGreatDoor
