/- What all texts of this seat lean on: worlds that come one behind the other, rows of one and of two. -/
import Derived.Test.YtcldknmhmbpboaaPlain
import Derived.Test.YtcldknmhmbpboaaProg
import Derived.WalkKit
import Derived.WalkSpells
import Derived.WalkLawsBesides
import Derived.Lib.Hide
namespace Go.Proofs.Ytcldknmhmbpboaa
open Go.RowKit

theorem below_step {B : Nat} {a b c : World} (h : Below B a b) (h2 : Below b.heap.size b c) (hB : B ≤ b.heap.size) : Below B a c := h.trans (h2.mono hB)
end Go.Proofs.Ytcldknmhmbpboaa
