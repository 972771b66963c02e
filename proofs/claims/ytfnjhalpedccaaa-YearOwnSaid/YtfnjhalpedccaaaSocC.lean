/- Texts on shares, for a seat without tables. -/
import Derived.Test.YtfnjhalpedccaaaOwnN
import Derived.Test.YtfnjhalpedccaaaPairD
import Derived.Test.YtfnjhalpedccaaaBox
import Derived.Test.YtfnjhalpedccaaaOwnM
import Derived.Test.YtfnjhalpedccaaaTbl
import Derived.Lib.QuietBelow
import Derived.BigQuiet
import Derived.OwnWalk
import Derived.Maps.AppendAt
namespace Go.Proofs.Ytfnjhalpedccaaa
open Go.RowKit Go.Sort
set_option linter.unusedVariables false
set_option linter.unusedSimpArgs false

def shc (L : List (Int × Int)) : List Value := L.flatMap fun p => [.int .i64 p.1, .int .i64 p.2]
theorem shc_app (L M : List (Int × Int)) : shc (L ++ M) = shc L ++ shc M := by simp [shc]
theorem shc_len (L : List (Int × Int)) : (shc L).length = L.length * 2 := by
  induction L with
  | nil => rfl
  | cons p L ih => rw [show p :: L = [p] ++ L from rfl, shc_app, List.length_append, ih]; simp [shc]; omega
def ivs (L : List Int) : List Value := L.map (Value.int .i64)
theorem ivs_app (L M : List Int) : ivs (L ++ M) = ivs L ++ ivs M := by simp [ivs]
theorem infoSh : (Try.prog.info? 53).map (fun i => (i.zero, i.size, i.bytes)) = some (some (.agg #[.int .i64 0, .int .i64 0]), 2, 16) := by kernel_rfl
theorem infoI : (Try.prog.info? 2).map (fun i => (i.zero, i.size, i.bytes)) = some (some (.int .i64 0), 1, 8) := by kernel_rfl
end Go.Proofs.Ytfnjhalpedccaaa
