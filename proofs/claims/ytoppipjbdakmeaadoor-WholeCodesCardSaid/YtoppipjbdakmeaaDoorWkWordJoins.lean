/- WordJoins: the whole walk. -/
import Derived.Test.YtoppipjbdakmeaaDoorWrdJ
import Derived.Lib.QuietBelow
import Derived.BigQuiet
namespace Go.Proofs.YtoppipjbdakmeaaDoor
open Go.RowKit Go.Sort
set_option linter.unusedVariables false
set_option linter.unusedSimpArgs false
theorem mixedAll : Tryd.prog.follows .mixedOrders = true := by kernel_rfl
/-- the words of a row -/
def wds (f : Nat → ByteArray) (n : Nat) : List (List UInt8) := (List.range n).map fun i => (f i).data.toList
theorem wds_len (f : Nat → ByteArray) (n : Nat) : (wds f n).length = n := by simp [wds]
theorem wds_at (f : Nat → ByteArray) {n i : Nat} (h : i < n) : (wds f n).getD i [] = (f i).data.toList := by simp [wds, List.getD, h]
theorem wds_row {w : World} {A : Option Addr} {n : Nat} {f : Nat → ByteArray} (h : rowAt w A n fun i => .string (f i)) : rowAt w A n fun i => sv ((wds f n).getD i []) := fun h0 => by
  obtain ⟨b, o, e, hc⟩ := h h0
  refine ⟨b, o, e, fun i hi => (hc i hi).trans ?_⟩
  show some (Value.string (f i)) = some (sv ((wds f n).getD i []))
  rw [wds_at f hi]
  show some (Value.string (f i)) = some (Value.string ⟨(f i).data.toList.toArray⟩)
  rw [data_self]
theorem quo_long (l : List UInt8) (h : l.all shwB = true) : (quoV l).length = l.length + (if needB l = true then 2 else 0) := by
  unfold quoV
  rw [if_pos h]
  split <;> simp
end Go.Proofs.YtoppipjbdakmeaaDoor
