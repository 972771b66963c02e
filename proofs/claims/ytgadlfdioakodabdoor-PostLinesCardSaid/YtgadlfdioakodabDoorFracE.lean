/- Merged: FracA, FracE. -/
import Derived.Test.YtgadlfdioakodabDoorRight
import Derived.WalkLawsBesides
import Derived.Deep.QuietTactic
import Derived.BigQuiet
import Derived.WalkSmall
/- What the calls of frac answer that round and that take parts: Mode, Rate, split, rises, Round, Right, Part, Of, Coins, Take. -/
namespace Go.Proofs.YtgadlfdioakodabDoor
open Go.RowKit

theorem odd_tmod (q : Int) : (q.tmod 2 != 0) = decide (q % 2 ≠ 0) := by
  have hb := Int.lt_tmod_of_pos q (show (0 : Int) < 2 by omega)
  rw [Bool.eq_iff_iff]
  simp only [bne_iff_ne, ne_eq, decide_eq_true_eq]
  rcases Int.lt_or_le (q.tmod 2) 0 with h | h
  · have := (floor_neg (d := 2) (by omega) h).2
    omega
  · have := (floor_pos (d := 2) (by omega) h).2
    omega
end Go.Proofs.YtgadlfdioakodabDoor

/- What the calls of frac answer that take parts, round and scale: Part, Coins, Scale. -/
namespace Go.Proofs.YtgadlfdioakodabDoor
open Go.RowKit

theorem ex_of_part {x r : Int} (h : amtB x = true) (hr : rateB r = true) : exB (x * r) = true := by
  have hb := amtB_yes h
  have hb2 := rateB_yes hr
  have hm := mul_bd 10000 hb.1 hb.2 hb2.1 hb2.2
  exact exB_mk (by omega) (by omega)
end Go.Proofs.YtgadlfdioakodabDoor
