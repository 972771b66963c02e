/- What the calls of frac answer that take parts, round and scale: Part, Coins, Scale. -/
import Derived.Test.YtffihnbpjcgicaaFracA
import Derived.WalkSmall
namespace Go.Proofs.Ytffihnbpjcgicaa
open Go.RowKit

theorem ex_of_part {x r : Int} (h : amtB x = true) (hr : rateB r = true) : exB (x * r) = true := by
  have hb := amtB_yes h
  have hb2 := rateB_yes hr
  have hm := mul_bd 10000 hb.1 hb.2 hb2.1 hb2.2
  exact exB_mk (by omega) (by omega)
end Go.Proofs.Ytffihnbpjcgicaa
