/- What frac answers of rates and of ways of rounding: Rate, Mode. -/
import Derived.Test.YtobdbjmpoefebaaDoorRight
import Derived.WalkLawsBesides
import Derived.Deep.QuietTactic
import Derived.BigQuiet
namespace Go.Proofs.YtobdbjmpoefebaaDoor
open Go.RowKit

theorem mode_any (m : Int) (w : World) : Calls Tryd.prog 58 #[.int .i64 m] w fun e w' => e = .returned (.bool (modeB m)) ∧ w = w' := by
  go_enter Tryd.func58, Tryd.ntmps58
  go_wp2
  · go_ret
    exact ⟨ret_b (by simp only [modeB]; congr 1; simp; omega), rfl⟩
  · go_ret
    exact ⟨ret_b (by simp only [modeB]; simp; omega), rfl⟩
theorem rate_any (m : Int) (w : World) : Calls Tryd.prog 101 #[.int .i64 m] w fun e w' => e = .returned (.bool (rateB m)) ∧ w = w' := by
  go_enter Tryd.func101, Tryd.ntmps101
  go_wp2
  · go_ret
    exact ⟨ret_b (by simp only [rateB]; congr 1; simp; omega), rfl⟩
  · go_ret
    exact ⟨ret_b (by simp only [rateB]; simp; omega), rfl⟩
theorem mode_b (m : Int) (b : Bool) (h : modeB m = b) (w : World) : Calls Tryd.prog 58 #[.int .i64 m] w fun e w' => e = .returned (.bool b) ∧ w = w' := by
  subst h
  exact mode_any m w
theorem rate_b (m : Int) (b : Bool) (h : rateB m = b) (w : World) : Calls Tryd.prog 101 #[.int .i64 m] w fun e w' => e = .returned (.bool b) ∧ w = w' := by
  subst h
  exact rate_any m w

end Go.Proofs.YtobdbjmpoefebaaDoor
