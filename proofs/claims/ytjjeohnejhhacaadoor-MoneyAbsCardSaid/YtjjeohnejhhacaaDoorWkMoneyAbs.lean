/- MoneyAbs answers true of any number. -/
import Derived.Test.YtjjeohnejhhacaaDoorCounts
namespace Go.Proofs.YtjjeohnejhhacaaDoor
open Go.RowKit
theorem wMoneyAbs (a : Int) (w : World) (htab : Tab w) (h : -9223372036854775808 ≤ a) (h' : a ≤ 9223372036854775807) :
    Calls Tryd.prog 9 #[.int .i64 a] w fun e w' => e = .returned (.bool true) ∧ Below w.heap.size w w' := by
  have ab := fun w => abs_any a w h h'
  have ct := counts_any w htab
  clear htab
  by_cases hn : a < 0
  · have hw : ((a.natAbs : Int) == IntKind.u64.wrap (-IntKind.u64.wrap a)) = true := by
      rw [beq_iff_eq, IntKind.wrap_u64, IntKind.wrap_u64]
      omega
    go_enter Tryd.func9, Tryd.ntmps9
    go_wp2_with (fail)
    refine ct.mono ?_
    rintro e w1 ⟨rfl, b1⟩
    go_wp2_with (fail)
    refine (ab _).mono ?_
    rintro e w' ⟨rfl, rfl⟩
    go_wp2
    go_ret
    exact ⟨ret_b (by simp; omega), b1⟩
  · go_enter Tryd.func9, Tryd.ntmps9
    go_wp2_with (fail)
    refine ct.mono ?_
    rintro e w1 ⟨rfl, b1⟩
    go_wp2_with (fail)
    refine (ab _).mono ?_
    rintro e w' ⟨rfl, rfl⟩
    go_wp2
    go_ret
    exact ⟨ret_b (by simp; omega), b1⟩
end Go.Proofs.YtjjeohnejhhacaaDoor
