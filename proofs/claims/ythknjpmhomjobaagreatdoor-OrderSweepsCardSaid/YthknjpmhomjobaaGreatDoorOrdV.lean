/- What order.Over answers. -/
import Derived.Test.YthknjpmhomjobaaGreatDoorOrdA
namespace Go.Proofs.YthknjpmhomjobaaGreatDoor
open Go.RowKit Go.Sort
set_option linter.unusedVariables false
set_option linter.unusedSimpArgs false

theorem over_any (i p a r t k q : Int) (w : World) :
    Calls Tryz.prog 24 #[.agg #[.int .i64 i, .int .i64 p, .int .i64 a, .int .i64 r, .int .i64 t, .int .i64 k, .int .i64 q]] w fun e w' => e = .returned (.bool (!(t == 0) && decide (t ≤ k))) ∧ Below w.heap.size w w' := by
  have K := bx_new w [.int .i64 i, .int .i64 p, .int .i64 a, .int .i64 r, .int .i64 t, .int .i64 k, .int .i64 q] 50
  have B1 := below_new w (.cells #[.int .i64 i, .int .i64 p, .int .i64 a, .int .i64 r, .int .i64 t, .int .i64 k, .int .i64 q] 50)
  have k4 := K.cell (i := 4) rfl
  have k5 := K.cell (i := 5) rfl
  clear K
  cases h0 : (t == 0)
  · have h0' : (t != 0) = true := by simp [bne, h0]
    by_cases h1 : t ≤ k
    · go_enter Tryz.func24, Tryz.ntmps24
      go_wp2
      go_ret
      exact ⟨ret_b (by simp [h1]), B1⟩
    · have h2 : k < t := by omega
      go_enter Tryz.func24, Tryz.ntmps24
      go_wp2
      go_ret
      exact ⟨ret_b (by simp [h1]), B1⟩
  · have h0' : (t != 0) = false := by simp [bne, h0]
    go_enter Tryz.func24, Tryz.ntmps24
    go_wp2
    go_ret
    exact ⟨ret_b (by simp), B1⟩
end Go.Proofs.YthknjpmhomjobaaGreatDoor
