/- What year.with answers: totals with a payslip more. -/
import Derived.Test.YtfnjhalpedccaaaYrD
import Derived.Deep.RegionHeld3
namespace Go.Proofs.Ytfnjhalpedccaaa
open Go.RowKit Go.Sort
set_option linter.unusedVariables false
set_option linter.unusedSimpArgs false

theorem ixw_0 (a0 x0 a1 x1 a2 x2 a3 x3 : Int) (p0 p1 p2 p3 : Option Addr) (W : World) : (Instr.index 116 (.agg #[.int .i64 a0, .int .i64 x0, .pointer p0, .int .i64 a1, .int .i64 x1, .pointer p1, .int .i64 a2, .int .i64 x2, .pointer p2, .int .i64 a3, .int .i64 x3, .pointer p3]) (.int .i64 0)).run Try.prog W = .ok (.agg #[.int .i64 a0, .int .i64 x0, .pointer p0]) W := by kernel_rfl
theorem ixw_1 (a0 x0 a1 x1 a2 x2 a3 x3 : Int) (p0 p1 p2 p3 : Option Addr) (W : World) : (Instr.index 116 (.agg #[.int .i64 a0, .int .i64 x0, .pointer p0, .int .i64 a1, .int .i64 x1, .pointer p1, .int .i64 a2, .int .i64 x2, .pointer p2, .int .i64 a3, .int .i64 x3, .pointer p3]) (.int .i64 1)).run Try.prog W = .ok (.agg #[.int .i64 a1, .int .i64 x1, .pointer p1]) W := by kernel_rfl
theorem ixw_2 (a0 x0 a1 x1 a2 x2 a3 x3 : Int) (p0 p1 p2 p3 : Option Addr) (W : World) : (Instr.index 116 (.agg #[.int .i64 a0, .int .i64 x0, .pointer p0, .int .i64 a1, .int .i64 x1, .pointer p1, .int .i64 a2, .int .i64 x2, .pointer p2, .int .i64 a3, .int .i64 x3, .pointer p3]) (.int .i64 2)).run Try.prog W = .ok (.agg #[.int .i64 a2, .int .i64 x2, .pointer p2]) W := by kernel_rfl
theorem ixw_3 (a0 x0 a1 x1 a2 x2 a3 x3 : Int) (p0 p1 p2 p3 : Option Addr) (W : World) : (Instr.index 116 (.agg #[.int .i64 a0, .int .i64 x0, .pointer p0, .int .i64 a1, .int .i64 x1, .pointer p1, .int .i64 a2, .int .i64 x2, .pointer p2, .int .i64 a3, .int .i64 x3, .pointer p3]) (.int .i64 3)).run Try.prog W = .ok (.agg #[.int .i64 a3, .int .i64 x3, .pointer p3]) W := by kernel_rfl
end Go.Proofs.Ytfnjhalpedccaaa
