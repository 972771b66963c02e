/- What the law's first payslip is, and that it is kept. -/
import Derived.Test.YtfnjhalpedccaaaYrR
import Derived.Test.YtfnjhalpedccaaaYrS
import Derived.Test.YtfnjhalpedccaaaYrN
import Derived.Test.YtfnjhalpedccaaaYrO
namespace Go.Proofs.Ytfnjhalpedccaaa
open Go.RowKit Go.Sort
set_option linter.unusedVariables false
set_option linter.unusedSimpArgs false

/-- a payslip of a thousand -/
def fstS (b : Nat) : Slp := ⟨1, 1000, 1000, 900, 100, 7, some ⟨b, 0, none⟩, 1, 1, 850, some ⟨b + 1, 0, none⟩, 1, 1, 800, fun _ => 50, fun _ => 60, fun _ => ⟨1, 0, 50, 50, 50, 0⟩⟩
theorem fst_ok (b : Nat) : (fstS b).OK 1 := Slp.ok_of (by kernel_rfl)
set_option maxRecDepth 100000 in
set_option maxHeartbeats 2000000 in
theorem first_any (w : World) :
    Calls Try.prog 37 #[] w fun e w' => ∃ b, e = .returned (.agg #[.int .i64 1, .int .i64 1000, .int .i64 1000, .int .i64 900, .int .i64 100, .int .i64 7, .slice (some ⟨b, 0, none⟩) 1 1, .int .i64 850, .slice (some ⟨b + 1, 0, none⟩) 1 1, .int .i64 800]) ∧ w.heap.size ≤ b ∧ SlM w' (fstS b) ∧ Below w.heap.size w w' := by
  have K0 := ((bx_new w [.int .i64 0, .int .i64 0, .int .i64 0, .int .i64 0, .int .i64 0, .int .i64 0, .slice none 0 0, .int .i64 0, .slice none 0 0, .int .i64 0] 37).alloc (.cells #[.int .i64 50, .int .i64 60] 53)).alloc (.cells #[.int .i64 1, .int .i64 0, .int .i64 50, .int .i64 50, .int .i64 50, .int .i64 0] 58)
  have K1 := (bx_at (w.alloc (.cells #[.int .i64 0, .int .i64 0, .int .i64 0, .int .i64 0, .int .i64 0, .int .i64 0, .slice none 0 0, .int .i64 0, .slice none 0 0, .int .i64 0] 37)) [.int .i64 50, .int .i64 60] 53 (n := w.heap.size + 1) (by simp)).alloc (.cells #[.int .i64 1, .int .i64 0, .int .i64 50, .int .i64 50, .int .i64 50, .int .i64 0] 58)
  have K2 := bx_at ((w.alloc (.cells #[.int .i64 0, .int .i64 0, .int .i64 0, .int .i64 0, .int .i64 0, .int .i64 0, .slice none 0 0, .int .i64 0, .slice none 0 0, .int .i64 0] 37)).alloc (.cells #[.int .i64 50, .int .i64 60] 53)) [.int .i64 1, .int .i64 0, .int .i64 50, .int .i64 50, .int .i64 50, .int .i64 0] 58 (n := w.heap.size + 1 + 1) (by simp)
  have B := ((below_new w (.cells #[.int .i64 0, .int .i64 0, .int .i64 0, .int .i64 0, .int .i64 0, .int .i64 0, .slice none 0 0, .int .i64 0, .slice none 0 0, .int .i64 0] 37)).alloc (by simp) (.cells #[.int .i64 50, .int .i64 60] 53)).alloc (by simp; omega) (.cells #[.int .i64 1, .int .i64 0, .int .i64 50, .int .i64 50, .int .i64 50, .int .i64 0] 58)
  have k_0 := K0.cell (i := 0) rfl
  have g_0 := K0.fr 0
  have k_1 := K0.cell (i := 1) rfl
  have g_1 := K0.fr 1
  have k_2 := K0.cell (i := 2) rfl
  have g_2 := K0.fr 2
  have k_3 := K0.cell (i := 3) rfl
  have g_3 := K0.fr 3
  have k_4 := K0.cell (i := 4) rfl
  have g_4 := K0.fr 4
  have k_5 := K0.cell (i := 5) rfl
  have g_5 := K0.fr 5
  have k_6 := K0.cell (i := 6) rfl
  have g_6 := K0.fr 6
  have k_7 := K0.cell (i := 7) rfl
  have g_7 := K0.fr 7
  have k_8 := K0.cell (i := 8) rfl
  have g_8 := K0.fr 8
  have k_9 := K0.cell (i := 9) rfl
  have g_9 := K0.fr 9
  have Q0 := ((bx_new w [.int .i64 1, .int .i64 1000, .int .i64 1000, .int .i64 900, .int .i64 100, .int .i64 7, .slice (some ⟨w.heap.size + 1, 0, none⟩) 1 1, .int .i64 850, .slice (some ⟨w.heap.size + 1 + 1, 0, none⟩) 1 1, .int .i64 800] 37).alloc (.cells #[.int .i64 50, .int .i64 60] 53)).alloc (.cells #[.int .i64 1, .int .i64 0, .int .i64 50, .int .i64 50, .int .i64 50, .int .i64 0] 58)
  have Z1 := (bx_at (w.alloc (.cells #[.int .i64 1, .int .i64 1000, .int .i64 1000, .int .i64 900, .int .i64 100, .int .i64 7, .slice (some ⟨w.heap.size + 1, 0, none⟩) 1 1, .int .i64 850, .slice (some ⟨w.heap.size + 1 + 1, 0, none⟩) 1 1, .int .i64 800] 37)) [.int .i64 50, .int .i64 60] 53 (n := w.heap.size + 1) (by simp)).alloc (.cells #[.int .i64 1, .int .i64 0, .int .i64 50, .int .i64 50, .int .i64 50, .int .i64 0] 58)
  have Z2 := bx_at ((w.alloc (.cells #[.int .i64 1, .int .i64 1000, .int .i64 1000, .int .i64 900, .int .i64 100, .int .i64 7, .slice (some ⟨w.heap.size + 1, 0, none⟩) 1 1, .int .i64 850, .slice (some ⟨w.heap.size + 1 + 1, 0, none⟩) 1 1, .int .i64 800] 37)).alloc (.cells #[.int .i64 50, .int .i64 60] 53)) [.int .i64 1, .int .i64 0, .int .i64 50, .int .i64 50, .int .i64 50, .int .i64 0] 58 (n := w.heap.size + 1 + 1) (by simp)
  have BZ := ((below_new w (.cells #[.int .i64 1, .int .i64 1000, .int .i64 1000, .int .i64 900, .int .i64 100, .int .i64 7, .slice (some ⟨w.heap.size + 1, 0, none⟩) 1 1, .int .i64 850, .slice (some ⟨w.heap.size + 1 + 1, 0, none⟩) 1 1, .int .i64 800] 37)).alloc (by simp) (.cells #[.int .i64 50, .int .i64 60] 53)).alloc (by simp; omega) (.cells #[.int .i64 1, .int .i64 0, .int .i64 50, .int .i64 50, .int .i64 50, .int .i64 0] 58)
  have z_0 := Q0.cell (i := 0) rfl
  have z_1 := Q0.cell (i := 1) rfl
  have z_2 := Q0.cell (i := 2) rfl
  have z_3 := Q0.cell (i := 3) rfl
  have z_4 := Q0.cell (i := 4) rfl
  have z_5 := Q0.cell (i := 5) rfl
  have z_6 := Q0.cell (i := 6) rfl
  have z_7 := Q0.cell (i := 7) rfl
  have z_8 := Q0.cell (i := 8) rfl
  have z_9 := Q0.cell (i := 9) rfl
  clear Q0 K0 K1 K2 B
  go_enter Try.func37, Try.ntmps37
  go_wp2
  exact bodyPost_ret (v := .agg #[.int .i64 1, .int .i64 1000, .int .i64 1000, .int .i64 900, .int .i64 100, .int .i64 7, .slice (some ⟨w.heap.size + 1, 0, none⟩) 1 1, .int .i64 850, .slice (some ⟨w.heap.size + 1 + 1, 0, none⟩) 1 1, .int .i64 800]) (by simp [results, Try.results37, go_sem, z_0, z_1, z_2, z_3, z_4, z_5, z_6, z_7, z_8, z_9]) rfl ⟨w.heap.size + 1, rfl, by omega, ⟨fun _ => ⟨_, 0, rfl, fun i hi => by
    obtain rfl : i = 0 := by have : i < 1 := hi; omega
    exact ⟨Z1.cell (i := 0) rfl, Z1.cell (i := 1) rfl⟩⟩, fun _ => ⟨_, 0, rfl, fun i hi => by
    obtain rfl : i = 0 := by have : i < 1 := hi; omega
    exact ⟨Z2.cell (i := 0) rfl, Z2.cell (i := 1) rfl, Z2.cell (i := 2) rfl, Z2.cell (i := 3) rfl, Z2.cell (i := 4) rfl, Z2.cell (i := 5) rfl⟩⟩, fun e => (nomatch e), fun e => (nomatch e)⟩, BZ⟩
end Go.Proofs.Ytfnjhalpedccaaa
