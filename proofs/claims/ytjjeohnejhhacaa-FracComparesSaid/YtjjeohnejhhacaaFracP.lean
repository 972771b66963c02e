/- The closed examples of the statements of layer 2 are met. -/
import Derived.Test.YtjjeohnejhhacaaFracD
namespace Go.Proofs.Ytjjeohnejhhacaa
open Go.RowKit

theorem below_step {B : Nat} {a b c : World} (h : Below B a b) (h2 : Below b.heap.size b c) (hB : B ≤ b.heap.size) : Below B a c := h.trans (h2.mono hB)

theorem pt1 : rnd (250 * 2000) 10000 1 = 50 := by decide
theorem pt2 : rnd (-5) 2 4 = -3 := by decide
theorem pt3 : rnd (-5) 2 5 = -2 := by decide
theorem pt4 : (1000 * 1 / 3 : Int) = 333 := by decide
theorem pt5 : cmpF 1 3 2 6 = 0 := by decide
theorem pt6 : both (-6) 4 = 2 := by decide
theorem pt7 : (-6 / 2 : Int) = -3 := by decide
theorem pt8 : (4 / 2 : Int) = 2 := by decide

set_option maxHeartbeats 1000000 in
theorem parts_any (w : World) : Calls Try.prog 9 #[] w fun e w' => e = .returned (.bool true) ∧ Below w.heap.size w w' := by
  have c1 : ∀ W, Calls Try.prog 13 #[.int .i64 250, .int .i64 2000, .int .i64 1] W fun e w' => e = .returned (.tuple #[.int .i64 50, .int .i64 0]) ∧ Below W.heap.size W w' := fun W => by
    have h := take_ok 250 2000 1 W (by decide) (by decide) (by decide)
    rw [pt1] at h
    exact h
  have c2 : ∀ W, Calls Try.prog 10 #[.int .i64 (-5), .int .i64 2, .int .i64 4] W fun e w' => e = .returned (.tuple #[.int .i64 (-3), .int .i64 0]) ∧ ∃ k, w' = W.drewN k := fun W => by
    have h := round_ok (-5) 2 4 W (by omega) (by omega) (by omega) (by omega) (by decide)
    rw [pt2] at h
    exact h
  have c3 : ∀ W, Calls Try.prog 10 #[.int .i64 (-5), .int .i64 2, .int .i64 5] W fun e w' => e = .returned (.tuple #[.int .i64 (-2), .int .i64 0]) ∧ ∃ k, w' = W.drewN k := fun W => by
    have h := round_ok (-5) 2 5 W (by omega) (by omega) (by omega) (by omega) (by decide)
    rw [pt3] at h
    exact h
  have c4 : ∀ W, Calls Try.prog 18 #[.int .i64 1000, .int .i64 1, .int .i64 3] W fun e w' => e = .returned (.tuple #[.int .i64 333, .int .i64 0]) ∧ Below W.heap.size W w' := fun W => by
    have h := scale_ok 1000 1 3 W (by decide) (by omega) (by omega) (by omega) (by omega) true (by decide)
    rw [pt4, if_pos rfl, if_pos rfl] at h
    exact h
  have c5 : ∀ W, Calls Try.prog 19 #[.int .i64 1, .int .i64 3, .int .i64 2, .int .i64 6] W fun e w' => e = .returned (.tuple #[.int .i64 0, .int .i64 0]) ∧ W = w' := fun W => by
    have h := compare_ok 1 3 2 6 W (by omega) (by omega) (by omega) (by omega) (by omega) (by omega) (by omega) (by omega)
    rw [pt5] at h
    exact h
  have c6 : ∀ W, Calls Try.prog 20 #[.int .i64 (-6), .int .i64 4] W fun e w' => e = .returned (.tuple #[.int .i64 (-3), .int .i64 2, .int .i64 0]) ∧ ∃ k, w' = W.drewN k := fun W => by
    have h := lowest_ok (-6) 4 W (by omega) (by omega) (by omega) (by omega)
    rw [pt6, pt7, pt8] at h
    exact h
  have c7 := mode_b 6 true (by decide)
  have c8 := mode_b 7 false (by decide)
  have c9 := rate_b 10000 true (by decide)
  have c10 := rate_b (-1) false (by decide)
  go_enter Try.func9, Try.ntmps9
  go_wp2_with (fail)
  refine (c1 _).mono ?_
  rintro e w1 ⟨rfl, hb1⟩
  go_wp2_with (fail)
  refine (c2 _).mono ?_
  rintro e w' ⟨rfl, k2, rfl⟩
  go_wp2_with (fail)
  refine (c3 _).mono ?_
  rintro e w' ⟨rfl, k3, rfl⟩
  go_wp2_with (fail)
  refine (c4 _).mono ?_
  rintro e w4 ⟨rfl, hb4⟩
  go_wp2_with (fail)
  refine (c5 _).mono ?_
  rintro e w' ⟨rfl, rfl⟩
  go_wp2_with (fail)
  refine (c6 _).mono ?_
  rintro e w' ⟨rfl, k6, rfl⟩
  go_wp2_with (fail)
  refine (c7 _).mono ?_
  rintro e w' ⟨rfl, rfl⟩
  go_wp2_with (fail)
  refine (c8 _).mono ?_
  rintro e w' ⟨rfl, rfl⟩
  go_wp2_with (fail)
  refine (c9 _).mono ?_
  rintro e w' ⟨rfl, rfl⟩
  go_wp2_with (fail)
  refine (c10 _).mono ?_
  rintro e w' ⟨rfl, rfl⟩
  go_wp2
  go_ret
  exact ⟨rfl, below_drewN (below_step (below_drewN hb1 _) hb4 hb1.size) _⟩
end Go.Proofs.Ytjjeohnejhhacaa
