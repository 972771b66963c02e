/- An amount so many times: what money.Times answers; MoneyTimes answers true. -/
import Derived.Test.YtjjeohnejhhacaaDoorTimesR
namespace Go.Proofs.YtjjeohnejhhacaaDoor
open Go.RowKit
set_option linter.unusedVariables false
set_option linter.unusedSimpArgs false

set_option maxHeartbeats 1000000 in
theorem ti_bad (x n : Int) (w : World) (h : amtB x = false) :
    Calls Tryd.prog 20 #[.int .i64 x, .int .i64 n] w fun e w' => e = .returned (.tuple #[.int .i64 0, .int .i64 10]) ∧ Below w.heap.size w w' := by
  have ri := fun w => right1 x w 2 false h
  clear h
  go_enter Tryd.func20, Tryd.ntmps20
  go_wp2_with (fail)
  refine (ri _).mono ?_
  rintro e w' ⟨rfl, rfl⟩
  go_wp2
  go_ret2
  exact ⟨rfl, (Below.refl _ _).alloc (Nat.le_refl _) _⟩

set_option maxHeartbeats 1000000 in
theorem ti_zero (n : Int) (w : World) (hn : -9223372036854775808 ≤ n) (hn' : n ≤ 9223372036854775807) :
    Calls Tryd.prog 20 #[.int .i64 0, .int .i64 n] w fun e w' => e = .returned (.tuple #[.int .i64 0, .int .i64 0]) ∧ Below w.heap.size w w' := by
  have ri := fun w => right1 0 w 2 true rfl
  go_enter Tryd.func20, Tryd.ntmps20
  go_wp2_with (fail)
  refine (ri _).mono ?_
  rintro e w' ⟨rfl, rfl⟩
  go_wp2
  go_ret2
  exact ⟨ret_ii (by simp) rfl, (Below.refl _ _).alloc (Nat.le_refl _) _⟩

set_option maxHeartbeats 1000000 in
theorem ti_over (x n : Int) (w : World) (hn : -9223372036854775808 ≤ n) (hn' : n ≤ 9223372036854775807) (h : amtB x = true) (hz : x ≠ 0) (hq : 100000000000 / (x.natAbs : Int) < (n.natAbs : Int)) :
    Calls Tryd.prog 20 #[.int .i64 x, .int .i64 n] w fun e w' => e = .returned (.tuple #[.int .i64 0, .int .i64 10]) ∧ Below w.heap.size w w' := by
  have ri := fun w => right1 x w 2 true h
  have ax := fun w => abs_any x w (by have := amtB_yes h; omega) (by have := amtB_yes h; omega)
  have an := fun w => abs_any n w hn hn'
  obtain ⟨x1, x2⟩ := amtB_yes h
  have z : (x == 0) = false := by rw [beq_eq_false_iff_ne]; exact hz
  have z2 : (x != 0) = true := by simp [hz]
  have k1 : (1 : Int) ≤ (x.natAbs : Int) := by omega
  have k2 : (0 : Int) ≤ (n.natAbs : Int) := by omega
  clear h
  generalize (x.natAbs : Int) = X at *
  generalize (n.natAbs : Int) = N at *
  go_enter Tryd.func20, Tryd.ntmps20
  go_wp2_with (fail)
  refine (ri _).mono ?_
  rintro e w' ⟨rfl, rfl⟩
  go_wp2_with (fail)
  refine (an _).mono ?_
  rintro e w' ⟨rfl, rfl⟩
  go_wp2_with (fail)
  refine (ax _).mono ?_
  rintro e w' ⟨rfl, rfl⟩
  go_wp2
  go_ret2
  exact ⟨rfl, (Below.refl _ _).alloc (Nat.le_refl _) _⟩

set_option maxHeartbeats 1000000 in
theorem ti_fit (x n : Int) (w : World) (hn : -9223372036854775808 ≤ n) (hn' : n ≤ 9223372036854775807) (h : amtB x = true) (hz : x ≠ 0) (hq : ¬ 100000000000 / (x.natAbs : Int) < (n.natAbs : Int)) (P : Int) (hP : x * n = P) :
    Calls Tryd.prog 20 #[.int .i64 x, .int .i64 n] w fun e w' => e = .returned (.tuple #[.int .i64 P, .int .i64 0]) ∧ Below w.heap.size w w' := by
  have ri := fun w => right1 x w 2 true h
  have ax := fun w => abs_any x w (by have := amtB_yes h; omega) (by have := amtB_yes h; omega)
  have an := fun w => abs_any n w hn hn'
  obtain ⟨x1, x2⟩ := amtB_yes h
  have z : (x == 0) = false := by rw [beq_eq_false_iff_ne]; exact hz
  have z2 : (x != 0) = true := by simp [hz]
  have k1 : (1 : Int) ≤ (x.natAbs : Int) := by omega
  have k2 : (0 : Int) ≤ (n.natAbs : Int) := by omega
  have hb : -100000000000 ≤ P ∧ P ≤ 100000000000 := by
    rw [over_iff (by omega)] at hq
    have e : (x.natAbs : Int) * (n.natAbs : Int) = (P.natAbs : Int) := by rw [← hP, Int.natAbs_mul, Int.natCast_mul]
    omega
  have hw : IntKind.i64.wrap (x * n) = P := by
    rw [hP, IntKind.wrap_i64]
    omega
  clear h hP
  generalize (x.natAbs : Int) = X at *
  generalize (n.natAbs : Int) = N at *
  go_enter Tryd.func20, Tryd.ntmps20
  go_wp2_with (fail)
  refine (ri _).mono ?_
  rintro e w' ⟨rfl, rfl⟩
  go_wp2_with (fail)
  refine (an _).mono ?_
  rintro e w' ⟨rfl, rfl⟩
  go_wp2_with (fail)
  refine (ax _).mono ?_
  rintro e w' ⟨rfl, rfl⟩
  go_wp2
  go_ret2
  exact ⟨rfl, (Below.refl _ _).alloc (Nat.le_refl _) _⟩

theorem tI_bad {x n : Int} (h : amtB x = false) : tI x n = (0, 10) := by simp [tI, h]
theorem tI_out {x n : Int} (h : x * n < -100000000000 ∨ 100000000000 < x * n) : tI x n = (0, 10) := by simp [tI, amtB_out h]
theorem tI_in {x n : Int} (h : amtB x = true) (h1 : -100000000000 ≤ x * n) (h2 : x * n ≤ 100000000000) : tI x n = (x * n, 0) := by simp [tI, h, amtB_of h1 h2]
theorem times_any (x n : Int) (w : World) (hn : -9223372036854775808 ≤ n) (hn' : n ≤ 9223372036854775807) :
    Calls Tryd.prog 20 #[.int .i64 x, .int .i64 n] w fun e w' => e = .returned (.tuple #[.int .i64 (tI x n).1, .int .i64 (tI x n).2]) ∧ Below w.heap.size w w' := by
  cases h : amtB x
  · rw [tI_bad h]
    exact ti_bad x n w h
  · by_cases hz : x = 0
    · subst hz
      rw [tI_in h (by simp) (by simp), Int.zero_mul]
      exact ti_zero n w hn hn'
    · have e : (x.natAbs : Int) * (n.natAbs : Int) = ((x * n).natAbs : Int) := by rw [Int.natAbs_mul, Int.natCast_mul]
      by_cases hq : 100000000000 / (x.natAbs : Int) < (n.natAbs : Int)
      · have h9 := hq
        rw [over_iff (by omega), e] at h9
        rw [tI_out (by omega)]
        exact ti_over x n w hn hn' h hz hq
      · have h9 := hq
        rw [over_iff (by omega), e] at h9
        rw [tI_in h (by omega) (by omega)]
        exact ti_fit x n w hn hn' h hz hq _ rfl
theorem mul_big {x n : Int} (hx : x ≠ 0) (hn : 100000000000 < n ∨ n < -100000000000) : x * n < -100000000000 ∨ 100000000000 < x * n := by
  have e : (x.natAbs : Int) * (n.natAbs : Int) = ((x * n).natAbs : Int) := by rw [Int.natAbs_mul, Int.natCast_mul]
  have a := Int.mul_le_mul_of_nonneg_right (show (1 : Int) ≤ x.natAbs by omega) (show (0 : Int) ≤ n.natAbs by omega)
  omega
theorem reftimes_any (x n : Int) (w : World) :
    Calls Tryd.prog 21 #[.int .i64 x, .int .i64 n] w fun e w' => e = .returned (.tuple #[.int .i64 (tI x n).1, .int .i64 (tI x n).2]) ∧ w = w' := by
  cases h : amtB x
  · rw [tI_bad h]
    exact rt_bad x n w h
  · obtain ⟨x1, x2⟩ := amtB_yes h
    by_cases hz : x = 0
    · rw [tI_in h (by simp [hz]) (by simp [hz])]
      have := rt_zero x n w h hz
      rw [hz, Int.zero_mul]
      rw [hz] at this
      exact this
    · by_cases h0 : n = 0
      · rw [tI_in h (by simp [h0]) (by simp [h0])]
        have := rt_none x n w h hz h0
        rw [h0, Int.mul_zero]
        rw [h0] at this
        exact this
      · by_cases hm : 100000000000 < n
        · rw [tI_out (mul_big hz (.inl hm))]
          exact rt_more x n w h hz hm
        · by_cases hl : n < -100000000000
          · rw [tI_out (mul_big hz (.inr hl))]
            exact rt_less x n w h hz hl
          · by_cases hx : 0 < x
            · by_cases hn : 0 < n
              · by_cases hq : 100000000000 / x < n
                · have h9 := hq
                  rw [over_iff (by omega)] at h9
                  rw [tI_out (.inr h9)]
                  exact rt_over_pp x n w h (by omega) (by omega) (by omega) hq
                · have h9 := hq
                  have h8 := Int.mul_nonneg (show 0 ≤ x by omega) (show 0 ≤ n by omega)
                  rw [over_iff (by omega)] at h9
                  rw [tI_in h (by omega) (by omega)]
                  exact rt_fit_pp x n w h (by omega) (by omega) (by omega) hq _ rfl
              · obtain ⟨N, rfl⟩ : ∃ N, n = -N := ⟨-n, by omega⟩
                have e : x * -N = -(x * N) := Int.mul_neg _ _
                by_cases hq : 100000000000 / x < N
                · have h9 := hq
                  rw [over_iff (by omega)] at h9
                  rw [tI_out (by omega)]
                  exact rt_over_pm x N w h (by omega) (by omega) (by omega) hq
                · have h9 := hq
                  have h8 := Int.mul_nonneg (show 0 ≤ x by omega) (show 0 ≤ N by omega)
                  rw [over_iff (by omega)] at h9
                  rw [tI_in h (by omega) (by omega), e]
                  exact rt_fit_pm x N w h (by omega) (by omega) (by omega) hq _ rfl
            · obtain ⟨X, rfl⟩ : ∃ X, x = -X := ⟨-x, by omega⟩
              by_cases hn : 0 < n
              · have e : -X * n = -(X * n) := Int.neg_mul _ _
                by_cases hq : 100000000000 / X < n
                · have h9 := hq
                  rw [over_iff (by omega)] at h9
                  rw [tI_out (by omega)]
                  exact rt_over_mp X n w h (by omega) (by omega) (by omega) hq
                · have h9 := hq
                  have h8 := Int.mul_nonneg (show 0 ≤ X by omega) (show 0 ≤ n by omega)
                  rw [over_iff (by omega)] at h9
                  rw [tI_in h (by omega) (by omega), e]
                  exact rt_fit_mp X n w h (by omega) (by omega) (by omega) hq _ rfl
              · obtain ⟨N, rfl⟩ : ∃ N, n = -N := ⟨-n, by omega⟩
                have e : -X * -N = X * N := Int.neg_mul_neg _ _
                by_cases hq : 100000000000 / X < N
                · have h9 := hq
                  rw [over_iff (by omega)] at h9
                  rw [tI_out (by omega)]
                  exact rt_over_mm X N w h (by omega) (by omega) (by omega) hq
                · have h9 := hq
                  have h8 := Int.mul_nonneg (show 0 ≤ X by omega) (show 0 ≤ N by omega)
                  rw [over_iff (by omega)] at h9
                  rw [tI_in h (by omega) (by omega), e]
                  exact rt_fit_mm X N w h (by omega) (by omega) (by omega) hq _ rfl
theorem wMoneyTimes (x n : Int) (w : World) (htab : Tab w) (_ : -9223372036854775808 ≤ x) (_ : x ≤ 9223372036854775807) (hn : -9223372036854775808 ≤ n) (hn' : n ≤ 9223372036854775807) :
    Calls Tryd.prog 5 #[.int .i64 x, .int .i64 n] w fun e w' => e = .returned (.bool true) ∧ Below w.heap.size w w' := by
  have ct := counts_any w htab
  have ti := fun w => times_any x n w hn hn'
  have rt := fun w => reftimes_any x n w
  clear htab hn hn'
  generalize (tI x n).1 = p at *
  generalize (tI x n).2 = q at *
  go_enter Tryd.func5, Tryd.ntmps5
  go_wp2_with (fail)
  refine ct.mono ?_
  rintro e w1 ⟨rfl, b1⟩
  go_wp2_with (fail)
  refine (ti _).mono ?_
  rintro e w2 ⟨rfl, b2⟩
  go_wp2_with (fail)
  refine (rt _).mono ?_
  rintro e w' ⟨rfl, rfl⟩
  go_wp2
  go_ret
  exact ⟨rfl, below_step b1 b2 b1.size⟩
end Go.Proofs.YtjjeohnejhhacaaDoor
