/- An amount so many times: what money.Times and the reference's doubling answer; MoneyTimes answers true. -/
import Derived.Test.YtjjeohnejhhacaaDoorCounts
namespace Go.Proofs.YtjjeohnejhhacaaDoor
open Go.RowKit
set_option linter.unusedVariables false
set_option linter.unusedSimpArgs false

/-- an amount so many times, if all of it may be -/
def tI (x n : Int) : Int × Int := if (amtB x && amtB (x * n)) = true then (x * n, 0) else (0, 10)
theorem over_iff {X N : Int} (hX : 0 < X) : 100000000000 / X < N ↔ 100000000000 < X * N := by
  rw [Int.ediv_lt_iff_lt_mul hX, Int.mul_comm]
theorem amtB_of {x : Int} (h : -100000000000 ≤ x) (h' : x ≤ 100000000000) : amtB x = true := by
  cases e : amtB x
  · rcases amtB_no e with h1 | h1 <;> omega
  · rfl
theorem amtB_out {x : Int} (h : x < -100000000000 ∨ 100000000000 < x) : amtB x = false := by
  cases e : amtB x
  · rfl
  · have := amtB_yes e
    omega
theorem half_step {X N S P : Int} (h : X * N + S = P) (hN : 1 ≤ N) : (X + X) * (N / 2) + (if N % 2 = 1 then S + X else S) = P := by
  have e : N = 2 * (N / 2) + N % 2 := by omega
  have e2 : X * N = (X + X) * (N / 2) + X * (N % 2) := by
    conv => lhs; rw [e]
    rw [Int.mul_add, ← Int.mul_assoc, Int.mul_comm X 2]
    congr 2
    omega
  split
  · rename_i h1
    rw [h1] at e2
    omega
  · have h0 : N % 2 = 0 := by omega
    rw [h0] at e2
    omega
theorem one_le {X N : Int} (hX : 0 ≤ X) (hN : 1 ≤ N) : X ≤ X * N := by
  have := Int.mul_le_mul_of_nonneg_left hN hX
  omega

set_option maxHeartbeats 1000000 in
theorem rt_bad (x n : Int) (w : World) (h : amtB x = false) :
    Calls Tryd.prog 21 #[.int .i64 x, .int .i64 n] w fun e w' => e = .returned (.tuple #[.int .i64 0, .int .i64 10]) ∧ w = w' := by
  have ra := fun w => refright_b x false h w
  clear h
  go_enter Tryd.func21, Tryd.ntmps21
  go_wp2_with (fail)
  refine (ra _).mono ?_
  rintro e w' ⟨rfl, rfl⟩
  go_wp2
  go_ret2
  exact ⟨rfl, rfl⟩

set_option maxHeartbeats 1000000 in
theorem rt_zero (x n : Int) (w : World) (h : amtB x = true) (hz : x = 0) :
    Calls Tryd.prog 21 #[.int .i64 x, .int .i64 n] w fun e w' => e = .returned (.tuple #[.int .i64 0, .int .i64 0]) ∧ w = w' := by
  have ra := fun w => refright_b x true h w
  have z : (x == 0) = true := by simp [hz]
  clear h hz
  go_enter Tryd.func21, Tryd.ntmps21
  go_wp2_with (fail)
  refine (ra _).mono ?_
  rintro e w' ⟨rfl, rfl⟩
  go_wp2
  go_ret2
  exact ⟨rfl, rfl⟩

set_option maxHeartbeats 1000000 in
theorem rt_none (x n : Int) (w : World) (h : amtB x = true) (hz : x ≠ 0) (hn : n = 0) :
    Calls Tryd.prog 21 #[.int .i64 x, .int .i64 n] w fun e w' => e = .returned (.tuple #[.int .i64 0, .int .i64 0]) ∧ w = w' := by
  have ra := fun w => refright_b x true h w
  have z : (x == 0) = false := by simp [hz]
  have z2 : (n == 0) = true := by simp [hn]
  clear h hz hn
  go_enter Tryd.func21, Tryd.ntmps21
  go_wp2_with (fail)
  refine (ra _).mono ?_
  rintro e w' ⟨rfl, rfl⟩
  go_wp2
  go_ret2
  exact ⟨rfl, rfl⟩

set_option maxHeartbeats 1000000 in
theorem rt_more (x n : Int) (w : World) (h : amtB x = true) (hz : x ≠ 0) (hn : 100000000000 < n) :
    Calls Tryd.prog 21 #[.int .i64 x, .int .i64 n] w fun e w' => e = .returned (.tuple #[.int .i64 0, .int .i64 10]) ∧ w = w' := by
  have ra := fun w => refright_b x true h w
  have z : (x == 0) = false := by simp [hz]
  have z2 : (n == 0) = false := by simp; omega
  clear h hz
  go_enter Tryd.func21, Tryd.ntmps21
  go_wp2_with (fail)
  refine (ra _).mono ?_
  rintro e w' ⟨rfl, rfl⟩
  go_wp2
  go_ret2
  exact ⟨rfl, rfl⟩

set_option maxHeartbeats 1000000 in
theorem rt_less (x n : Int) (w : World) (h : amtB x = true) (hz : x ≠ 0) (hn : n < -100000000000) :
    Calls Tryd.prog 21 #[.int .i64 x, .int .i64 n] w fun e w' => e = .returned (.tuple #[.int .i64 0, .int .i64 10]) ∧ w = w' := by
  have ra := fun w => refright_b x true h w
  have z : (x == 0) = false := by simp [hz]
  have z2 : (n == 0) = false := by simp; omega
  have h9 : ¬ 100000000000 < n := by omega
  clear h hz
  go_enter Tryd.func21, Tryd.ntmps21
  go_wp2_with (fail)
  refine (ra _).mono ?_
  rintro e w' ⟨rfl, rfl⟩
  go_wp2
  go_ret2
  exact ⟨rfl, rfl⟩

set_option maxHeartbeats 1000000 in
theorem rt_over_pp (X N : Int) (w : World) (h : amtB X = true) (hX : 1 ≤ X) (hN : 1 ≤ N) (hN2 : N ≤ 100000000000) (hq : 100000000000 / X < N) :
    Calls Tryd.prog 21 #[.int .i64 X, .int .i64 N] w fun e w' => e = .returned (.tuple #[.int .i64 0, .int .i64 10]) ∧ w = w' := by
  have ra := fun w => refright_b X true h w
  obtain ⟨x1, x2⟩ := amtB_yes h
  have z : (X == 0) = false := by rw [beq_eq_false_iff_ne]; omega
  have z2 : (N == 0) = false := by rw [beq_eq_false_iff_ne]; omega
  have z3 : (X == 0) = false := by rw [beq_eq_false_iff_ne]; omega
  have z4 : (N == 0) = false := by rw [beq_eq_false_iff_ne]; omega
  have y1 : ¬ X = 0 := by omega
  have y2 : ¬ N = 0 := by omega
  clear h
  go_enter Tryd.func21, Tryd.ntmps21
  go_wp2_with (fail)
  refine (ra _).mono ?_
  rintro e w' ⟨rfl, rfl⟩
  go_wp2
  go_ret2
  exact ⟨rfl, rfl⟩

set_option maxHeartbeats 1000000 in
theorem rt_fit_pp (X N : Int) (w : World) (h : amtB X = true) (hX : 1 ≤ X) (hN : 1 ≤ N) (hN2 : N ≤ 100000000000) (hq : ¬ 100000000000 / X < N) (P : Int) (hP : X * N = P) :
    Calls Tryd.prog 21 #[.int .i64 X, .int .i64 N] w fun e w' => e = .returned (.tuple #[.int .i64 P, .int .i64 0]) ∧ w = w' := by
  have ra := fun w => refright_b X true h w
  obtain ⟨x1, x2⟩ := amtB_yes h
  have z : (X == 0) = false := by rw [beq_eq_false_iff_ne]; omega
  have z2 : (N == 0) = false := by rw [beq_eq_false_iff_ne]; omega
  have z3 : (X == 0) = false := by rw [beq_eq_false_iff_ne]; omega
  have z4 : (N == 0) = false := by rw [beq_eq_false_iff_ne]; omega
  have y1 : ¬ X = 0 := by omega
  have y2 : ¬ N = 0 := by omega
  clear h
  have hPM : P ≤ 100000000000 := by
    rw [over_iff (by omega), hP] at hq
    omega
  have HP := Lib.hid hP
  clear hP
  go_enter Tryd.func21, Tryd.ntmps21
  go_wp2_with (fail)
  refine (ra _).mono ?_
  rintro e w' ⟨rfl, rfl⟩
  go_wp2
  go_loop [0, 1, 7] (fun a b s => ∃ X N S : Int, 0 ≤ X ∧ 0 ≤ N ∧ 0 ≤ S ∧ S ≤ 100000000000 ∧ N ≤ 100000000000 ∧ a = .int .i64 X ∧ b = .int .i64 N ∧ s = .int .i64 S ∧ RowKit.Hid (X * N + S = P)) (fun _ b _ => (intOf b).toNat)
  case atStart => exact ⟨X, N, 0, by omega, by omega, by omega, by omega, by omega, rfl, rfl, rfl, Lib.hid (by rw [HP.out]; omega)⟩
  case round =>
    clear ra z z2 z3 z4 y1 y2 hq hX hN hN2 x1 x2 HP
    obtain ⟨X, N, S, X0, N0, S0, S1, N1, rfl, rfl, rfl, HR⟩ := hrel
    by_cases hpos : 0 < N
    · have hXP : X + S ≤ 100000000000 := by
        have a1 := one_le X0 (show 1 ≤ N by omega)
        have a2 := HR.out
        omega
      have HS := Lib.hid (half_step HR.out (by omega))
      clear HR
      by_cases hodd : N % 2 = 1
      · have ho : (N % 2 == 1) = true := by simp [hodd]
        have HT := Lib.hid (show (X + X) * (N / 2) + (S + X) = P by have := HS.out; rw [if_pos hodd] at this; exact this)
        clear hodd HS
        go_wp2
        go_round
        case rel => exact ⟨X + X, N / 2, S + X, by omega, by omega, by omega, by omega, by omega, rfl, rfl, rfl, HT⟩
        case measure => simp [intOf]; omega
      · have ho : (N % 2 == 1) = false := by simp [hodd]
        have HT := Lib.hid (show (X + X) * (N / 2) + S = P by have := HS.out; rw [if_neg hodd] at this; exact this)
        clear hodd HS
        go_wp2
        go_round
        case rel => exact ⟨X + X, N / 2, S, by omega, by omega, by omega, by omega, by omega, rfl, rfl, rfl, HT⟩
        case measure => simp [intOf]; omega
    · obtain rfl : N = 0 := by omega
      have hS : S = P := by
        have := HR.out
        rw [Int.mul_zero] at this
        omega
      have HS := Lib.hid hS
      clear hS HR
      go_wp2
      go_ret2
      exact ⟨ret_ii (by have := HS.out; omega) rfl, rfl⟩

set_option maxHeartbeats 1000000 in
theorem rt_over_pm (X N : Int) (w : World) (h : amtB X = true) (hX : 1 ≤ X) (hN : 1 ≤ N) (hN2 : N ≤ 100000000000) (hq : 100000000000 / X < N) :
    Calls Tryd.prog 21 #[.int .i64 X, .int .i64 (-N)] w fun e w' => e = .returned (.tuple #[.int .i64 0, .int .i64 10]) ∧ w = w' := by
  have ra := fun w => refright_b X true h w
  obtain ⟨x1, x2⟩ := amtB_yes h
  have z : (X == 0) = false := by rw [beq_eq_false_iff_ne]; omega
  have z2 : ((-N) == 0) = false := by rw [beq_eq_false_iff_ne]; omega
  have z3 : (X == 0) = false := by rw [beq_eq_false_iff_ne]; omega
  have z4 : (N == 0) = false := by rw [beq_eq_false_iff_ne]; omega
  have y1 : ¬ X = 0 := by omega
  have y2 : ¬ N = 0 := by omega
  clear h
  go_enter Tryd.func21, Tryd.ntmps21
  go_wp2_with (fail)
  refine (ra _).mono ?_
  rintro e w' ⟨rfl, rfl⟩
  go_wp2
  go_ret2
  exact ⟨rfl, rfl⟩

set_option maxHeartbeats 1000000 in
theorem rt_fit_pm (X N : Int) (w : World) (h : amtB X = true) (hX : 1 ≤ X) (hN : 1 ≤ N) (hN2 : N ≤ 100000000000) (hq : ¬ 100000000000 / X < N) (P : Int) (hP : X * N = P) :
    Calls Tryd.prog 21 #[.int .i64 X, .int .i64 (-N)] w fun e w' => e = .returned (.tuple #[.int .i64 (-P), .int .i64 0]) ∧ w = w' := by
  have ra := fun w => refright_b X true h w
  obtain ⟨x1, x2⟩ := amtB_yes h
  have z : (X == 0) = false := by rw [beq_eq_false_iff_ne]; omega
  have z2 : ((-N) == 0) = false := by rw [beq_eq_false_iff_ne]; omega
  have z3 : (X == 0) = false := by rw [beq_eq_false_iff_ne]; omega
  have z4 : (N == 0) = false := by rw [beq_eq_false_iff_ne]; omega
  have y1 : ¬ X = 0 := by omega
  have y2 : ¬ N = 0 := by omega
  clear h
  have hPM : P ≤ 100000000000 := by
    rw [over_iff (by omega), hP] at hq
    omega
  have HP := Lib.hid hP
  clear hP
  go_enter Tryd.func21, Tryd.ntmps21
  go_wp2_with (fail)
  refine (ra _).mono ?_
  rintro e w' ⟨rfl, rfl⟩
  go_wp2
  go_loop [0, 1, 7] (fun a b s => ∃ X N S : Int, 0 ≤ X ∧ 0 ≤ N ∧ 0 ≤ S ∧ S ≤ 100000000000 ∧ N ≤ 100000000000 ∧ a = .int .i64 X ∧ b = .int .i64 N ∧ s = .int .i64 S ∧ RowKit.Hid (X * N + S = P)) (fun _ b _ => (intOf b).toNat)
  case atStart => exact ⟨X, N, 0, by omega, by omega, by omega, by omega, by omega, rfl, rfl, rfl, Lib.hid (by rw [HP.out]; omega)⟩
  case round =>
    clear ra z z2 z3 z4 y1 y2 hq hX hN hN2 x1 x2 HP
    obtain ⟨X, N, S, X0, N0, S0, S1, N1, rfl, rfl, rfl, HR⟩ := hrel
    by_cases hpos : 0 < N
    · have hXP : X + S ≤ 100000000000 := by
        have a1 := one_le X0 (show 1 ≤ N by omega)
        have a2 := HR.out
        omega
      have HS := Lib.hid (half_step HR.out (by omega))
      clear HR
      by_cases hodd : N % 2 = 1
      · have ho : (N % 2 == 1) = true := by simp [hodd]
        have HT := Lib.hid (show (X + X) * (N / 2) + (S + X) = P by have := HS.out; rw [if_pos hodd] at this; exact this)
        clear hodd HS
        go_wp2
        go_round
        case rel => exact ⟨X + X, N / 2, S + X, by omega, by omega, by omega, by omega, by omega, rfl, rfl, rfl, HT⟩
        case measure => simp [intOf]; omega
      · have ho : (N % 2 == 1) = false := by simp [hodd]
        have HT := Lib.hid (show (X + X) * (N / 2) + S = P by have := HS.out; rw [if_neg hodd] at this; exact this)
        clear hodd HS
        go_wp2
        go_round
        case rel => exact ⟨X + X, N / 2, S, by omega, by omega, by omega, by omega, by omega, rfl, rfl, rfl, HT⟩
        case measure => simp [intOf]; omega
    · obtain rfl : N = 0 := by omega
      have hS : S = P := by
        have := HR.out
        rw [Int.mul_zero] at this
        omega
      have HS := Lib.hid hS
      clear hS HR
      go_wp2
      go_ret2
      exact ⟨ret_ii (by have := HS.out; omega) rfl, rfl⟩

set_option maxHeartbeats 1000000 in
theorem rt_over_mp (X N : Int) (w : World) (h : amtB (-X) = true) (hX : 1 ≤ X) (hN : 1 ≤ N) (hN2 : N ≤ 100000000000) (hq : 100000000000 / X < N) :
    Calls Tryd.prog 21 #[.int .i64 (-X), .int .i64 N] w fun e w' => e = .returned (.tuple #[.int .i64 0, .int .i64 10]) ∧ w = w' := by
  have ra := fun w => refright_b (-X) true h w
  obtain ⟨x1, x2⟩ := amtB_yes h
  have z : ((-X) == 0) = false := by rw [beq_eq_false_iff_ne]; omega
  have z2 : (N == 0) = false := by rw [beq_eq_false_iff_ne]; omega
  have z3 : (X == 0) = false := by rw [beq_eq_false_iff_ne]; omega
  have z4 : (N == 0) = false := by rw [beq_eq_false_iff_ne]; omega
  have y1 : ¬ X = 0 := by omega
  have y2 : ¬ N = 0 := by omega
  clear h
  go_enter Tryd.func21, Tryd.ntmps21
  go_wp2_with (fail)
  refine (ra _).mono ?_
  rintro e w' ⟨rfl, rfl⟩
  go_wp2
  go_ret2
  exact ⟨rfl, rfl⟩

set_option maxHeartbeats 1000000 in
theorem rt_fit_mp (X N : Int) (w : World) (h : amtB (-X) = true) (hX : 1 ≤ X) (hN : 1 ≤ N) (hN2 : N ≤ 100000000000) (hq : ¬ 100000000000 / X < N) (P : Int) (hP : X * N = P) :
    Calls Tryd.prog 21 #[.int .i64 (-X), .int .i64 N] w fun e w' => e = .returned (.tuple #[.int .i64 (-P), .int .i64 0]) ∧ w = w' := by
  have ra := fun w => refright_b (-X) true h w
  obtain ⟨x1, x2⟩ := amtB_yes h
  have z : ((-X) == 0) = false := by rw [beq_eq_false_iff_ne]; omega
  have z2 : (N == 0) = false := by rw [beq_eq_false_iff_ne]; omega
  have z3 : (X == 0) = false := by rw [beq_eq_false_iff_ne]; omega
  have z4 : (N == 0) = false := by rw [beq_eq_false_iff_ne]; omega
  have y1 : ¬ X = 0 := by omega
  have y2 : ¬ N = 0 := by omega
  clear h
  have hPM : P ≤ 100000000000 := by
    rw [over_iff (by omega), hP] at hq
    omega
  have HP := Lib.hid hP
  clear hP
  go_enter Tryd.func21, Tryd.ntmps21
  go_wp2_with (fail)
  refine (ra _).mono ?_
  rintro e w' ⟨rfl, rfl⟩
  go_wp2
  go_loop [0, 1, 7] (fun a b s => ∃ X N S : Int, 0 ≤ X ∧ 0 ≤ N ∧ 0 ≤ S ∧ S ≤ 100000000000 ∧ N ≤ 100000000000 ∧ a = .int .i64 X ∧ b = .int .i64 N ∧ s = .int .i64 S ∧ RowKit.Hid (X * N + S = P)) (fun _ b _ => (intOf b).toNat)
  case atStart => exact ⟨X, N, 0, by omega, by omega, by omega, by omega, by omega, rfl, rfl, rfl, Lib.hid (by rw [HP.out]; omega)⟩
  case round =>
    clear ra z z2 z3 z4 y1 y2 hq hX hN hN2 x1 x2 HP
    obtain ⟨X, N, S, X0, N0, S0, S1, N1, rfl, rfl, rfl, HR⟩ := hrel
    by_cases hpos : 0 < N
    · have hXP : X + S ≤ 100000000000 := by
        have a1 := one_le X0 (show 1 ≤ N by omega)
        have a2 := HR.out
        omega
      have HS := Lib.hid (half_step HR.out (by omega))
      clear HR
      by_cases hodd : N % 2 = 1
      · have ho : (N % 2 == 1) = true := by simp [hodd]
        have HT := Lib.hid (show (X + X) * (N / 2) + (S + X) = P by have := HS.out; rw [if_pos hodd] at this; exact this)
        clear hodd HS
        go_wp2
        go_round
        case rel => exact ⟨X + X, N / 2, S + X, by omega, by omega, by omega, by omega, by omega, rfl, rfl, rfl, HT⟩
        case measure => simp [intOf]; omega
      · have ho : (N % 2 == 1) = false := by simp [hodd]
        have HT := Lib.hid (show (X + X) * (N / 2) + S = P by have := HS.out; rw [if_neg hodd] at this; exact this)
        clear hodd HS
        go_wp2
        go_round
        case rel => exact ⟨X + X, N / 2, S, by omega, by omega, by omega, by omega, by omega, rfl, rfl, rfl, HT⟩
        case measure => simp [intOf]; omega
    · obtain rfl : N = 0 := by omega
      have hS : S = P := by
        have := HR.out
        rw [Int.mul_zero] at this
        omega
      have HS := Lib.hid hS
      clear hS HR
      go_wp2
      go_ret2
      exact ⟨ret_ii (by have := HS.out; omega) rfl, rfl⟩

set_option maxHeartbeats 1000000 in
theorem rt_over_mm (X N : Int) (w : World) (h : amtB (-X) = true) (hX : 1 ≤ X) (hN : 1 ≤ N) (hN2 : N ≤ 100000000000) (hq : 100000000000 / X < N) :
    Calls Tryd.prog 21 #[.int .i64 (-X), .int .i64 (-N)] w fun e w' => e = .returned (.tuple #[.int .i64 0, .int .i64 10]) ∧ w = w' := by
  have ra := fun w => refright_b (-X) true h w
  obtain ⟨x1, x2⟩ := amtB_yes h
  have z : ((-X) == 0) = false := by rw [beq_eq_false_iff_ne]; omega
  have z2 : ((-N) == 0) = false := by rw [beq_eq_false_iff_ne]; omega
  have z3 : (X == 0) = false := by rw [beq_eq_false_iff_ne]; omega
  have z4 : (N == 0) = false := by rw [beq_eq_false_iff_ne]; omega
  have y1 : ¬ X = 0 := by omega
  have y2 : ¬ N = 0 := by omega
  clear h
  go_enter Tryd.func21, Tryd.ntmps21
  go_wp2_with (fail)
  refine (ra _).mono ?_
  rintro e w' ⟨rfl, rfl⟩
  go_wp2
  go_ret2
  exact ⟨rfl, rfl⟩

set_option maxHeartbeats 1000000 in
theorem rt_fit_mm (X N : Int) (w : World) (h : amtB (-X) = true) (hX : 1 ≤ X) (hN : 1 ≤ N) (hN2 : N ≤ 100000000000) (hq : ¬ 100000000000 / X < N) (P : Int) (hP : X * N = P) :
    Calls Tryd.prog 21 #[.int .i64 (-X), .int .i64 (-N)] w fun e w' => e = .returned (.tuple #[.int .i64 P, .int .i64 0]) ∧ w = w' := by
  have ra := fun w => refright_b (-X) true h w
  obtain ⟨x1, x2⟩ := amtB_yes h
  have z : ((-X) == 0) = false := by rw [beq_eq_false_iff_ne]; omega
  have z2 : ((-N) == 0) = false := by rw [beq_eq_false_iff_ne]; omega
  have z3 : (X == 0) = false := by rw [beq_eq_false_iff_ne]; omega
  have z4 : (N == 0) = false := by rw [beq_eq_false_iff_ne]; omega
  have y1 : ¬ X = 0 := by omega
  have y2 : ¬ N = 0 := by omega
  clear h
  have hPM : P ≤ 100000000000 := by
    rw [over_iff (by omega), hP] at hq
    omega
  have HP := Lib.hid hP
  clear hP
  go_enter Tryd.func21, Tryd.ntmps21
  go_wp2_with (fail)
  refine (ra _).mono ?_
  rintro e w' ⟨rfl, rfl⟩
  go_wp2
  go_loop [0, 1, 7] (fun a b s => ∃ X N S : Int, 0 ≤ X ∧ 0 ≤ N ∧ 0 ≤ S ∧ S ≤ 100000000000 ∧ N ≤ 100000000000 ∧ a = .int .i64 X ∧ b = .int .i64 N ∧ s = .int .i64 S ∧ RowKit.Hid (X * N + S = P)) (fun _ b _ => (intOf b).toNat)
  case atStart => exact ⟨X, N, 0, by omega, by omega, by omega, by omega, by omega, rfl, rfl, rfl, Lib.hid (by rw [HP.out]; omega)⟩
  case round =>
    clear ra z z2 z3 z4 y1 y2 hq hX hN hN2 x1 x2 HP
    obtain ⟨X, N, S, X0, N0, S0, S1, N1, rfl, rfl, rfl, HR⟩ := hrel
    by_cases hpos : 0 < N
    · have hXP : X + S ≤ 100000000000 := by
        have a1 := one_le X0 (show 1 ≤ N by omega)
        have a2 := HR.out
        omega
      have HS := Lib.hid (half_step HR.out (by omega))
      clear HR
      by_cases hodd : N % 2 = 1
      · have ho : (N % 2 == 1) = true := by simp [hodd]
        have HT := Lib.hid (show (X + X) * (N / 2) + (S + X) = P by have := HS.out; rw [if_pos hodd] at this; exact this)
        clear hodd HS
        go_wp2
        go_round
        case rel => exact ⟨X + X, N / 2, S + X, by omega, by omega, by omega, by omega, by omega, rfl, rfl, rfl, HT⟩
        case measure => simp [intOf]; omega
      · have ho : (N % 2 == 1) = false := by simp [hodd]
        have HT := Lib.hid (show (X + X) * (N / 2) + S = P by have := HS.out; rw [if_neg hodd] at this; exact this)
        clear hodd HS
        go_wp2
        go_round
        case rel => exact ⟨X + X, N / 2, S, by omega, by omega, by omega, by omega, by omega, rfl, rfl, rfl, HT⟩
        case measure => simp [intOf]; omega
    · obtain rfl : N = 0 := by omega
      have hS : S = P := by
        have := HR.out
        rw [Int.mul_zero] at this
        omega
      have HS := Lib.hid hS
      clear hS HR
      go_wp2
      go_ret2
      exact ⟨ret_ii (by have := HS.out; omega) rfl, rfl⟩
end Go.Proofs.YtjjeohnejhhacaaDoor
