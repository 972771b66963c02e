/- What the calls of frac answer that take parts, round and scale: Part, Coins, Scale. -/
import Derived.Test.YtkiefceomgbbhaaFracA
import Derived.WalkSmall
namespace Go.Proofs.Ytkiefceomgbbhaa
open Go.RowKit

theorem part_amt (x r : Int) (w : World) (h : amtB x = false) :
    Calls Try.prog 23 #[.int .i64 x, .int .i64 r] w fun e w' => e = .returned (.tuple #[.int .i64 0, .int .i64 10]) ∧ Below w.heap.size w w' := by
  have hc := right1 x w 2 false h
  clear h
  go_enter Try.func23, Try.ntmps23
  go_wp2_with (go_at_call 46; refine hc.mono ?_; rintro e w' ⟨rfl, rfl⟩)
  go_ret2
  exact ⟨rfl, (Below.refl _ _).alloc (Nat.le_refl _) _⟩
theorem part_rate (x r : Int) (w : World) (h : amtB x = true) (hr : rateB r = false) :
    Calls Try.prog 23 #[.int .i64 x, .int .i64 r] w fun e w' => e = .returned (.tuple #[.int .i64 0, .int .i64 50]) ∧ Below w.heap.size w w' := by
  have hc := right1 x w 2 true h
  have hc2 := rate_b r false hr
  clear h hr
  go_enter Try.func23, Try.ntmps23
  go_wp2_with (first
    | (go_at_call 46; refine hc.mono ?_; rintro e w' ⟨rfl, rfl⟩)
    | (go_at_call 47; refine (hc2 _).mono ?_; rintro e w' ⟨rfl, rfl⟩))
  go_ret2
  exact ⟨rfl, (Below.refl _ _).alloc (Nat.le_refl _) _⟩
set_option maxHeartbeats 1000000 in
theorem part_ok (x r : Int) (w : World) (h : amtB x = true) (hr : rateB r = true) :
    Calls Try.prog 23 #[.int .i64 x, .int .i64 r] w fun e w' => e = .returned (.tuple #[.int .i64 (x * r), .int .i64 0]) ∧ Below w.heap.size w w' := by
  have hc := right1 x w 2 true h
  have hc2 := rate_b r true hr
  have hb := amtB_yes h
  have hb2 := rateB_yes hr
  have hm := mul_bd 10000 hb.1 hb.2 hb2.1 hb2.2
  have h1 : -1000000000000000 ≤ x * r := by omega
  have h2 : x * r ≤ 1000000000000000 := by omega
  clear h hr hb hb2 hm
  go_enter Try.func23, Try.ntmps23
  go_wp2_with (first
    | (go_at_call 46; refine hc.mono ?_; rintro e w' ⟨rfl, rfl⟩)
    | (go_at_call 47; refine (hc2 _).mono ?_; rintro e w' ⟨rfl, rfl⟩))
  go_ret2
  exact ⟨rfl, (Below.refl _ _).alloc (Nat.le_refl _) _⟩
theorem ex_of_part {x r : Int} (h : amtB x = true) (hr : rateB r = true) : exB (x * r) = true := by
  have hb := amtB_yes h
  have hb2 := rateB_yes hr
  have hm := mul_bd 10000 hb.1 hb.2 hb2.1 hb2.2
  exact exB_mk (by omega) (by omega)
theorem coins_ex (x m : Int) (w : World) (h : exB x = false) :
    Calls Try.prog 39 #[.int .i64 x, .int .i64 m] w fun e w' => e = .returned (.tuple #[.int .i64 0, .int .i64 10]) ∧ w = w' := by
  have hc := exright_b x false h
  clear h
  go_enter Try.func39, Try.ntmps39
  go_wp2_with (go_at_call 57; refine (hc _).mono ?_; rintro e w' ⟨rfl, rfl⟩)
  go_ret2
  exact ⟨rfl, rfl⟩
theorem coins_mode (x m : Int) (w : World) (h : exB x = true) (hm : modeB m = false) :
    Calls Try.prog 39 #[.int .i64 x, .int .i64 m] w fun e w' => e = .returned (.tuple #[.int .i64 0, .int .i64 1]) ∧ w = w' := by
  have hc := exright_b x true h
  have hr := fun w => round_bad x 10000 m w (.inr hm)
  clear h hm
  go_enter Try.func39, Try.ntmps39
  go_wp2_with (first
    | (go_at_call 57; refine (hc _).mono ?_; rintro e w' ⟨rfl, rfl⟩)
    | (go_at_call 56; refine (hr _).mono ?_; rintro e w' ⟨rfl, rfl⟩))
  go_ret2
  exact ⟨rfl, rfl⟩
theorem coins_ok (x m : Int) (w : World) (h : exB x = true) (hm : modeB m = true) :
    Calls Try.prog 39 #[.int .i64 x, .int .i64 m] w fun e w' => e = .returned (.tuple #[.int .i64 (rnd x 10000 m), .int .i64 0]) ∧ ∃ k, w' = w.drewN k := by
  have hc := exright_b x true h
  have hb := exB_yes h
  have hr := fun w => round_ok x 10000 m w (by omega) (by omega) (by omega) (by omega) hm
  clear h hm hb
  go_enter Try.func39, Try.ntmps39
  go_wp2_with (first
    | (go_at_call 57; refine (hc _).mono ?_; rintro e w' ⟨rfl, rfl⟩)
    | (go_at_call 56; refine (hr _).mono ?_; rintro e w' ⟨rfl, k, rfl⟩))
  go_ret2
  exact ⟨rfl, _, rfl⟩
theorem scale_amt (x n d : Int) (w : World) (h : amtB x = false) :
    Calls Try.prog 48 #[.int .i64 x, .int .i64 n, .int .i64 d] w fun e w' => e = .returned (.tuple #[.int .i64 0, .int .i64 10]) ∧ Below w.heap.size w w' := by
  have hc := right1 x w 2 false h
  clear h
  go_enter Try.func48, Try.ntmps48
  go_wp2_with (go_at_call 46; refine hc.mono ?_; rintro e w' ⟨rfl, rfl⟩)
  go_ret2
  exact ⟨rfl, (Below.refl _ _).alloc (Nat.le_refl _) _⟩
theorem scale_range (x n d : Int) (w : World) (h : amtB x = true) (hr : n < 0 ∨ 1048576 < n ∨ d < 1 ∨ 1048576 < d) :
    Calls Try.prog 48 #[.int .i64 x, .int .i64 n, .int .i64 d] w fun e w' => e = .returned (.tuple #[.int .i64 0, .int .i64 1]) ∧ Below w.heap.size w w' := by
  have hc := right1 x w 2 true h
  clear h
  by_cases h1 : n < 0
  · clear hr
    go_enter Try.func48, Try.ntmps48
    go_wp2_with (go_at_call 46; refine hc.mono ?_; rintro e w' ⟨rfl, rfl⟩)
    go_ret2
    exact ⟨rfl, (Below.refl _ _).alloc (Nat.le_refl _) _⟩
  · by_cases h2 : 1048576 < n
    · clear hr
      go_enter Try.func48, Try.ntmps48
      go_wp2_with (go_at_call 46; refine hc.mono ?_; rintro e w' ⟨rfl, rfl⟩)
      go_ret2
      exact ⟨rfl, (Below.refl _ _).alloc (Nat.le_refl _) _⟩
    · by_cases h3 : d < 1
      · clear hr
        go_enter Try.func48, Try.ntmps48
        go_wp2_with (go_at_call 46; refine hc.mono ?_; rintro e w' ⟨rfl, rfl⟩)
        go_ret2
        exact ⟨rfl, (Below.refl _ _).alloc (Nat.le_refl _) _⟩
      · have h4 : 1048576 < d := by omega
        clear hr
        go_enter Try.func48, Try.ntmps48
        go_wp2_with (go_at_call 46; refine hc.mono ?_; rintro e w' ⟨rfl, rfl⟩)
        go_ret2
        exact ⟨rfl, (Below.refl _ _).alloc (Nat.le_refl _) _⟩
theorem scale_ok (x n d : Int) (w : World) (h : amtB x = true) (h1 : 0 ≤ n) (h2 : n ≤ 1048576) (h3 : 1 ≤ d) (h4 : d ≤ 1048576) (b : Bool) (hb : amtB (x * n / d) = b) :
    Calls Try.prog 48 #[.int .i64 x, .int .i64 n, .int .i64 d] w fun e w' => e = .returned (.tuple #[.int .i64 (if b = true then x * n / d else 0), .int .i64 (if b = true then 0 else 10)]) ∧ Below w.heap.size w w' := by
  have hc := right1 x w 2 true h
  have ha := amtB_yes h
  have hm := mul_bd 1048576 ha.1 ha.2 h1 h2
  have l1 : -9223372036854775808 ≤ x * n := by omega
  have l2 : x * n ≤ 9223372036854775807 := by omega
  have sp := fun w => split_any (x * n) d w l1 l2 h3 (by omega)
  clear h ha hm
  generalize x * n / d = q at *
  generalize x * n % d = r at *
  cases b
  · go_enter Try.func48, Try.ntmps48
    go_wp2_with (fail)
    refine hc.mono ?_
    rintro e w' ⟨rfl, rfl⟩
    go_wp2_with (fail)
    refine (sp _).mono ?_
    rintro e w' ⟨rfl, k, rfl⟩
    go_wp2_with (fail)
    refine (right_at q _ _ _ false hb ?_).mono ?_
    · simp [go_sem]
    rintro e w' ⟨rfl, rfl⟩
    go_wp2
    go_ret2
    exact ⟨rfl, below_drewN (((Below.refl _ _).alloc (Nat.le_refl _) _).alloc (by simp) _) _⟩
  · go_enter Try.func48, Try.ntmps48
    go_wp2_with (fail)
    refine hc.mono ?_
    rintro e w' ⟨rfl, rfl⟩
    go_wp2_with (fail)
    refine (sp _).mono ?_
    rintro e w' ⟨rfl, k, rfl⟩
    go_wp2_with (fail)
    refine (right_at q _ _ _ true hb ?_).mono ?_
    · simp [go_sem]
    rintro e w' ⟨rfl, rfl⟩
    go_wp2
    go_ret2
    exact ⟨rfl, below_drewN (((Below.refl _ _).alloc (Nat.le_refl _) _).alloc (by simp) _) _⟩
end Go.Proofs.Ytkiefceomgbbhaa
