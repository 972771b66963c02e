/- What the calls of frac answer that take parts, round and scale: Part, Coins, Scale. -/
import Derived.Test.YthknjpmhomjobaaGreatDoorFracA
import Derived.WalkSmall
namespace Go.Proofs.YthknjpmhomjobaaGreatDoor
open Go.RowKit

theorem part_amt (x r : Int) (w : World) (h : amtB x = false) :
    Calls Tryz.prog 51 #[.int .i64 x, .int .i64 r] w fun e w' => e = .returned (.tuple #[.int .i64 0, .int .i64 10]) ∧ Below w.heap.size w w' := by
  have hc := right1 x w 2 false h
  clear h
  go_enter Tryz.func51, Tryz.ntmps51
  go_wp2_with (go_at_call 26; refine hc.mono ?_; rintro e w' ⟨rfl, rfl⟩)
  go_ret2
  exact ⟨rfl, (Below.refl _ _).alloc (Nat.le_refl _) _⟩
theorem part_rate (x r : Int) (w : World) (h : amtB x = true) (hr : rateB r = false) :
    Calls Tryz.prog 51 #[.int .i64 x, .int .i64 r] w fun e w' => e = .returned (.tuple #[.int .i64 0, .int .i64 50]) ∧ Below w.heap.size w w' := by
  have hc := right1 x w 2 true h
  have hc2 := rate_b r false hr
  clear h hr
  go_enter Tryz.func51, Tryz.ntmps51
  go_wp2_with (first
    | (go_at_call 26; refine hc.mono ?_; rintro e w' ⟨rfl, rfl⟩)
    | (go_at_call 27; refine (hc2 _).mono ?_; rintro e w' ⟨rfl, rfl⟩))
  go_ret2
  exact ⟨rfl, (Below.refl _ _).alloc (Nat.le_refl _) _⟩
set_option maxHeartbeats 1000000 in
theorem part_ok (x r : Int) (w : World) (h : amtB x = true) (hr : rateB r = true) :
    Calls Tryz.prog 51 #[.int .i64 x, .int .i64 r] w fun e w' => e = .returned (.tuple #[.int .i64 (x * r), .int .i64 0]) ∧ Below w.heap.size w w' := by
  have hc := right1 x w 2 true h
  have hc2 := rate_b r true hr
  have hb := amtB_yes h
  have hb2 := rateB_yes hr
  have hm := mul_bd 10000 hb.1 hb.2 hb2.1 hb2.2
  have h1 : -1000000000000000 ≤ x * r := by omega
  have h2 : x * r ≤ 1000000000000000 := by omega
  clear h hr hb hb2 hm
  go_enter Tryz.func51, Tryz.ntmps51
  go_wp2_with (first
    | (go_at_call 26; refine hc.mono ?_; rintro e w' ⟨rfl, rfl⟩)
    | (go_at_call 27; refine (hc2 _).mono ?_; rintro e w' ⟨rfl, rfl⟩))
  go_ret2
  exact ⟨rfl, (Below.refl _ _).alloc (Nat.le_refl _) _⟩
theorem ex_of_part {x r : Int} (h : amtB x = true) (hr : rateB r = true) : exB (x * r) = true := by
  have hb := amtB_yes h
  have hb2 := rateB_yes hr
  have hm := mul_bd 10000 hb.1 hb.2 hb2.1 hb2.2
  exact exB_mk (by omega) (by omega)
theorem coins_ex (x m : Int) (w : World) (h : exB x = false) :
    Calls Tryz.prog 52 #[.int .i64 x, .int .i64 m] w fun e w' => e = .returned (.tuple #[.int .i64 0, .int .i64 10]) ∧ w = w' := by
  have hc := exright_b x false h
  clear h
  go_enter Tryz.func52, Tryz.ntmps52
  go_wp2_with (go_at_call 75; refine (hc _).mono ?_; rintro e w' ⟨rfl, rfl⟩)
  go_ret2
  exact ⟨rfl, rfl⟩
theorem coins_mode (x m : Int) (w : World) (h : exB x = true) (hm : modeB m = false) :
    Calls Tryz.prog 52 #[.int .i64 x, .int .i64 m] w fun e w' => e = .returned (.tuple #[.int .i64 0, .int .i64 1]) ∧ w = w' := by
  have hc := exright_b x true h
  have hr := fun w => round_bad x 10000 m w (.inr hm)
  clear h hm
  go_enter Tryz.func52, Tryz.ntmps52
  go_wp2_with (first
    | (go_at_call 75; refine (hc _).mono ?_; rintro e w' ⟨rfl, rfl⟩)
    | (go_at_call 76; refine (hr _).mono ?_; rintro e w' ⟨rfl, rfl⟩))
  go_ret2
  exact ⟨rfl, rfl⟩
theorem coins_ok (x m : Int) (w : World) (h : exB x = true) (hm : modeB m = true) :
    Calls Tryz.prog 52 #[.int .i64 x, .int .i64 m] w fun e w' => e = .returned (.tuple #[.int .i64 (rnd x 10000 m), .int .i64 0]) ∧ ∃ k, w' = w.drewN k := by
  have hc := exright_b x true h
  have hb := exB_yes h
  have hr := fun w => round_ok x 10000 m w (by omega) (by omega) (by omega) (by omega) hm
  clear h hm hb
  go_enter Tryz.func52, Tryz.ntmps52
  go_wp2_with (first
    | (go_at_call 75; refine (hc _).mono ?_; rintro e w' ⟨rfl, rfl⟩)
    | (go_at_call 76; refine (hr _).mono ?_; rintro e w' ⟨rfl, k, rfl⟩))
  go_ret2
  exact ⟨rfl, _, rfl⟩
end Go.Proofs.YthknjpmhomjobaaGreatDoor
