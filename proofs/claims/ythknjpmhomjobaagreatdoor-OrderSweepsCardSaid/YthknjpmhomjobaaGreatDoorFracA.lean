/- What the calls of frac answer that round and that take parts: Mode, Rate, split, rises, Round, Right, Part, Of, Coins, Take. -/
import Derived.Test.YthknjpmhomjobaaGreatDoorRight
import Derived.WalkLawsBesides
import Derived.Deep.QuietTactic
import Derived.BigQuiet
namespace Go.Proofs.YthknjpmhomjobaaGreatDoor
open Go.RowKit

theorem mode_any (m : Int) (w : World) : Calls Tryz.prog 92 #[.int .i64 m] w fun e w' => e = .returned (.bool (modeB m)) ∧ w = w' := by
  go_enter Tryz.func92, Tryz.ntmps92
  go_wp2
  · go_ret
    exact ⟨ret_b (by simp only [modeB]; congr 1; simp; omega), rfl⟩
  · go_ret
    exact ⟨ret_b (by simp only [modeB]; simp; omega), rfl⟩
theorem rate_any (m : Int) (w : World) : Calls Tryz.prog 27 #[.int .i64 m] w fun e w' => e = .returned (.bool (rateB m)) ∧ w = w' := by
  go_enter Tryz.func27, Tryz.ntmps27
  go_wp2
  · go_ret
    exact ⟨ret_b (by simp only [rateB]; congr 1; simp; omega), rfl⟩
  · go_ret
    exact ⟨ret_b (by simp only [rateB]; simp; omega), rfl⟩
theorem mode_b (m : Int) (b : Bool) (h : modeB m = b) (w : World) : Calls Tryz.prog 92 #[.int .i64 m] w fun e w' => e = .returned (.bool b) ∧ w = w' := by
  subst h
  exact mode_any m w
theorem rate_b (m : Int) (b : Bool) (h : rateB m = b) (w : World) : Calls Tryz.prog 27 #[.int .i64 m] w fun e w' => e = .returned (.bool b) ∧ w = w' := by
  subst h
  exact rate_any m w

set_option maxHeartbeats 400000 in
theorem split_any (n d : Int) (w : World) (hn : -9223372036854775808 ≤ n) (hn' : n ≤ 9223372036854775807) (hd : 1 ≤ d) (hd' : d ≤ 9223372036854775807) :
    Calls Tryz.prog 93 #[.int .i64 n, .int .i64 d] w fun e w' => e = .returned (.tuple #[.int .i64 (n / d), .int .i64 (n % d)]) ∧ ∃ k, w' = w.drewN k := by
  by_cases h : n.tmod d < 0
  · have e := floor_neg hd h
    have b := ediv_bd hd _ _ hn hn' (by omega) (by omega)
    have c := Int.emod_nonneg n (show d ≠ 0 by omega)
    have c' := Int.emod_lt_of_pos n (show 0 < d by omega)
    have E := Lib.hid e
    clear e
    go_enter Tryz.func93, Tryz.ntmps93
    go_wp2
    go_quiet (fail)
    go_wp2
    go_ret2
    exact ⟨ret_ii (by rw [E.out.1]; exact IntWalk.wrap64_in _ (by omega)) (by rw [E.out.2]; exact IntWalk.wrap64_in _ (by omega)), _, rfl⟩
  · have e := floor_pos hd (Int.not_lt.1 h)
    have E := Lib.hid e
    clear e
    go_enter Tryz.func93, Tryz.ntmps93
    go_wp2
    go_quiet (fail)
    go_wp2
    go_ret2
    exact ⟨ret_ii E.out.1 E.out.2, _, rfl⟩

theorem odd_tmod (q : Int) : (q.tmod 2 != 0) = decide (q % 2 ≠ 0) := by
  have hb := Int.lt_tmod_of_pos q (show (0 : Int) < 2 by omega)
  rw [Bool.eq_iff_iff]
  simp only [bne_iff_ne, ne_eq, decide_eq_true_eq]
  rcases Int.lt_or_le (q.tmod 2) 0 with h | h
  · have := (floor_neg (d := 2) (by omega) h).2
    omega
  · have := (floor_pos (d := 2) (by omega) h).2
    omega
set_option maxHeartbeats 1000000 in
theorem rises_any (q r d m : Int) (w : World) (h0 : 0 < r) (h1 : r < d) (h2 : d ≤ 9223372036854775807) :
    Calls Tryz.prog 94 #[.int .i64 q, .int .i64 r, .int .i64 d, .int .i64 m] w fun e w' => e = .returned (.bool (rises q r d m)) ∧ w = w' := by
  go_enter Tryz.func94, Tryz.ntmps94
  go_wp2
  all_goals go_ret
  all_goals refine ⟨ret_b ?_, rfl⟩
  all_goals unfold rises
  all_goals generalize d - r = u at *
  all_goals simp_all [odd_tmod]

theorem rises_b (q r d m : Int) (b : Bool) (hb : rises q r d m = b) (w : World) (h0 : 0 < r) (h1 : r < d) (h2 : d ≤ 9223372036854775807) :
    Calls Tryz.prog 94 #[.int .i64 q, .int .i64 r, .int .i64 d, .int .i64 m] w fun e w' => e = .returned (.bool b) ∧ w = w' := by
  subst hb
  exact rises_any q r d m w h0 h1 h2

/-- Round where it refuses -/
theorem round_bad (n d m : Int) (w : World) (h : d ≤ 0 ∨ modeB m = false) :
    Calls Tryz.prog 76 #[.int .i64 n, .int .i64 d, .int .i64 m] w fun e w' => e = .returned (.tuple #[.int .i64 0, .int .i64 1]) ∧ w = w' := by
  by_cases hd : d ≤ 0
  · go_enter Tryz.func76, Tryz.ntmps76
    go_wp2
    go_ret2
    exact ⟨rfl, rfl⟩
  · have hm : modeB m = false := h.resolve_left hd
    have hc := mode_b m false hm
    clear h hm
    have hd0 : 0 < d := by omega
    clear hd
    go_enter Tryz.func76, Tryz.ntmps76
    go_wp2_with (go_at_call 92; refine (hc _).mono ?_; rintro e w' ⟨rfl, rfl⟩)
    go_ret2
    exact ⟨rfl, rfl⟩
set_option maxHeartbeats 400000 in
/-- Round where it rounds -/
theorem round_ok (n d m : Int) (w : World) (hn : -9223372036854775808 ≤ n) (hn' : n ≤ 9223372036854775807) (hd : 1 ≤ d) (hd' : d ≤ 9223372036854775807) (hm : modeB m = true) :
    Calls Tryz.prog 76 #[.int .i64 n, .int .i64 d, .int .i64 m] w fun e w' => e = .returned (.tuple #[.int .i64 (rnd n d m), .int .i64 0]) ∧ ∃ k, w' = w.drewN k := by
  have hc := mode_b m true hm
  have hs := fun w => split_any n d w hn hn' hd hd'
  have hd0 : 0 < d := by omega
  have c := Int.emod_nonneg n (show d ≠ 0 by omega)
  have c' := Int.emod_lt_of_pos n hd0
  have bq := ediv_bd hd _ _ hn hn' (by omega) (by omega)
  by_cases h0 : 0 < n % d
  · cases hr : rises (n / d) (n % d) d m
    · have hrc := fun w => rises_b _ _ _ _ _ hr w h0 c' hd'
      have hE : rnd n d m = n / d := by simp [rnd, hr]
      have HE := Lib.hid hE
      clear hE hr hm
      go_enter Tryz.func76, Tryz.ntmps76
      go_wp2_with (first
        | (go_at_call 92; refine (hc _).mono ?_; rintro e w' ⟨rfl, rfl⟩)
        | (go_at_call 93; refine (hs _).mono ?_; rintro e w' ⟨rfl, k, rfl⟩)
        | (go_at_call 94; refine (hrc _).mono ?_; rintro e w' ⟨rfl, rfl⟩))
      go_ret2
      exact ⟨ret_ii HE.out.symm rfl, _, rfl⟩
    · have hrc := fun w => rises_b _ _ _ _ _ hr w h0 c' hd'
      have hE : rnd n d m = n / d + 1 := by simp [rnd, hr, h0]
      have hB := rnd_bd (m := m) hd _ _ hn hn' (by omega) (by omega)
      rw [hE] at hB
      have HE := Lib.hid hE
      clear hE hr hm
      go_enter Tryz.func76, Tryz.ntmps76
      go_wp2_with (first
        | (go_at_call 92; refine (hc _).mono ?_; rintro e w' ⟨rfl, rfl⟩)
        | (go_at_call 93; refine (hs _).mono ?_; rintro e w' ⟨rfl, k, rfl⟩)
        | (go_at_call 94; refine (hrc _).mono ?_; rintro e w' ⟨rfl, rfl⟩))
      go_ret2
      exact ⟨ret_ii HE.out.symm rfl, _, rfl⟩
  · have hE : rnd n d m = n / d := by simp [rnd, h0]
    have HE := Lib.hid hE
    have h0' : n % d ≤ 0 := by omega
    clear hE hm h0
    go_enter Tryz.func76, Tryz.ntmps76
    go_wp2_with (first
      | (go_at_call 92; refine (hc _).mono ?_; rintro e w' ⟨rfl, rfl⟩)
      | (go_at_call 93; refine (hs _).mono ?_; rintro e w' ⟨rfl, k, rfl⟩))
    go_ret2
    exact ⟨ret_ii HE.out.symm rfl, _, rfl⟩

theorem exright_any (x : Int) (w : World) : Calls Tryz.prog 75 #[.int .i64 x] w fun e w' => e = .returned (.bool (exB x)) ∧ w = w' := by
  go_enter Tryz.func75, Tryz.ntmps75
  go_wp2
  · go_ret
    exact ⟨ret_b (by simp only [exB]; congr 1; simp; omega), rfl⟩
  · go_ret
    exact ⟨ret_b (by simp only [exB]; simp; omega), rfl⟩
theorem exright_b (x : Int) (b : Bool) (h : exB x = b) (w : World) : Calls Tryz.prog 75 #[.int .i64 x] w fun e w' => e = .returned (.bool b) ∧ w = w' := by
  subst h
  exact exright_any x w
end Go.Proofs.YthknjpmhomjobaaGreatDoor
