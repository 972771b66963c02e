/- Merged: FracA, FracE. -/
import Derived.Test.YtffihnbpjcgicaaDoorRight
import Derived.WalkLawsBesides
import Derived.Deep.QuietTactic
import Derived.BigQuiet
import Derived.WalkSmall
/- What the calls of frac answer that round and that take parts: Mode, Rate, split, rises, Round, Right, Part, Of, Coins, Take. -/
namespace Go.Proofs.YtffihnbpjcgicaaDoor
open Go.RowKit

theorem mode_any (m : Int) (w : World) : Calls Tryd.prog 136 #[.int .i64 m] w fun e w' => e = .returned (.bool (modeB m)) ∧ w = w' := by
  go_enter Tryd.func136, Tryd.ntmps136
  go_wp2
  · go_ret
    exact ⟨ret_b (by simp only [modeB]; congr 1; simp; omega), rfl⟩
  · go_ret
    exact ⟨ret_b (by simp only [modeB]; simp; omega), rfl⟩
theorem rate_any (m : Int) (w : World) : Calls Tryd.prog 130 #[.int .i64 m] w fun e w' => e = .returned (.bool (rateB m)) ∧ w = w' := by
  go_enter Tryd.func130, Tryd.ntmps130
  go_wp2
  · go_ret
    exact ⟨ret_b (by simp only [rateB]; congr 1; simp; omega), rfl⟩
  · go_ret
    exact ⟨ret_b (by simp only [rateB]; simp; omega), rfl⟩
theorem mode_b (m : Int) (b : Bool) (h : modeB m = b) (w : World) : Calls Tryd.prog 136 #[.int .i64 m] w fun e w' => e = .returned (.bool b) ∧ w = w' := by
  subst h
  exact mode_any m w
theorem rate_b (m : Int) (b : Bool) (h : rateB m = b) (w : World) : Calls Tryd.prog 130 #[.int .i64 m] w fun e w' => e = .returned (.bool b) ∧ w = w' := by
  subst h
  exact rate_any m w

set_option maxHeartbeats 400000 in
theorem split_any (n d : Int) (w : World) (hn : -9223372036854775808 ≤ n) (hn' : n ≤ 9223372036854775807) (hd : 1 ≤ d) (hd' : d ≤ 9223372036854775807) :
    Calls Tryd.prog 163 #[.int .i64 n, .int .i64 d] w fun e w' => e = .returned (.tuple #[.int .i64 (n / d), .int .i64 (n % d)]) ∧ ∃ k, w' = w.drewN k := by
  by_cases h : n.tmod d < 0
  · have e := floor_neg hd h
    have b := ediv_bd hd _ _ hn hn' (by omega) (by omega)
    have c := Int.emod_nonneg n (show d ≠ 0 by omega)
    have c' := Int.emod_lt_of_pos n (show 0 < d by omega)
    have E := Lib.hid e
    clear e
    go_enter Tryd.func163, Tryd.ntmps163
    go_wp2
    go_quiet (fail)
    go_wp2
    go_ret2
    exact ⟨ret_ii (by rw [E.out.1]; exact IntWalk.wrap64_in _ (by omega)) (by rw [E.out.2]; exact IntWalk.wrap64_in _ (by omega)), _, rfl⟩
  · have e := floor_pos hd (Int.not_lt.1 h)
    have E := Lib.hid e
    clear e
    go_enter Tryd.func163, Tryd.ntmps163
    go_wp2
    go_quiet (fail)
    go_wp2
    go_ret2
    exact ⟨ret_ii E.out.1 E.out.2, _, rfl⟩

theorem odd_tmod (q : Int) : (q.tmod 2 != 0) = decide (q % 2 ≠ 0) := by
  have hb := Int.lt_tmod_of_pos q (show (0 : Int) < 2 by omega)
  rw [Bool.eq_iff_iff]
  simp only [bne_iff_ne, ne_eq, decide_eq_true_eq]
  rcases Int.lt_or_le (q.tmod 2) 0 with h | h
  · have := (floor_neg (d := 2) (by omega) h).2
    omega
  · have := (floor_pos (d := 2) (by omega) h).2
    omega
set_option maxHeartbeats 1000000 in
theorem rises_any (q r d m : Int) (w : World) (h0 : 0 < r) (h1 : r < d) (h2 : d ≤ 9223372036854775807) :
    Calls Tryd.prog 164 #[.int .i64 q, .int .i64 r, .int .i64 d, .int .i64 m] w fun e w' => e = .returned (.bool (rises q r d m)) ∧ w = w' := by
  go_enter Tryd.func164, Tryd.ntmps164
  go_wp2
  all_goals go_ret
  all_goals refine ⟨ret_b ?_, rfl⟩
  all_goals unfold rises
  all_goals generalize d - r = u at *
  all_goals simp_all [odd_tmod]

theorem rises_b (q r d m : Int) (b : Bool) (hb : rises q r d m = b) (w : World) (h0 : 0 < r) (h1 : r < d) (h2 : d ≤ 9223372036854775807) :
    Calls Tryd.prog 164 #[.int .i64 q, .int .i64 r, .int .i64 d, .int .i64 m] w fun e w' => e = .returned (.bool b) ∧ w = w' := by
  subst hb
  exact rises_any q r d m w h0 h1 h2

/-- Round where it refuses -/
theorem round_bad (n d m : Int) (w : World) (h : d ≤ 0 ∨ modeB m = false) :
    Calls Tryd.prog 132 #[.int .i64 n, .int .i64 d, .int .i64 m] w fun e w' => e = .returned (.tuple #[.int .i64 0, .int .i64 1]) ∧ w = w' := by
  by_cases hd : d ≤ 0
  · go_enter Tryd.func132, Tryd.ntmps132
    go_wp2
    go_ret2
    exact ⟨rfl, rfl⟩
  · have hm : modeB m = false := h.resolve_left hd
    have hc := mode_b m false hm
    clear h hm
    have hd0 : 0 < d := by omega
    clear hd
    go_enter Tryd.func132, Tryd.ntmps132
    go_wp2_with (go_at_call 136; refine (hc _).mono ?_; rintro e w' ⟨rfl, rfl⟩)
    go_ret2
    exact ⟨rfl, rfl⟩
set_option maxHeartbeats 400000 in
/-- Round where it rounds -/
theorem round_ok (n d m : Int) (w : World) (hn : -9223372036854775808 ≤ n) (hn' : n ≤ 9223372036854775807) (hd : 1 ≤ d) (hd' : d ≤ 9223372036854775807) (hm : modeB m = true) :
    Calls Tryd.prog 132 #[.int .i64 n, .int .i64 d, .int .i64 m] w fun e w' => e = .returned (.tuple #[.int .i64 (rnd n d m), .int .i64 0]) ∧ ∃ k, w' = w.drewN k := by
  have hc := mode_b m true hm
  have hs := fun w => split_any n d w hn hn' hd hd'
  have hd0 : 0 < d := by omega
  have c := Int.emod_nonneg n (show d ≠ 0 by omega)
  have c' := Int.emod_lt_of_pos n hd0
  have bq := ediv_bd hd _ _ hn hn' (by omega) (by omega)
  by_cases h0 : 0 < n % d
  · cases hr : rises (n / d) (n % d) d m
    · have hrc := fun w => rises_b _ _ _ _ _ hr w h0 c' hd'
      have hE : rnd n d m = n / d := by simp [rnd, hr]
      have HE := Lib.hid hE
      clear hE hr hm
      go_enter Tryd.func132, Tryd.ntmps132
      go_wp2_with (first
        | (go_at_call 136; refine (hc _).mono ?_; rintro e w' ⟨rfl, rfl⟩)
        | (go_at_call 163; refine (hs _).mono ?_; rintro e w' ⟨rfl, k, rfl⟩)
        | (go_at_call 164; refine (hrc _).mono ?_; rintro e w' ⟨rfl, rfl⟩))
      go_ret2
      exact ⟨ret_ii HE.out.symm rfl, _, rfl⟩
    · have hrc := fun w => rises_b _ _ _ _ _ hr w h0 c' hd'
      have hE : rnd n d m = n / d + 1 := by simp [rnd, hr, h0]
      have hB := rnd_bd (m := m) hd _ _ hn hn' (by omega) (by omega)
      rw [hE] at hB
      have HE := Lib.hid hE
      clear hE hr hm
      go_enter Tryd.func132, Tryd.ntmps132
      go_wp2_with (first
        | (go_at_call 136; refine (hc _).mono ?_; rintro e w' ⟨rfl, rfl⟩)
        | (go_at_call 163; refine (hs _).mono ?_; rintro e w' ⟨rfl, k, rfl⟩)
        | (go_at_call 164; refine (hrc _).mono ?_; rintro e w' ⟨rfl, rfl⟩))
      go_ret2
      exact ⟨ret_ii HE.out.symm rfl, _, rfl⟩
  · have hE : rnd n d m = n / d := by simp [rnd, h0]
    have HE := Lib.hid hE
    have h0' : n % d ≤ 0 := by omega
    clear hE hm h0
    go_enter Tryd.func132, Tryd.ntmps132
    go_wp2_with (first
      | (go_at_call 136; refine (hc _).mono ?_; rintro e w' ⟨rfl, rfl⟩)
      | (go_at_call 163; refine (hs _).mono ?_; rintro e w' ⟨rfl, k, rfl⟩))
    go_ret2
    exact ⟨ret_ii HE.out.symm rfl, _, rfl⟩

theorem exright_any (x : Int) (w : World) : Calls Tryd.prog 131 #[.int .i64 x] w fun e w' => e = .returned (.bool (exB x)) ∧ w = w' := by
  go_enter Tryd.func131, Tryd.ntmps131
  go_wp2
  · go_ret
    exact ⟨ret_b (by simp only [exB]; congr 1; simp; omega), rfl⟩
  · go_ret
    exact ⟨ret_b (by simp only [exB]; simp; omega), rfl⟩
theorem exright_b (x : Int) (b : Bool) (h : exB x = b) (w : World) : Calls Tryd.prog 131 #[.int .i64 x] w fun e w' => e = .returned (.bool b) ∧ w = w' := by
  subst h
  exact exright_any x w
end Go.Proofs.YtffihnbpjcgicaaDoor

/- What the calls of frac answer that take parts, round and scale: Part, Coins, Scale. -/
namespace Go.Proofs.YtffihnbpjcgicaaDoor
open Go.RowKit

theorem part_amt (x r : Int) (w : World) (h : amtB x = false) :
    Calls Tryd.prog 97 #[.int .i64 x, .int .i64 r] w fun e w' => e = .returned (.tuple #[.int .i64 0, .int .i64 10]) ∧ Below w.heap.size w w' := by
  have hc := right1 x w 2 false h
  clear h
  go_enter Tryd.func97, Tryd.ntmps97
  go_wp2_with (go_at_call 42; refine hc.mono ?_; rintro e w' ⟨rfl, rfl⟩)
  go_ret2
  exact ⟨rfl, (Below.refl _ _).alloc (Nat.le_refl _) _⟩
theorem part_rate (x r : Int) (w : World) (h : amtB x = true) (hr : rateB r = false) :
    Calls Tryd.prog 97 #[.int .i64 x, .int .i64 r] w fun e w' => e = .returned (.tuple #[.int .i64 0, .int .i64 50]) ∧ Below w.heap.size w w' := by
  have hc := right1 x w 2 true h
  have hc2 := rate_b r false hr
  clear h hr
  go_enter Tryd.func97, Tryd.ntmps97
  go_wp2_with (first
    | (go_at_call 42; refine hc.mono ?_; rintro e w' ⟨rfl, rfl⟩)
    | (go_at_call 130; refine (hc2 _).mono ?_; rintro e w' ⟨rfl, rfl⟩))
  go_ret2
  exact ⟨rfl, (Below.refl _ _).alloc (Nat.le_refl _) _⟩
set_option maxHeartbeats 1000000 in
theorem part_ok (x r : Int) (w : World) (h : amtB x = true) (hr : rateB r = true) :
    Calls Tryd.prog 97 #[.int .i64 x, .int .i64 r] w fun e w' => e = .returned (.tuple #[.int .i64 (x * r), .int .i64 0]) ∧ Below w.heap.size w w' := by
  have hc := right1 x w 2 true h
  have hc2 := rate_b r true hr
  have hb := amtB_yes h
  have hb2 := rateB_yes hr
  have hm := mul_bd 10000 hb.1 hb.2 hb2.1 hb2.2
  have h1 : -1000000000000000 ≤ x * r := by omega
  have h2 : x * r ≤ 1000000000000000 := by omega
  clear h hr hb hb2 hm
  go_enter Tryd.func97, Tryd.ntmps97
  go_wp2_with (first
    | (go_at_call 42; refine hc.mono ?_; rintro e w' ⟨rfl, rfl⟩)
    | (go_at_call 130; refine (hc2 _).mono ?_; rintro e w' ⟨rfl, rfl⟩))
  go_ret2
  exact ⟨rfl, (Below.refl _ _).alloc (Nat.le_refl _) _⟩
theorem ex_of_part {x r : Int} (h : amtB x = true) (hr : rateB r = true) : exB (x * r) = true := by
  have hb := amtB_yes h
  have hb2 := rateB_yes hr
  have hm := mul_bd 10000 hb.1 hb.2 hb2.1 hb2.2
  exact exB_mk (by omega) (by omega)
theorem coins_ex (x m : Int) (w : World) (h : exB x = false) :
    Calls Tryd.prog 98 #[.int .i64 x, .int .i64 m] w fun e w' => e = .returned (.tuple #[.int .i64 0, .int .i64 10]) ∧ w = w' := by
  have hc := exright_b x false h
  clear h
  go_enter Tryd.func98, Tryd.ntmps98
  go_wp2_with (go_at_call 131; refine (hc _).mono ?_; rintro e w' ⟨rfl, rfl⟩)
  go_ret2
  exact ⟨rfl, rfl⟩
theorem coins_mode (x m : Int) (w : World) (h : exB x = true) (hm : modeB m = false) :
    Calls Tryd.prog 98 #[.int .i64 x, .int .i64 m] w fun e w' => e = .returned (.tuple #[.int .i64 0, .int .i64 1]) ∧ w = w' := by
  have hc := exright_b x true h
  have hr := fun w => round_bad x 10000 m w (.inr hm)
  clear h hm
  go_enter Tryd.func98, Tryd.ntmps98
  go_wp2_with (first
    | (go_at_call 131; refine (hc _).mono ?_; rintro e w' ⟨rfl, rfl⟩)
    | (go_at_call 132; refine (hr _).mono ?_; rintro e w' ⟨rfl, rfl⟩))
  go_ret2
  exact ⟨rfl, rfl⟩
theorem coins_ok (x m : Int) (w : World) (h : exB x = true) (hm : modeB m = true) :
    Calls Tryd.prog 98 #[.int .i64 x, .int .i64 m] w fun e w' => e = .returned (.tuple #[.int .i64 (rnd x 10000 m), .int .i64 0]) ∧ ∃ k, w' = w.drewN k := by
  have hc := exright_b x true h
  have hb := exB_yes h
  have hr := fun w => round_ok x 10000 m w (by omega) (by omega) (by omega) (by omega) hm
  clear h hm hb
  go_enter Tryd.func98, Tryd.ntmps98
  go_wp2_with (first
    | (go_at_call 131; refine (hc _).mono ?_; rintro e w' ⟨rfl, rfl⟩)
    | (go_at_call 132; refine (hr _).mono ?_; rintro e w' ⟨rfl, k, rfl⟩))
  go_ret2
  exact ⟨rfl, _, rfl⟩
theorem scale_amt (x n d : Int) (w : World) (h : amtB x = false) :
    Calls Tryd.prog 191 #[.int .i64 x, .int .i64 n, .int .i64 d] w fun e w' => e = .returned (.tuple #[.int .i64 0, .int .i64 10]) ∧ Below w.heap.size w w' := by
  have hc := right1 x w 2 false h
  clear h
  go_enter Tryd.func191, Tryd.ntmps191
  go_wp2_with (go_at_call 42; refine hc.mono ?_; rintro e w' ⟨rfl, rfl⟩)
  go_ret2
  exact ⟨rfl, (Below.refl _ _).alloc (Nat.le_refl _) _⟩
theorem scale_range (x n d : Int) (w : World) (h : amtB x = true) (hr : n < 0 ∨ 1048576 < n ∨ d < 1 ∨ 1048576 < d) :
    Calls Tryd.prog 191 #[.int .i64 x, .int .i64 n, .int .i64 d] w fun e w' => e = .returned (.tuple #[.int .i64 0, .int .i64 1]) ∧ Below w.heap.size w w' := by
  have hc := right1 x w 2 true h
  clear h
  by_cases h1 : n < 0
  · clear hr
    go_enter Tryd.func191, Tryd.ntmps191
    go_wp2_with (go_at_call 42; refine hc.mono ?_; rintro e w' ⟨rfl, rfl⟩)
    go_ret2
    exact ⟨rfl, (Below.refl _ _).alloc (Nat.le_refl _) _⟩
  · by_cases h2 : 1048576 < n
    · clear hr
      go_enter Tryd.func191, Tryd.ntmps191
      go_wp2_with (go_at_call 42; refine hc.mono ?_; rintro e w' ⟨rfl, rfl⟩)
      go_ret2
      exact ⟨rfl, (Below.refl _ _).alloc (Nat.le_refl _) _⟩
    · by_cases h3 : d < 1
      · clear hr
        go_enter Tryd.func191, Tryd.ntmps191
        go_wp2_with (go_at_call 42; refine hc.mono ?_; rintro e w' ⟨rfl, rfl⟩)
        go_ret2
        exact ⟨rfl, (Below.refl _ _).alloc (Nat.le_refl _) _⟩
      · have h4 : 1048576 < d := by omega
        clear hr
        go_enter Tryd.func191, Tryd.ntmps191
        go_wp2_with (go_at_call 42; refine hc.mono ?_; rintro e w' ⟨rfl, rfl⟩)
        go_ret2
        exact ⟨rfl, (Below.refl _ _).alloc (Nat.le_refl _) _⟩
theorem scale_ok (x n d : Int) (w : World) (h : amtB x = true) (h1 : 0 ≤ n) (h2 : n ≤ 1048576) (h3 : 1 ≤ d) (h4 : d ≤ 1048576) (b : Bool) (hb : amtB (x * n / d) = b) :
    Calls Tryd.prog 191 #[.int .i64 x, .int .i64 n, .int .i64 d] w fun e w' => e = .returned (.tuple #[.int .i64 (if b = true then x * n / d else 0), .int .i64 (if b = true then 0 else 10)]) ∧ Below w.heap.size w w' := by
  have hc := right1 x w 2 true h
  have ha := amtB_yes h
  have hm := mul_bd 1048576 ha.1 ha.2 h1 h2
  have l1 : -9223372036854775808 ≤ x * n := by omega
  have l2 : x * n ≤ 9223372036854775807 := by omega
  have sp := fun w => split_any (x * n) d w l1 l2 h3 (by omega)
  clear h ha hm
  generalize x * n / d = q at *
  generalize x * n % d = r at *
  cases b
  · go_enter Tryd.func191, Tryd.ntmps191
    go_wp2_with (fail)
    refine hc.mono ?_
    rintro e w' ⟨rfl, rfl⟩
    go_wp2_with (fail)
    refine (sp _).mono ?_
    rintro e w' ⟨rfl, k, rfl⟩
    go_wp2_with (fail)
    refine (right_at q _ _ _ false hb ?_).mono ?_
    · simp [go_sem]
    rintro e w' ⟨rfl, rfl⟩
    go_wp2
    go_ret2
    exact ⟨rfl, below_drewN (((Below.refl _ _).alloc (Nat.le_refl _) _).alloc (by simp) _) _⟩
  · go_enter Tryd.func191, Tryd.ntmps191
    go_wp2_with (fail)
    refine hc.mono ?_
    rintro e w' ⟨rfl, rfl⟩
    go_wp2_with (fail)
    refine (sp _).mono ?_
    rintro e w' ⟨rfl, k, rfl⟩
    go_wp2_with (fail)
    refine (right_at q _ _ _ true hb ?_).mono ?_
    · simp [go_sem]
    rintro e w' ⟨rfl, rfl⟩
    go_wp2
    go_ret2
    exact ⟨rfl, below_drewN (((Below.refl _ _).alloc (Nat.le_refl _) _).alloc (by simp) _) _⟩
end Go.Proofs.YtffihnbpjcgicaaDoor
