/- What the document's own calls answer that tell days: Long, Month, Right, Number. -/
import Derived.Test.YtkgfmanolanlhaaDoorDateE
namespace Go.Proofs.YtkgfmanolanlhaaDoor
open Go.RowKit
set_option linter.unusedVariables false
set_option linter.unusedSimpArgs false

theorem long_any (y : Int) (h : 1 ≤ y) (h' : y ≤ 9999) (w : World) : Calls Tryd.prog 29 #[.int .i64 y] w fun e w' => e = .returned (.int .i64 (365 + lp y)) ∧ w = w' := by
  by_cases h4 : y % 400 = 0
  · have e : lp y = 1 := by unfold lp; rw [if_pos (by omega)]
    rw [e]
    have e4 : (y % 400 == 0) = true := by simpa using h4
    clear h4 e
    go_enter Tryd.func29, Tryd.ntmps29
    go_wp2
    go_ret
    exact ⟨rfl, rfl⟩
  have e4 : (y % 400 == 0) = false := by simpa using h4
  by_cases h1 : y % 4 = 0
  · have e1 : (y % 4 == 0) = true := by simpa using h1
    by_cases h2 : y % 100 = 0
    · have e : lp y = 0 := by unfold lp; rw [if_neg (by omega)]
      rw [e]
      have e2 : (y % 100 != 0) = false := by simpa using h2
      clear h4 h1 h2 e
      go_enter Tryd.func29, Tryd.ntmps29
      go_wp2
      go_ret
      exact ⟨rfl, rfl⟩
    · have e : lp y = 1 := by unfold lp; rw [if_pos (by omega)]
      rw [e]
      have e2 : (y % 100 != 0) = true := by simpa using h2
      clear h4 h1 h2 e
      go_enter Tryd.func29, Tryd.ntmps29
      go_wp2
      go_ret
      exact ⟨rfl, rfl⟩
  · have e : lp y = 0 := by unfold lp; rw [if_neg (by omega)]
    rw [e]
    have e1 : (y % 4 == 0) = false := by simpa using h1
    clear h4 h1 e
    go_enter Tryd.func29, Tryd.ntmps29
    go_wp2
    go_ret
    exact ⟨rfl, rfl⟩

theorem month_no (y m : Int) (h : y < 1900 ∨ 2199 < y ∨ m < 1 ∨ 12 < m) (w : World) : Calls Tryd.prog 17 #[.int .i64 y, .int .i64 m] w fun e w' => e = .returned (.int .i64 (lastM y m)) ∧ Below w.heap.size w w' := by
  have e : lastM y m = 0 := by unfold lastM; rw [if_neg (by omega)]
  rw [e]
  clear e
  by_cases h0 : m < 1
  · clear h
    go_enter Tryd.func17, Tryd.ntmps17
    go_wp2
    go_ret
    exact ⟨rfl, Below.refl _ _⟩
  by_cases h1 : 12 < m
  · clear h
    go_enter Tryd.func17, Tryd.ntmps17
    go_wp2
    go_ret
    exact ⟨rfl, Below.refl _ _⟩
  by_cases h2 : y < 1900
  · clear h
    go_enter Tryd.func17, Tryd.ntmps17
    go_wp2
    go_ret
    exact ⟨rfl, Below.refl _ _⟩
  have h9 : 2199 < y := by omega
  clear h
  go_enter Tryd.func17, Tryd.ntmps17
  go_wp2
  go_ret
  exact ⟨rfl, Below.refl _ _⟩
set_option maxRecDepth 100000 in
set_option maxHeartbeats 4000000 in
theorem month_yes (y m : Int) (h : 1900 ≤ y) (h' : y ≤ 2199) (h1 : 1 ≤ m) (h1' : m ≤ 12) (w : World) : Calls Tryd.prog 17 #[.int .i64 y, .int .i64 m] w fun e w' => e = .returned (.int .i64 (lastM y m)) ∧ Below w.heap.size w w' := by
  have e : lastM y m = ml y m := by unfold lastM; rw [if_pos (by omega)]
  rw [e]
  clear e
  have hc := long_any y (by omega) (by omega)
  have hl := lp_01 y
  have hm := month_cases h1 h1'
  clear h1 h1'
  rcases hm with rfl | rfl | rfl | rfl | rfl | rfl | rfl | rfl | rfl | rfl | rfl | rfl
  · go_enter Tryd.func17, Tryd.ntmps17
    go_wp2_with (fail)
    refine (hc _).mono ?_
    rintro e w' ⟨rfl, rfl⟩
    go_wp2
    go_ret
    exact ⟨ret_i (by simp [ml]; try omega), (Below.refl _ _).alloc (Nat.le_refl _) _⟩
  · go_enter Tryd.func17, Tryd.ntmps17
    go_wp2_with (fail)
    refine (hc _).mono ?_
    rintro e w' ⟨rfl, rfl⟩
    go_wp2
    go_ret
    exact ⟨ret_i (by simp [ml]; try omega), (Below.refl _ _).alloc (Nat.le_refl _) _⟩
  · go_enter Tryd.func17, Tryd.ntmps17
    go_wp2_with (fail)
    refine (hc _).mono ?_
    rintro e w' ⟨rfl, rfl⟩
    go_wp2
    go_ret
    exact ⟨ret_i (by simp [ml]; try omega), (Below.refl _ _).alloc (Nat.le_refl _) _⟩
  · go_enter Tryd.func17, Tryd.ntmps17
    go_wp2_with (fail)
    refine (hc _).mono ?_
    rintro e w' ⟨rfl, rfl⟩
    go_wp2
    go_ret
    exact ⟨ret_i (by simp [ml]; try omega), (Below.refl _ _).alloc (Nat.le_refl _) _⟩
  · go_enter Tryd.func17, Tryd.ntmps17
    go_wp2_with (fail)
    refine (hc _).mono ?_
    rintro e w' ⟨rfl, rfl⟩
    go_wp2
    go_ret
    exact ⟨ret_i (by simp [ml]; try omega), (Below.refl _ _).alloc (Nat.le_refl _) _⟩
  · go_enter Tryd.func17, Tryd.ntmps17
    go_wp2_with (fail)
    refine (hc _).mono ?_
    rintro e w' ⟨rfl, rfl⟩
    go_wp2
    go_ret
    exact ⟨ret_i (by simp [ml]; try omega), (Below.refl _ _).alloc (Nat.le_refl _) _⟩
  · go_enter Tryd.func17, Tryd.ntmps17
    go_wp2_with (fail)
    refine (hc _).mono ?_
    rintro e w' ⟨rfl, rfl⟩
    go_wp2
    go_ret
    exact ⟨ret_i (by simp [ml]; try omega), (Below.refl _ _).alloc (Nat.le_refl _) _⟩
  · go_enter Tryd.func17, Tryd.ntmps17
    go_wp2_with (fail)
    refine (hc _).mono ?_
    rintro e w' ⟨rfl, rfl⟩
    go_wp2
    go_ret
    exact ⟨ret_i (by simp [ml]; try omega), (Below.refl _ _).alloc (Nat.le_refl _) _⟩
  · go_enter Tryd.func17, Tryd.ntmps17
    go_wp2_with (fail)
    refine (hc _).mono ?_
    rintro e w' ⟨rfl, rfl⟩
    go_wp2
    go_ret
    exact ⟨ret_i (by simp [ml]; try omega), (Below.refl _ _).alloc (Nat.le_refl _) _⟩
  · go_enter Tryd.func17, Tryd.ntmps17
    go_wp2_with (fail)
    refine (hc _).mono ?_
    rintro e w' ⟨rfl, rfl⟩
    go_wp2
    go_ret
    exact ⟨ret_i (by simp [ml]; try omega), (Below.refl _ _).alloc (Nat.le_refl _) _⟩
  · go_enter Tryd.func17, Tryd.ntmps17
    go_wp2_with (fail)
    refine (hc _).mono ?_
    rintro e w' ⟨rfl, rfl⟩
    go_wp2
    go_ret
    exact ⟨ret_i (by simp [ml]; try omega), (Below.refl _ _).alloc (Nat.le_refl _) _⟩
  · go_enter Tryd.func17, Tryd.ntmps17
    go_wp2_with (fail)
    refine (hc _).mono ?_
    rintro e w' ⟨rfl, rfl⟩
    go_wp2
    go_ret
    exact ⟨ret_i (by simp [ml]; try omega), (Below.refl _ _).alloc (Nat.le_refl _) _⟩
theorem month_any (y m : Int) (w : World) : Calls Tryd.prog 17 #[.int .i64 y, .int .i64 m] w fun e w' => e = .returned (.int .i64 (lastM y m)) ∧ Below w.heap.size w w' := by
  by_cases h : y < 1900 ∨ 2199 < y ∨ m < 1 ∨ 12 < m
  · exact month_no y m h w
  · exact month_yes y m (by omega) (by omega) (by omega) (by omega) w

set_option maxHeartbeats 1000000 in
theorem rright_any (y m d : Int) (w : World) : Calls Tryd.prog 26 #[.agg #[.int .i64 y, .int .i64 m, .int .i64 d]] w fun e w' => e = .returned (.bool (dayB y m d)) ∧ Below w.heap.size w w' := by
  by_cases hd : 1 ≤ d
  · have e : dayB y m d = decide (d ≤ lastM y m) := by unfold dayB; congr 1; rw [eq_iff_iff]; omega
    rw [e]
    clear e
    generalize hv : lastM y m = v
    have hc : ∀ W, Calls Tryd.prog 17 #[.int .i64 y, .int .i64 m] W fun e w' => e = .returned (.int .i64 v) ∧ Below W.heap.size W w' := by subst hv; exact month_any y m
    clear hv
    go_enter Tryd.func26, Tryd.ntmps26
    go_wp2
    go_region_held3 (fun w' => w'.cell? ⟨w.heap.size, 0, none⟩ = some (.int .i64 y) ∧ w'.cell? ⟨w.heap.size, 1, none⟩ = some (.int .i64 m) ∧ w'.cell? ⟨w.heap.size, 2, none⟩ = some (.int .i64 d) ∧ Below w.heap.size w w' ∧ w.heap.size < w'.heap.size) ((first | exact sd_start _ _ _ _ _ | exact sd_step hb (by assumption)))
      (first | (go_at_call 17; refine (hc _).mono ?_; rintro e w' ⟨rfl, hb⟩))
    rename_i hH
    obtain ⟨_, _, _, hq, _⟩ := hH
    go_wp2
    go_ret
    exact ⟨rfl, hq⟩
  · have e : dayB y m d = false := by unfold dayB; rw [decide_eq_false_iff_not]; omega
    rw [e]
    clear e
    have hd2 : decide (1 ≤ d) = false := by simpa using hd
    go_enter Tryd.func26, Tryd.ntmps26
    go_wp2
    go_quiet (fail)
    go_wp2
    go_ret
    exact ⟨rfl, below_dn ((Below.refl _ _).alloc (Nat.le_refl _) _) _⟩
theorem rright_b (y m d : Int) (b : Bool) (h : dayB y m d = b) (w : World) : Calls Tryd.prog 26 #[.agg #[.int .i64 y, .int .i64 m, .int .i64 d]] w fun e w' => e = .returned (.bool b) ∧ Below w.heap.size w w' := by
  subst h
  exact rright_any y m d w
theorem rnumber_no (y m d : Int) (h : dayB y m d = false) (w : World) : Calls Tryd.prog 14 #[.agg #[.int .i64 y, .int .i64 m, .int .i64 d]] w fun e w' => e = .returned (.int .i64 (-1)) ∧ Below w.heap.size w w' := by
  have hc := rright_b y m d false h
  clear h
  go_enter Tryd.func14, Tryd.ntmps14
  go_wp2_with (fail)
  refine (hc _).mono ?_
  rintro e w' ⟨rfl, hb⟩
  go_wp2
  go_ret
  exact ⟨rfl, below_step ((Below.refl _ _).alloc (Nat.le_refl _) _) hb (by simp)⟩
set_option maxRecDepth 100000 in
set_option maxHeartbeats 1000000 in
theorem rnumber_yes (y m d : Int) (h : dayB y m d = true) (w : World) : Calls Tryd.prog 14 #[.agg #[.int .i64 y, .int .i64 m, .int .i64 d]] w fun e w' => e = .returned (.int .i64 (num y m d)) ∧ Below w.heap.size w w' := by
  have hc := rright_b y m d true h
  obtain ⟨h1, h2, h3, h4, h5, h6⟩ := dayB_yes h
  have h7 := (ml_bd y m).2
  clear h
  have hday := day_new w y m d 23
  go_enter Tryd.func14, Tryd.ntmps14
  go_wp2_with (fail)
  refine (hc _).mono ?_
  rintro e w1 ⟨rfl, hb⟩
  obtain ⟨c0, c1, c2⟩ := Day.below hday hb (by simp)
  have hz1 : w.heap.size < w1.heap.size := by have := hb.size; simp at this; omega
  have hB1 : Below w.heap.size w w1 := below_step ((Below.refl _ _).alloc (Nat.le_refl _) _) hb (by simp)
  clear hday hb hc
  go_wp2
  go_loop [3, 4] (fun n i => ∃ k : Int, 1900 ≤ k ∧ k ≤ y ∧ i = .int .i64 k ∧ n = .int .i64 (d - 1 + ahd k)) (fun _ i => (y - intOf i).toNat)
  case atStart => exact ⟨1900, by omega, by omega, rfl, by rw [ahd_first]; simp⟩
  case round =>
    obtain ⟨k, hk, hk', rfl, rfl⟩ := hrel
    have hab := ahd_bd k (by omega) (by omega)
    have hlk := lp_01 k
    by_cases hlt : k < y
    · have HS := Lib.hid (ahd_succ k)
      have hg := long_any k (by omega) (by omega)
      generalize ahd k = a at *
      generalize lp k = l at *
      go_wp2_with (fail)
      refine (hg _).mono ?_
      rintro e w' ⟨rfl, rfl⟩
      go_wp2
      go_round
      case rel => exact ⟨k + 1, by omega, by omega, rfl, by rw [HS.out]; go_num⟩
      case measure => simp [intOf]; omega
    · obtain rfl : k = y := by omega
      go_wp2
      go_loopw [3, 5] (fun n i wr => ∃ j : Int, 1 ≤ j ∧ j ≤ m ∧ i = .int .i64 j ∧ n = .int .i64 (d - 1 + ahd k + cum k j) ∧ Below w.heap.size w wr ∧ Day wr w.heap.size k m d ∧ w.heap.size < wr.heap.size) (fun _ i _ => (m - intOf i).toNat)
      case atStart => exact ⟨1, by omega, by omega, rfl, by rw [cum_one]; simp, hB1, ⟨c0, c1, c2⟩, hz1⟩
      case round =>
        obtain ⟨j, hj, hj', rfl, rfl, hBw, hD, hzw⟩ := hrel
        have hDk := hD
        obtain ⟨e0, e1, e2⟩ := hD
        have hcu := cum_bd k j (by omega) (by omega)
        have hmu := ml_bd k j
        by_cases hlj : j < m
        · have HS := Lib.hid (cum_succ k j (by omega) (by omega))
          have hg := month_any k j
          rw [show lastM k j = ml k j by unfold lastM; rw [if_pos (by omega)]] at hg
          generalize ml k j = u at *
          generalize cum k j = c at *
          generalize ahd k = a at *
          go_wp2_with (fail)
          refine (hg _).mono ?_
          rintro e w3 ⟨rfl, hb⟩
          have hD3 := hDk.below hb hzw
          have hB3 := below_step hBw hb (by omega)
          have hz3 : w.heap.size < w3.heap.size := by have := hb.size; omega
          clear hb hDk hBw
          go_wp2
          go_roundw
          case rel => exact ⟨j + 1, by omega, by omega, rfl, by rw [HS.out]; go_num, hB3, hD3, hz3⟩
          case measure => simp [intOf]; omega
        · obtain rfl : j = m := by omega
          go_wp2
          go_ret
          exact ⟨ret_i (by unfold num; omega), hBw⟩
end Go.Proofs.YtkgfmanolanlhaaDoor
