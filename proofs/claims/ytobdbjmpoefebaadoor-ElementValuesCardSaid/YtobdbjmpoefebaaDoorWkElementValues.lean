/- ElementValues: what an element is worth, or why it is refused. -/
import Derived.Test.YtobdbjmpoefebaaDoorEltJ
namespace Go.Proofs.YtobdbjmpoefebaaDoor
open Go.RowKit
set_option linter.unusedVariables false
set_option linter.unusedSimpArgs false

theorem near4 (p : Int) : 2 * (100 * rnd p 100 4 - p) ≤ 100 ∧ 2 * (p - 100 * rnd p 100 4) ≤ 100 := by
  have e := Int.mul_ediv_add_emod p 100
  have b := Int.emod_nonneg p (show (100 : Int) ≠ 0 by omega)
  have b2 := Int.emod_lt_of_pos p (show (0 : Int) < 100 by omega)
  unfold rnd rises
  generalize p / 100 = q at *
  generalize p % 100 = r at *
  rw [if_neg (show ¬ (4 : Int) = 1 by omega), if_neg (show ¬ (4 : Int) = 2 by omega), if_neg (show ¬ (4 : Int) = 3 by omega), if_pos (show (4 : Int) = 4 from rfl)]
  by_cases h : r = 100 - r
  · rw [if_pos h]
    split <;> omega
  · rw [if_neg h]
    split
    · rename_i hh
      have := hh.2
      simp only [decide_eq_true_eq] at this
      omega
    · rename_i hh
      simp only [decide_eq_true_eq, not_and] at hh
      by_cases h0 : 0 < r
      · have := hh h0; omega
      · omega
set_option maxHeartbeats 4000000 in
set_option maxRecDepth 100000 in
theorem wElementValues (N : ByteArray) (a u : Int) (w : World) (htab : Tab w) (zN : N.size ≤ 140737488355328) (ba : -9223372036854775808 ≤ a ∧ a ≤ 9223372036854775807) (bu : -9223372036854775808 ≤ u ∧ u ≤ 9223372036854775807) :
    Calls Tryd.prog 4 #[.agg #[.string N, .int .i64 a, .int .i64 u]] w fun e w' => e = .returned (.bool true) ∧ Below w.heap.size w w' := by
  have x0 := trip_new w (.string N) (.int .i64 a) (.int .i64 u) 45
  have b0 := below_new w (.cells #[.string N, .int .i64 a, .int .i64 u] 45)
  have T0 := htab.below b0
  have wo := fun w h => worths_any w h
  have va := fun w => value_any N a u w
  obtain ⟨ba1, ba2⟩ := ba
  obtain ⟨bu1, bu2⟩ := bu
  cases h1 : amtB a
  · have e0 : valE a u = 10 := by unfold valE; rw [if_pos h1]
    have e1 : valV a u = 0 := by unfold valV; rw [e0]; rfl
    rw [e0, e1] at va
    have hh := amtB_no h1
    clear e0 e1 h1
    rcases hh with hh | hh
    · have t0 : ¬ 100000000000 < a := by omega
      go_enter Tryd.func4, Tryd.ntmps4
      go_wp2_with (fail)
      generalize w.alloc (.cells #[.string N, .int .i64 a, .int .i64 u] 45) = w1 at *
      refine (wo _ T0).mono ?_
      rintro e w2 ⟨rfl, hb⟩
      have x2 := x0.below hb
      have B2 := below_step b0 hb b0.size
      have c0 : w2.cell? ⟨w.heap.size, 0, none⟩ = some (.string N) := x2.cell (by omega)
      have c1 : w2.cell? ⟨w.heap.size, 1, none⟩ = some (.int .i64 a) := x2.cell (by omega)
      have c2 : w2.cell? ⟨w.heap.size, 2, none⟩ = some (.int .i64 u) := x2.cell (by omega)
      go_wp2_with (fail)
      refine (va _).mono ?_
      rintro e w3 ⟨rfl, hb3⟩
      have B3 := below_step B2 hb3 B2.size
      have d0 := cell_later hb3 c0
      have d1 := cell_later hb3 c1
      have d2 := cell_later hb3 c2
      clear c0 c1 c2 hb hb3 B2 x0 x2 b0 T0 htab wo va
      go_wp2
      go_ret
      exact ⟨rfl, B3⟩
    · go_enter Tryd.func4, Tryd.ntmps4
      go_wp2_with (fail)
      generalize w.alloc (.cells #[.string N, .int .i64 a, .int .i64 u] 45) = w1 at *
      refine (wo _ T0).mono ?_
      rintro e w2 ⟨rfl, hb⟩
      have x2 := x0.below hb
      have B2 := below_step b0 hb b0.size
      have c0 : w2.cell? ⟨w.heap.size, 0, none⟩ = some (.string N) := x2.cell (by omega)
      have c1 : w2.cell? ⟨w.heap.size, 1, none⟩ = some (.int .i64 a) := x2.cell (by omega)
      have c2 : w2.cell? ⟨w.heap.size, 2, none⟩ = some (.int .i64 u) := x2.cell (by omega)
      go_wp2_with (fail)
      refine (va _).mono ?_
      rintro e w3 ⟨rfl, hb3⟩
      have B3 := below_step B2 hb3 B2.size
      have d0 := cell_later hb3 c0
      have d1 := cell_later hb3 c1
      have d2 := cell_later hb3 c2
      clear c0 c1 c2 hb hb3 B2 x0 x2 b0 T0 htab wo va
      go_wp2
      go_ret
      exact ⟨rfl, B3⟩
  · obtain ⟨a1, a2⟩ := amtB_yes h1
    cases h2 : oftB u
    · have e0 : valE a u = 1 := by unfold valE; rw [if_neg (by rw [h1]; decide), if_pos h2]
      have e1 : valV a u = 0 := by unfold valV; rw [e0]; rfl
      rw [e0, e1] at va
      have hh := oftB_no h2
      clear e0 e1 h1 h2
      rcases hh with hh | hh
      · go_enter Tryd.func4, Tryd.ntmps4
        go_wp2_with (fail)
        generalize w.alloc (.cells #[.string N, .int .i64 a, .int .i64 u] 45) = w1 at *
        refine (wo _ T0).mono ?_
        rintro e w2 ⟨rfl, hb⟩
        have x2 := x0.below hb
        have B2 := below_step b0 hb b0.size
        have c0 : w2.cell? ⟨w.heap.size, 0, none⟩ = some (.string N) := x2.cell (by omega)
        have c1 : w2.cell? ⟨w.heap.size, 1, none⟩ = some (.int .i64 a) := x2.cell (by omega)
        have c2 : w2.cell? ⟨w.heap.size, 2, none⟩ = some (.int .i64 u) := x2.cell (by omega)
        go_wp2_with (fail)
        refine (va _).mono ?_
        rintro e w3 ⟨rfl, hb3⟩
        have B3 := below_step B2 hb3 B2.size
        have d0 := cell_later hb3 c0
        have d1 := cell_later hb3 c1
        have d2 := cell_later hb3 c2
        clear c0 c1 c2 hb hb3 B2 x0 x2 b0 T0 htab wo va
        go_wp2
        go_ret
        exact ⟨rfl, B3⟩
      · have t0 : ¬ u < 0 := by omega
        go_enter Tryd.func4, Tryd.ntmps4
        go_wp2_with (fail)
        generalize w.alloc (.cells #[.string N, .int .i64 a, .int .i64 u] 45) = w1 at *
        refine (wo _ T0).mono ?_
        rintro e w2 ⟨rfl, hb⟩
        have x2 := x0.below hb
        have B2 := below_step b0 hb b0.size
        have c0 : w2.cell? ⟨w.heap.size, 0, none⟩ = some (.string N) := x2.cell (by omega)
        have c1 : w2.cell? ⟨w.heap.size, 1, none⟩ = some (.int .i64 a) := x2.cell (by omega)
        have c2 : w2.cell? ⟨w.heap.size, 2, none⟩ = some (.int .i64 u) := x2.cell (by omega)
        go_wp2_with (fail)
        refine (va _).mono ?_
        rintro e w3 ⟨rfl, hb3⟩
        have B3 := below_step B2 hb3 B2.size
        have d0 := cell_later hb3 c0
        have d1 := cell_later hb3 c1
        have d2 := cell_later hb3 c2
        clear c0 c1 c2 hb hb3 B2 x0 x2 b0 T0 htab wo va
        go_wp2
        go_ret
        exact ⟨rfl, B3⟩
    · obtain ⟨u1, u2⟩ := oftB_yes h2
      obtain ⟨p1, p2⟩ := mul_bd 100000 a1 a2 u1 u2
      have ro := fun w => round_ok (a * u) 100 4 w (by omega) (by omega) (by omega) (by omega) rfl
      obtain ⟨n1, n2⟩ := near4 (a * u)
      have vb := rnd_bd (n := a * u) (d := 100) (m := 4) (by omega) (-10000000000000000) 10000000000000000 (by omega) (by omega) (by omega) (by omega)
      obtain ⟨v1, v2⟩ := vb
      cases h3 : amtB (hal a u)
      · have e0 : valE a u = 10 := by unfold valE; rw [if_neg (by rw [h1]; decide), if_neg (by rw [h2]; decide), if_pos h3]
        have e1 : valV a u = 0 := by unfold valV; rw [e0]; rfl
        rw [e0, e1] at va
        have hh := amtB_no h3
        unfold hal at hh
        clear e0 e1 h1 h2 h3
        generalize rnd (a * u) 100 4 = v at *
        rcases hh with hh | hh
        · have t0 : ¬ 100000000000 < v := by omega
          go_enter Tryd.func4, Tryd.ntmps4
          go_wp2_with (fail)
          generalize w.alloc (.cells #[.string N, .int .i64 a, .int .i64 u] 45) = w1 at *
          refine (wo _ T0).mono ?_
          rintro e w2 ⟨rfl, hb⟩
          have x2 := x0.below hb
          have B2 := below_step b0 hb b0.size
          have c0 : w2.cell? ⟨w.heap.size, 0, none⟩ = some (.string N) := x2.cell (by omega)
          have c1 : w2.cell? ⟨w.heap.size, 1, none⟩ = some (.int .i64 a) := x2.cell (by omega)
          have c2 : w2.cell? ⟨w.heap.size, 2, none⟩ = some (.int .i64 u) := x2.cell (by omega)
          go_wp2_with (fail)
          refine (va _).mono ?_
          rintro e w3 ⟨rfl, hb3⟩
          have B3 := below_step B2 hb3 B2.size
          have d0 := cell_later hb3 c0
          have d1 := cell_later hb3 c1
          have d2 := cell_later hb3 c2
          clear c0 c1 c2 hb hb3 B2 x0 x2 b0 T0 htab wo va
          go_wp2_with (fail)
          refine (ro _).mono ?_
          rintro e w4 ⟨rfl, k, rfl⟩
          go_wp2
          go_ret
          exact ⟨rfl, below_drewN B3 _⟩
        · go_enter Tryd.func4, Tryd.ntmps4
          go_wp2_with (fail)
          generalize w.alloc (.cells #[.string N, .int .i64 a, .int .i64 u] 45) = w1 at *
          refine (wo _ T0).mono ?_
          rintro e w2 ⟨rfl, hb⟩
          have x2 := x0.below hb
          have B2 := below_step b0 hb b0.size
          have c0 : w2.cell? ⟨w.heap.size, 0, none⟩ = some (.string N) := x2.cell (by omega)
          have c1 : w2.cell? ⟨w.heap.size, 1, none⟩ = some (.int .i64 a) := x2.cell (by omega)
          have c2 : w2.cell? ⟨w.heap.size, 2, none⟩ = some (.int .i64 u) := x2.cell (by omega)
          go_wp2_with (fail)
          refine (va _).mono ?_
          rintro e w3 ⟨rfl, hb3⟩
          have B3 := below_step B2 hb3 B2.size
          have d0 := cell_later hb3 c0
          have d1 := cell_later hb3 c1
          have d2 := cell_later hb3 c2
          clear c0 c1 c2 hb hb3 B2 x0 x2 b0 T0 htab wo va
          go_wp2_with (fail)
          refine (ro _).mono ?_
          rintro e w4 ⟨rfl, k, rfl⟩
          go_wp2
          go_ret
          exact ⟨rfl, below_drewN B3 _⟩
      · have e0 : valE a u = 0 := by unfold valE; rw [if_neg (by rw [h1]; decide), if_neg (by rw [h2]; decide), if_neg (by rw [h3]; decide)]
        have e1 : valV a u = hal a u := by unfold valV; rw [e0]; rfl
        rw [e0, e1] at va
        obtain ⟨q1, q2⟩ := amtB_yes h3
        unfold hal at va q1 q2
        clear e0 e1 h1 h2 h3
        generalize rnd (a * u) 100 4 = v at *
        have t0 : ¬ (100000000000 : Int) < a := by omega
        have s0 : decide ((100000000000 : Int) < a) = false := by rw [decide_eq_false_iff_not]; exact t0
        have t1 : ¬ (a : Int) < -100000000000 := by omega
        have s1 : decide ((a : Int) < -100000000000) = false := by rw [decide_eq_false_iff_not]; exact t1
        have t2 : ¬ (u : Int) < 0 := by omega
        have s2 : decide ((u : Int) < 0) = false := by rw [decide_eq_false_iff_not]; exact t2
        have t3 : ¬ (100000 : Int) < u := by omega
        have s3 : decide ((100000 : Int) < u) = false := by rw [decide_eq_false_iff_not]; exact t3
        have t4 : ¬ (100000000000 : Int) < v := by omega
        have s4 : decide ((100000000000 : Int) < v) = false := by rw [decide_eq_false_iff_not]; exact t4
        have t5 : ¬ (v : Int) < -100000000000 := by omega
        have s5 : decide ((v : Int) < -100000000000) = false := by rw [decide_eq_false_iff_not]; exact t5
        go_enter Tryd.func4, Tryd.ntmps4
        go_wp2_with (fail)
        generalize w.alloc (.cells #[.string N, .int .i64 a, .int .i64 u] 45) = w1 at *
        refine (wo _ T0).mono ?_
        rintro e w2 ⟨rfl, hb⟩
        have x2 := x0.below hb
        have B2 := below_step b0 hb b0.size
        have c0 : w2.cell? ⟨w.heap.size, 0, none⟩ = some (.string N) := x2.cell (by omega)
        have c1 : w2.cell? ⟨w.heap.size, 1, none⟩ = some (.int .i64 a) := x2.cell (by omega)
        have c2 : w2.cell? ⟨w.heap.size, 2, none⟩ = some (.int .i64 u) := x2.cell (by omega)
        go_wp2_with (fail)
        refine (va _).mono ?_
        rintro e w3 ⟨rfl, hb3⟩
        have B3 := below_step B2 hb3 B2.size
        have d0 := cell_later hb3 c0
        have d1 := cell_later hb3 c1
        have d2 := cell_later hb3 c2
        clear c0 c1 c2 hb hb3 B2 x0 x2 b0 T0 htab wo va
        go_wp2_with (fail)
        refine (ro _).mono ?_
        rintro e w4 ⟨rfl, k, rfl⟩
        go_wp2
        go_ret
        exact ⟨rfl, below_drewN B3 _⟩
end Go.Proofs.YtobdbjmpoefebaaDoor
