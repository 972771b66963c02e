/- The walk of DateBack. -/
import Derived.Test.YtkgfmanolanlhaaDoorDaysD
import Derived.Test.YtkgfmanolanlhaaDoorRefDateB
namespace Go.Proofs.YtkgfmanolanlhaaDoor
open Go.RowKit
set_option linter.unusedVariables false
set_option linter.unusedSimpArgs false
theorem back_in (n : Int) (h : 0 ≤ n) (h' : n < 109573) (w : World) (D : Door w) : Calls Tryd.prog 4 #[.int .i64 n] w fun e w' => e = .returned (.bool true) ∧ Below w.heap.size w w' := by
  have ho := of_yes n h h'
  have hr := rof_yes n h h'
  obtain ⟨hd, hn⟩ := of_bd n h h'
  have hnum := number_yes _ _ _ hd
  rw [hn] at hnum
  have K0 := HD.nil D
  clear hd hn
  generalize yOf n = a at *
  generalize mOf n = b at *
  generalize dOf n = c at *
  go_enter Tryd.func4, Tryd.ntmps4
  go_wp2_with (fail)
  refine (days_any _ K0.1).mono ?_
  rintro e w1 ⟨rfl, hb⟩
  have K1 := K0.step hb
  clear hb K0
  go_wp2_with (fail)
  refine (ho _).mono ?_
  rintro e w2 ⟨rfl, hb⟩
  have K2 := K1.step hb
  clear hb K1
  have K3 := K2.add a b c 23
  clear K2
  go_wp2_with (fail)
  refine (hr _).mono ?_
  rintro e w3 ⟨rfl, hb⟩
  have K4 := K3.step hb
  clear hb K3
  have K5 := K4.add a b c 23
  clear K4
  obtain ⟨y0, z0, x0⟩ := (K5.2.2 (w2.heap.size, a, b, c) (by simp)).1
  obtain ⟨y1, z1, x1⟩ := (K5.2.2 (w3.heap.size, a, b, c) (by simp)).1
  go_wp2_with (fail)
  refine (hnum _).mono ?_
  rintro e w4 ⟨rfl, hb⟩
  have K6 := K5.step hb
  clear hb K5
  clear y0 z0 x0 y1 z1 x1
  have BE := K6.2.1
  go_wp2
  go_ret
  exact ⟨rfl, BE⟩
theorem back_out (n : Int) (hn : n < 0 ∨ 109573 ≤ n) (hm : n ≤ 9223372036854775807) (w : World) (D : Door w) : Calls Tryd.prog 4 #[.int .i64 n] w fun e w' => e = .returned (.bool true) ∧ Below w.heap.size w w' := by
  have ho := of_no n hn
  have hr : ∀ w, Calls Tryd.prog 20 #[.int .i64 n] w fun e w' => e = .returned (.tuple #[.agg #[.int .i64 0, .int .i64 0, .int .i64 0], .bool false]) ∧ Below w.heap.size w w' := by
    rcases hn with h | h
    · exact rof_neg n h
    · exact rof_far n h hm
  have K0 := HD.nil D
  rcases hn with hn | hn
  all_goals
    go_enter Tryd.func4, Tryd.ntmps4
    go_wp2_with (fail)
    refine (days_any _ K0.1).mono ?_
    rintro e w1 ⟨rfl, hb⟩
    have K1 := K0.step hb
    clear hb K0
    go_wp2_with (fail)
    refine (ho _).mono ?_
    rintro e w2 ⟨rfl, hb⟩
    have K2 := K1.step hb
    clear hb K1
    have K3 := K2.add 0 0 0 23
    clear K2
    go_wp2_with (fail)
    refine (hr _).mono ?_
    rintro e w3 ⟨rfl, hb⟩
    have K4 := K3.step hb
    clear hb K3
    have K5 := K4.add 0 0 0 23
    clear K4
    obtain ⟨y0, z0, x0⟩ := (K5.2.2 (w2.heap.size, 0, 0, 0) (by simp)).1
    obtain ⟨y1, z1, x1⟩ := (K5.2.2 (w3.heap.size, 0, 0, 0) (by simp)).1
    have BE := K5.2.1
    go_wp2
    go_ret
    exact ⟨rfl, BE⟩
theorem wDateBack (n : Int) (w : World) (D : Door w) (h : -9223372036854775808 ≤ n) (h' : n ≤ 9223372036854775807) : Calls Tryd.prog 4 #[.int .i64 n] w fun e w' => e = .returned (.bool true) ∧ Below w.heap.size w w' := by
  by_cases q : 0 ≤ n ∧ n < 109573
  · exact back_in n q.1 q.2 w D
  · exact back_out n (by omega) h' w D
end Go.Proofs.YtkgfmanolanlhaaDoor
