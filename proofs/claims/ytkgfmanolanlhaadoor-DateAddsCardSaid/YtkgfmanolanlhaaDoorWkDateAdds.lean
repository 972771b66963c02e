/- The walk of DateAdds. -/
import Derived.Test.YtkgfmanolanlhaaDoorWkDateCounts
import Derived.Test.YtkgfmanolanlhaaDoorRefDateB
namespace Go.Proofs.YtkgfmanolanlhaaDoor
open Go.RowKit
set_option linter.unusedVariables false
set_option linter.unusedSimpArgs false
theorem adds_no (y m d k : Int) (h : dayB y m d = false) (w : World) (D : Door w) : Calls Tryd.prog 5 #[.agg #[.int .i64 y, .int .i64 m, .int .i64 d], .int .i64 k] w fun e w' => e = .returned (.bool true) ∧ Below w.heap.size w w' := by
  have had := add_no y m d k h
  have hrn := rnumber_no y m d h
  clear h
  have K0 := hd_box D y m d 23
  obtain ⟨c0, c1, c2⟩ := (K0.2.2 (w.heap.size, y, m, d) (by simp)).1
  go_enter Tryd.func5, Tryd.ntmps5
  clear c0 c1 c2
  go_wp2_with (fail)
  refine (days_any _ K0.1).mono ?_
  rintro e w1 ⟨rfl, hb⟩
  have K1 := K0.step hb
  clear hb K0
  obtain ⟨y0, z0, x0⟩ := (K1.2.2 (w.heap.size, y, m, d) (by simp)).1
  go_wp2_with (fail)
  refine (had _).mono ?_
  rintro e w2 ⟨rfl, hb⟩
  have K2 := K1.step hb
  clear hb K1
  clear y0 z0 x0
  have K3 := K2.add 0 0 0 23
  clear K2
  obtain ⟨y1, z1, x1⟩ := (K3.2.2 (w.heap.size, y, m, d) (by simp)).1
  go_wp2_with (fail)
  refine (hrn _).mono ?_
  rintro e w3 ⟨rfl, hb⟩
  have K4 := K3.step hb
  clear hb K3
  clear y1 z1 x1
  obtain ⟨y2, z2, x2⟩ := (K4.2.2 (w2.heap.size, 0, 0, 0) (by simp)).1
  have BE := K4.2.1
  go_wp2
  go_ret
  exact ⟨rfl, BE⟩
theorem adds_far (y m d k : Int) (h : dayB y m d = true) (hk : -9223372036854775808 ≤ k) (hk' : k ≤ 9223372036854775807) (hf : 200000 < k ∨ k < -200000) (w : World) (D : Door w) : Calls Tryd.prog 5 #[.agg #[.int .i64 y, .int .i64 m, .int .i64 d], .int .i64 k] w fun e w' => e = .returned (.bool true) ∧ Below w.heap.size w w' := by
  obtain ⟨_, _, n0, n1⟩ := num_bd h
  have had := add_out y m d k h hk hk' (by omega)
  have hrn := rnumber_yes y m d h
  generalize num y m d = n at *
  clear h
  have K0 := hd_box D y m d 23
  obtain ⟨c0, c1, c2⟩ := (K0.2.2 (w.heap.size, y, m, d) (by simp)).1
  go_enter Tryd.func5, Tryd.ntmps5
  clear c0 c1 c2
  rcases hf with hf | hf
  all_goals
    go_wp2_with (fail)
    refine (days_any _ K0.1).mono ?_
    rintro e w1 ⟨rfl, hb⟩
    have K1 := K0.step hb
    clear hb K0
    obtain ⟨y0, z0, x0⟩ := (K1.2.2 (w.heap.size, y, m, d) (by simp)).1
    go_wp2_with (fail)
    refine (had _).mono ?_
    rintro e w2 ⟨rfl, hb⟩
    have K2 := K1.step hb
    clear hb K1
    clear y0 z0 x0
    have K3 := K2.add 0 0 0 23
    clear K2
    obtain ⟨y1, z1, x1⟩ := (K3.2.2 (w.heap.size, y, m, d) (by simp)).1
    go_wp2_with (fail)
    refine (hrn _).mono ?_
    rintro e w3 ⟨rfl, hb⟩
    have K4 := K3.step hb
    clear hb K3
    clear y1 z1 x1
    obtain ⟨y2, z2, x2⟩ := (K4.2.2 (w2.heap.size, 0, 0, 0) (by simp)).1
    have BE := K4.2.1
    go_wp2
    go_ret
    exact ⟨rfl, BE⟩
theorem adds_out (y m d k : Int) (h : dayB y m d = true) (hk : -200000 ≤ k) (hk' : k ≤ 200000) (ho : num y m d + k < 0 ∨ 109573 ≤ num y m d + k) (w : World) (D : Door w) : Calls Tryd.prog 5 #[.agg #[.int .i64 y, .int .i64 m, .int .i64 d], .int .i64 k] w fun e w' => e = .returned (.bool true) ∧ Below w.heap.size w w' := by
  obtain ⟨_, _, n0, n1⟩ := num_bd h
  have had := add_out y m d k h (by omega) (by omega) ho
  have hrn := rnumber_yes y m d h
  generalize num y m d = n at *
  clear h
  have hr : ∀ w, Calls Tryd.prog 20 #[.int .i64 (n + k)] w fun e w' => e = .returned (.tuple #[.agg #[.int .i64 0, .int .i64 0, .int .i64 0], .bool false]) ∧ Below w.heap.size w w' := by
    rcases ho with h | h
    · exact rof_neg _ h
    · exact rof_far _ h (by omega)
  have K0 := hd_box D y m d 23
  obtain ⟨c0, c1, c2⟩ := (K0.2.2 (w.heap.size, y, m, d) (by simp)).1
  go_enter Tryd.func5, Tryd.ntmps5
  clear c0 c1 c2
  go_wp2_with (fail)
  refine (days_any _ K0.1).mono ?_
  rintro e w1 ⟨rfl, hb⟩
  have K1 := K0.step hb
  clear hb K0
  obtain ⟨y0, z0, x0⟩ := (K1.2.2 (w.heap.size, y, m, d) (by simp)).1
  go_wp2_with (fail)
  refine (had _).mono ?_
  rintro e w2 ⟨rfl, hb⟩
  have K2 := K1.step hb
  clear hb K1
  clear y0 z0 x0
  have K3 := K2.add 0 0 0 23
  clear K2
  obtain ⟨y1, z1, x1⟩ := (K3.2.2 (w.heap.size, y, m, d) (by simp)).1
  go_wp2_with (fail)
  refine (hrn _).mono ?_
  rintro e w3 ⟨rfl, hb⟩
  have K4 := K3.step hb
  clear hb K3
  clear y1 z1 x1
  go_wp2_with (fail)
  refine (hr _).mono ?_
  rintro e w4 ⟨rfl, hb⟩
  have K5 := K4.step hb
  clear hb K4
  have K6 := K5.add 0 0 0 23
  clear K5
  obtain ⟨y2, z2, x2⟩ := (K6.2.2 (w2.heap.size, 0, 0, 0) (by simp)).1
  have BE := K6.2.1
  go_wp2
  go_ret
  exact ⟨rfl, BE⟩
theorem adds_in (y m d k : Int) (h : dayB y m d = true) (hk : -200000 ≤ k) (hk' : k ≤ 200000) (h0 : 0 ≤ num y m d + k) (h1 : num y m d + k < 109573) (w : World) (D : Door w) : Calls Tryd.prog 5 #[.agg #[.int .i64 y, .int .i64 m, .int .i64 d], .int .i64 k] w fun e w' => e = .returned (.bool true) ∧ Below w.heap.size w w' := by
  obtain ⟨_, _, n0, n1⟩ := num_bd h
  have had := add_yes y m d k h h0 h1
  have hrn := rnumber_yes y m d h
  have hwd := weekday_yes y m d h
  obtain ⟨od, on⟩ := of_bd (num y m d + k) h0 h1
  have hbt := between_yes _ _ _ _ _ _ h od
  have hwe := weekday_yes _ _ _ od
  rw [on] at hbt hwe
  rw [show num y m d + k - num y m d = k by omega] at hbt
  have hr := rof_yes (num y m d + k) h0 h1
  generalize num y m d = n at *
  clear h od on
  have hz : ((wrap64 (((n + k) % 7 - n % 7 - k).tmod 7 + 7)).tmod 7 == 0) = true := by
    have e : (n + k) % 7 - n % 7 - k = 7 * (((n + k) % 7 - n % 7 - k) / 7) := by omega
    rw [e, Int.mul_tmod_right, IntWalk.wrap64_in _ (by omega)]; rfl
  generalize yOf (n + k) = a at *
  generalize mOf (n + k) = b at *
  generalize dOf (n + k) = c at *
  have K0 := hd_box D y m d 23
  obtain ⟨c0, c1, c2⟩ := (K0.2.2 (w.heap.size, y, m, d) (by simp)).1
  go_enter Tryd.func5, Tryd.ntmps5
  clear c0 c1 c2
  go_wp2_with (fail)
  refine (days_any _ K0.1).mono ?_
  rintro e w1 ⟨rfl, hb⟩
  have K1 := K0.step hb
  clear hb K0
  obtain ⟨y0, z0, x0⟩ := (K1.2.2 (w.heap.size, y, m, d) (by simp)).1
  go_wp2_with (fail)
  refine (had _).mono ?_
  rintro e w2 ⟨rfl, hb⟩
  have K2 := K1.step hb
  clear hb K1
  clear y0 z0 x0
  have K3 := K2.add a b c 23
  clear K2
  obtain ⟨y1, z1, x1⟩ := (K3.2.2 (w.heap.size, y, m, d) (by simp)).1
  go_wp2_with (fail)
  refine (hrn _).mono ?_
  rintro e w3 ⟨rfl, hb⟩
  have K4 := K3.step hb
  clear hb K3
  clear y1 z1 x1
  go_wp2_with (fail)
  refine (hr _).mono ?_
  rintro e w4 ⟨rfl, hb⟩
  have K5 := K4.step hb
  clear hb K4
  have K6 := K5.add a b c 23
  clear K5
  obtain ⟨y2, z2, x2⟩ := (K6.2.2 (w.heap.size, y, m, d) (by simp)).1
  obtain ⟨y3, z3, x3⟩ := (K6.2.2 (w2.heap.size, a, b, c) (by simp)).1
  go_wp2_with (fail)
  refine (hbt _).mono ?_
  rintro e w5 ⟨rfl, hb⟩
  have K7 := K6.step hb
  clear hb K6
  clear y2 z2 x2 y3 z3 x3
  obtain ⟨y4, z4, x4⟩ := (K7.2.2 (w.heap.size, y, m, d) (by simp)).1
  go_wp2_with (fail)
  refine (hwd _).mono ?_
  rintro e w6 ⟨rfl, hb⟩
  have K8 := K7.step hb
  clear hb K7
  clear y4 z4 x4
  obtain ⟨y5, z5, x5⟩ := (K8.2.2 (w2.heap.size, a, b, c) (by simp)).1
  go_wp2_with (fail)
  refine (hwe _).mono ?_
  rintro e w7 ⟨rfl, hb⟩
  have K9 := K8.step hb
  clear hb K8
  clear y5 z5 x5
  obtain ⟨y6, z6, x6⟩ := (K9.2.2 (w2.heap.size, a, b, c) (by simp)).1
  obtain ⟨y7, z7, x7⟩ := (K9.2.2 (w4.heap.size, a, b, c) (by simp)).1
  have BE := K9.2.1
  go_wp2
  go_ret
  exact ⟨rfl, BE⟩
theorem wDateAdds (y m d k : Int) (w : World) (D : Door w) (_bx : -9223372036854775808 ≤ y ∧ y ≤ 9223372036854775807) (_by : -9223372036854775808 ≤ m ∧ m ≤ 9223372036854775807) (_bz : -9223372036854775808 ≤ d ∧ d ≤ 9223372036854775807) (by1 : -9223372036854775808 ≤ k) (by2 : k ≤ 9223372036854775807) : Calls Tryd.prog 5 #[.agg #[.int .i64 y, .int .i64 m, .int .i64 d], .int .i64 k] w fun e w' => e = .returned (.bool true) ∧ Below w.heap.size w w' := by
  cases h : dayB y m d
  · exact adds_no y m d k h w D
  · by_cases hf : 200000 < k ∨ k < -200000
    · exact adds_far y m d k h by1 by2 hf w D
    · by_cases ho : num y m d + k < 0 ∨ 109573 ≤ num y m d + k
      · exact adds_out y m d k h (by omega) (by omega) ho w D
      · exact adds_in y m d k h (by omega) (by omega) (by omega) (by omega) w D
end Go.Proofs.YtkgfmanolanlhaaDoor
