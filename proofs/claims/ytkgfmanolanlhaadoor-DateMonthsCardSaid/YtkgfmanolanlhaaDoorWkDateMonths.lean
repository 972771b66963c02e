/- The walk of DateMonths. -/
import Derived.Test.YtkgfmanolanlhaaDoorWkDateCounts
import Derived.Test.YtkgfmanolanlhaaDoorRefDateC
namespace Go.Proofs.YtkgfmanolanlhaaDoor
open Go.RowKit
set_option linter.unusedVariables false
set_option linter.unusedSimpArgs false
theorem months_far (y m d k : Int) (had : ∀ w, Calls Tryd.prog 23 #[.agg #[.int .i64 y, .int .i64 m, .int .i64 d], .int .i64 k] w fun e w' => e = .returned (.tuple #[.agg #[.int .i64 0, .int .i64 0, .int .i64 0], .int .i64 30]) ∧ Below w.heap.size w w') (hf : 5000 < k ∨ k < -5000) (w : World) (D : Door w) : Calls Tryd.prog 6 #[.agg #[.int .i64 y, .int .i64 m, .int .i64 d], .int .i64 k] w fun e w' => e = .returned (.bool true) ∧ Below w.heap.size w w' := by
  have K0 := hd_box D y m d 23
  obtain ⟨c0, c1, c2⟩ := (K0.2.2 (w.heap.size, y, m, d) (by simp)).1
  go_enter Tryd.func6, Tryd.ntmps6
  clear c0 c1 c2
  rcases hf with hf | hf
  all_goals
    go_wp2_with (fail)
    refine (days_any _ K0.1).mono ?_
    rintro e w1 ⟨rfl, hb⟩
    have K1 := K0.step hb
    clear hb K0
    obtain ⟨y0, z0, x0⟩ := (K1.2.2 (w.heap.size, y, m, d) (by simp)).1
    go_wp2_with (fail)
    refine (had _).mono ?_
    rintro e w2 ⟨rfl, hb⟩
    have K2 := K1.step hb
    clear hb K1
    clear y0 z0 x0
    have K3 := K2.add 0 0 0 23
    clear K2
    obtain ⟨y1, z1, x1⟩ := (K3.2.2 (w2.heap.size, 0, 0, 0) (by simp)).1
    have BE := K3.2.1
    go_wp2
    go_ret
    exact ⟨rfl, BE⟩
theorem months_none (y m d k : Int) (had : ∀ w, Calls Tryd.prog 23 #[.agg #[.int .i64 y, .int .i64 m, .int .i64 d], .int .i64 k] w fun e w' => e = .returned (.tuple #[.agg #[.int .i64 0, .int .i64 0, .int .i64 0], .int .i64 30]) ∧ Below w.heap.size w w') (hk : -5000 ≤ k) (hk' : k ≤ 5000) (hr : ∀ w, Calls Tryd.prog 24 #[.agg #[.int .i64 y, .int .i64 m, .int .i64 d], .int .i64 k] w (RMno w)) (w : World) (D : Door w) : Calls Tryd.prog 6 #[.agg #[.int .i64 y, .int .i64 m, .int .i64 d], .int .i64 k] w fun e w' => e = .returned (.bool true) ∧ Below w.heap.size w w' := by
  have K0 := hd_box D y m d 23
  obtain ⟨c0, c1, c2⟩ := (K0.2.2 (w.heap.size, y, m, d) (by simp)).1
  go_enter Tryd.func6, Tryd.ntmps6
  clear c0 c1 c2
  go_wp2_with (fail)
  refine (days_any _ K0.1).mono ?_
  rintro e w1 ⟨rfl, hb⟩
  have K1 := K0.step hb
  clear hb K0
  obtain ⟨y0, z0, x0⟩ := (K1.2.2 (w.heap.size, y, m, d) (by simp)).1
  go_wp2_with (fail)
  refine (had _).mono ?_
  rintro e w2 ⟨rfl, hb⟩
  have K2 := K1.step hb
  clear hb K1
  clear y0 z0 x0
  have K3 := K2.add 0 0 0 23
  clear K2
  obtain ⟨y1, z1, x1⟩ := (K3.2.2 (w.heap.size, y, m, d) (by simp)).1
  go_wp2_with (fail)
  refine (hr _).mono ?_
  rintro e w3 ⟨s1, s2, s3, rfl, hb⟩
  have K4 := K3.step hb
  clear hb K3
  clear y1 z1 x1
  have K5 := K4.add s1 s2 s3 23
  clear K4
  obtain ⟨y2, z2, x2⟩ := (K5.2.2 (w2.heap.size, 0, 0, 0) (by simp)).1
  have BE := K5.2.1
  go_wp2
  go_ret
  exact ⟨rfl, BE⟩
theorem months_in (y m d k : Int) (h : dayB y m d = true) (hk : -5000 ≤ k) (hk' : k ≤ 5000) (ht : mtB (mt y m k) = true) (w : World) (D : Door w) : Calls Tryd.prog 6 #[.agg #[.int .i64 y, .int .i64 m, .int .i64 d], .int .i64 k] w fun e w' => e = .returned (.bool true) ∧ Below w.heap.size w w' := by
  have had := months_yes y m d k h ht
  have hr := rmonths_yes y m d k h hk hk' ht
  generalize yM (mt y m k) = a at *
  generalize mM (mt y m k) = b at *
  generalize dM (mt y m k) d = c at *
  clear h ht
  have K0 := hd_box D y m d 23
  obtain ⟨c0, c1, c2⟩ := (K0.2.2 (w.heap.size, y, m, d) (by simp)).1
  go_enter Tryd.func6, Tryd.ntmps6
  clear c0 c1 c2
  go_wp2_with (fail)
  refine (days_any _ K0.1).mono ?_
  rintro e w1 ⟨rfl, hb⟩
  have K1 := K0.step hb
  clear hb K0
  obtain ⟨y0, z0, x0⟩ := (K1.2.2 (w.heap.size, y, m, d) (by simp)).1
  go_wp2_with (fail)
  refine (had _).mono ?_
  rintro e w2 ⟨rfl, hb⟩
  have K2 := K1.step hb
  clear hb K1
  clear y0 z0 x0
  have K3 := K2.add a b c 23
  clear K2
  obtain ⟨y1, z1, x1⟩ := (K3.2.2 (w.heap.size, y, m, d) (by simp)).1
  go_wp2_with (fail)
  refine (hr _).mono ?_
  rintro e w3 ⟨rfl, hb⟩
  have K4 := K3.step hb
  clear hb K3
  clear y1 z1 x1
  have K5 := K4.add a b c 23
  clear K4
  obtain ⟨y2, z2, x2⟩ := (K5.2.2 (w2.heap.size, a, b, c) (by simp)).1
  obtain ⟨y3, z3, x3⟩ := (K5.2.2 (w3.heap.size, a, b, c) (by simp)).1
  have BE := K5.2.1
  go_wp2
  go_ret
  exact ⟨rfl, BE⟩
theorem wDateMonths (y m d k : Int) (w : World) (D : Door w) (_bx : -9223372036854775808 ≤ y ∧ y ≤ 9223372036854775807) (_by : -9223372036854775808 ≤ m ∧ m ≤ 9223372036854775807) (_bz : -9223372036854775808 ≤ d ∧ d ≤ 9223372036854775807) (by1 : -9223372036854775808 ≤ k) (by2 : k ≤ 9223372036854775807) : Calls Tryd.prog 6 #[.agg #[.int .i64 y, .int .i64 m, .int .i64 d], .int .i64 k] w fun e w' => e = .returned (.bool true) ∧ Below w.heap.size w w' := by
  by_cases hf : 5000 < k ∨ k < -5000
  · refine months_far y m d k ?_ hf w D
    cases h : dayB y m d
    · exact months_no y m d k h
    · refine months_out y m d k h by1 by2 ?_
      obtain ⟨a1, a2, a3, a4, _⟩ := dayB_yes h
      unfold mtB mt
      simp
      omega
  · cases h : dayB y m d
    · exact months_none y m d k (months_no y m d k h) (by omega) (by omega) (rmonths_out y m d k (by omega) (by omega) (by rw [h]; rfl)) w D
    · cases ht : mtB (mt y m k)
      · exact months_none y m d k (months_out y m d k h by1 by2 ht) (by omega) (by omega) (rmonths_out y m d k (by omega) (by omega) (by rw [ht, Bool.and_false])) w D
      · exact months_in y m d k h (by omega) (by omega) ht w D
end Go.Proofs.YtkgfmanolanlhaaDoor
