/- The walk of DateCounts. -/
import Derived.Test.YtkgfmanolanlhaaDoorDaysD
import Derived.Test.YtkgfmanolanlhaaDoorRefDateA
namespace Go.Proofs.YtkgfmanolanlhaaDoor
open Go.RowKit
set_option linter.unusedVariables false
set_option linter.unusedSimpArgs false
theorem hd_box {w : World} (D : Door w) (y m d : Int) (t : TypeId) : HD w [(w.heap.size, y, m, d)] (w.alloc (.cells #[.int .i64 y, .int .i64 m, .int .i64 d] t)) := (HD.nil D).add y m d t
theorem hs_of {w W : World} {q : Nat} {a b c : Int} (K : HD w [(q, a, b, c)] W) : W.cell? ⟨q, 0, none⟩ = some (.int .i64 a) ∧ W.cell? ⟨q, 1, none⟩ = some (.int .i64 b) ∧ W.cell? ⟨q, 2, none⟩ = some (.int .i64 c) ∧ HD w [(q, a, b, c)] W := by
  obtain ⟨x, y, z⟩ := (K.2.2 (q, a, b, c) (by simp)).1
  exact ⟨x, y, z, K⟩
theorem hs_step {w W W' : World} {q : Nat} {a b c : Int} (hb : Below W.heap.size W W') (h : W.cell? ⟨q, 0, none⟩ = some (.int .i64 a) ∧ W.cell? ⟨q, 1, none⟩ = some (.int .i64 b) ∧ W.cell? ⟨q, 2, none⟩ = some (.int .i64 c) ∧ HD w [(q, a, b, c)] W) : W'.cell? ⟨q, 0, none⟩ = some (.int .i64 a) ∧ W'.cell? ⟨q, 1, none⟩ = some (.int .i64 b) ∧ W'.cell? ⟨q, 2, none⟩ = some (.int .i64 c) ∧ HD w [(q, a, b, c)] W' := hs_of (h.2.2.2.step hb)
theorem counts_yes (y m d : Int) (h : dayB y m d = true) (w : World) (D : Door w) : Calls Tryd.prog 3 #[.agg #[.int .i64 y, .int .i64 m, .int .i64 d]] w fun e w' => e = .returned (.bool true) ∧ Below w.heap.size w w' := by
  obtain ⟨_, _, n0, n1⟩ := num_bd h
  have hnum := number_yes y m d h
  have hwd := weekday_yes y m d h
  have hrn := rnumber_yes y m d h
  have hnn : decide (0 ≤ num y m d) = true := by simpa using n0
  generalize num y m d = n at *
  have hrt := right_b y m d _ h
  have hla := last_any y m
  have hmo := month_any y m
  clear h
  have K0 := hd_box D y m d 23
  obtain ⟨c0, c1, c2⟩ := (K0.2.2 (w.heap.size, y, m, d) (by simp)).1
  go_enter Tryd.func3, Tryd.ntmps3
  clear c0 c1 c2
  go_wp2_with (fail)
  refine (days_any _ K0.1).mono ?_
  rintro e w1 ⟨rfl, hb⟩
  have K1 := K0.step hb
  clear hb K0
  obtain ⟨y0, z0, x0⟩ := (K1.2.2 (w.heap.size, y, m, d) (by simp)).1
  go_wp2_with (fail)
  refine (hnum _).mono ?_
  rintro e w2 ⟨rfl, hb⟩
  have K2 := K1.step hb
  clear hb K1
  clear y0 z0 x0
  obtain ⟨y1, z1, x1⟩ := (K2.2.2 (w.heap.size, y, m, d) (by simp)).1
  go_wp2_with (fail)
  refine (hwd _).mono ?_
  rintro e w3 ⟨rfl, hb⟩
  have K3 := K2.step hb
  clear hb K2
  clear y1 z1 x1
  obtain ⟨y2, z2, x2⟩ := (K3.2.2 (w.heap.size, y, m, d) (by simp)).1
  go_wp2_with (fail)
  refine (hrn _).mono ?_
  rintro e w4 ⟨rfl, hb⟩
  have K4 := K3.step hb
  clear hb K3
  clear y2 z2 x2
  obtain ⟨y3, z3, x3⟩ := (K4.2.2 (w.heap.size, y, m, d) (by simp)).1
  go_wp2
  have Z4 := hs_of K4.drew
  go_region_held3 (fun W => W.cell? ⟨w.heap.size, 0, none⟩ = some (.int .i64 y) ∧ W.cell? ⟨w.heap.size, 1, none⟩ = some (.int .i64 m) ∧ W.cell? ⟨w.heap.size, 2, none⟩ = some (.int .i64 d) ∧ HD w [(w.heap.size, y, m, d)] W)
    ((first | exact Z4 | exact hs_step hb (by assumption)))
    (first
      | (go_at_call 15; (with_reducible refine (hrt _).mono ?_); rintro e w20 ⟨rfl, hb⟩)
      | (go_at_call 16; (with_reducible refine (hla _).mono ?_); rintro e w20 ⟨rfl, hb⟩)
      | (go_at_call 17; (with_reducible refine (hmo _).mono ?_); rintro e w20 ⟨rfl, hb⟩))
  rename_i hH
  obtain ⟨c0, c1, c2, K20⟩ := hH
  clear hb Z4
  have BE := K20.2.1
  clear c0 c1 c2 K20 K4 hnum hwd hrn hla hmo hrt
  go_wp2
  go_ret
  exact ⟨rfl, BE⟩
theorem counts_no (y m d : Int) (h : dayB y m d = false) (w : World) (D : Door w) : Calls Tryd.prog 3 #[.agg #[.int .i64 y, .int .i64 m, .int .i64 d]] w fun e w' => e = .returned (.bool true) ∧ Below w.heap.size w w' := by
  have hnum := number_no y m d h
  have hwd := weekday_no y m d h
  have hrn := rnumber_no y m d h
  have htx := text_no y m d h
  have hrt := right_b y m d _ h
  have hla := last_any y m
  have hmo := month_any y m
  clear h
  have K0 := hd_box D y m d 23
  obtain ⟨c0, c1, c2⟩ := (K0.2.2 (w.heap.size, y, m, d) (by simp)).1
  go_enter Tryd.func3, Tryd.ntmps3
  clear c0 c1 c2
  go_wp2_with (fail)
  refine (days_any _ K0.1).mono ?_
  rintro e w1 ⟨rfl, hb⟩
  have K1 := K0.step hb
  clear hb K0
  obtain ⟨y0, z0, x0⟩ := (K1.2.2 (w.heap.size, y, m, d) (by simp)).1
  go_wp2_with (fail)
  refine (hnum _).mono ?_
  rintro e w2 ⟨rfl, hb⟩
  have K2 := K1.step hb
  clear hb K1
  clear y0 z0 x0
  obtain ⟨y1, z1, x1⟩ := (K2.2.2 (w.heap.size, y, m, d) (by simp)).1
  go_wp2_with (fail)
  refine (hwd _).mono ?_
  rintro e w3 ⟨rfl, hb⟩
  have K3 := K2.step hb
  clear hb K2
  clear y1 z1 x1
  obtain ⟨y2, z2, x2⟩ := (K3.2.2 (w.heap.size, y, m, d) (by simp)).1
  go_wp2_with (fail)
  refine (hrn _).mono ?_
  rintro e w4 ⟨rfl, hb⟩
  have K4 := K3.step hb
  clear hb K3
  clear y2 z2 x2
  obtain ⟨y3, z3, x3⟩ := (K4.2.2 (w.heap.size, y, m, d) (by simp)).1
  go_wp2
  have Z4 := hs_of K4.drew
  go_region_held3 (fun W => W.cell? ⟨w.heap.size, 0, none⟩ = some (.int .i64 y) ∧ W.cell? ⟨w.heap.size, 1, none⟩ = some (.int .i64 m) ∧ W.cell? ⟨w.heap.size, 2, none⟩ = some (.int .i64 d) ∧ HD w [(w.heap.size, y, m, d)] W)
    ((first | exact Z4 | exact hs_step hb (by assumption)))
    (first
      | (go_at_call 15; (with_reducible refine (hrt _).mono ?_); rintro e w20 ⟨rfl, hb⟩)
      | (go_at_call 16; (with_reducible refine (hla _).mono ?_); rintro e w20 ⟨rfl, hb⟩)
      | (go_at_call 17; (with_reducible refine (hmo _).mono ?_); rintro e w20 ⟨rfl, hb⟩))
  rename_i hH
  obtain ⟨c0, c1, c2, K20⟩ := hH
  clear hb Z4
  go_wp2_with (fail)
  refine (htx _).mono ?_
  rintro e w21 ⟨rfl, hb⟩
  have BE := (K20.step hb).2.1
  clear c0 c1 c2 K20 K4 hnum hwd hrn hla hmo hrt hb
  go_wp2
  go_ret
  exact ⟨rfl, BE⟩
theorem wDateCounts (y m d : Int) (w : World) (D : Door w) : Calls Tryd.prog 3 #[.agg #[.int .i64 y, .int .i64 m, .int .i64 d]] w fun e w' => e = .returned (.bool true) ∧ Below w.heap.size w w' := by
  cases h : dayB y m d
  · exact counts_no y m d h w D
  · exact counts_yes y m d h w D
end Go.Proofs.YtkgfmanolanlhaaDoor
