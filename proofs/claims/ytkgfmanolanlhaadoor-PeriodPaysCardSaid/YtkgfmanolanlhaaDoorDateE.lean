/- What the calls of date answer that compare days, and that tell workdays: Compare, Workday, Back. -/
import Derived.Test.YtkgfmanolanlhaaDoorDateD
import Derived.Test.YtkgfmanolanlhaaDoorWork
namespace Go.Proofs.YtkgfmanolanlhaaDoor
open Go.RowKit
set_option linter.unusedVariables false
set_option linter.unusedSimpArgs false

theorem cmp3_same (y m d : Int) : cmp3 y m d y m d = 0 := by unfold cmp3; simp

theorem compare_0l (d d' m m' y y' : Int) (h : y < y') (w : World) : Calls Tryd.prog 27 #[.agg #[.int .i64 y, .int .i64 m, .int .i64 d], .agg #[.int .i64 y', .int .i64 m', .int .i64 d']] w fun e w' => e = .returned (.int .i64 (-1)) ∧ Below w.heap.size w w' := by
  have hne : (y != y') = true := by simp; omega
  have hc := cmp_lt y y' h
  clear h
  have T0 := box2_new w y m d y' m' d' 23 23
  have B0 := two_base w #[.int .i64 y, .int .i64 m, .int .i64 d] #[.int .i64 y', .int .i64 m', .int .i64 d'] 23 23
  obtain ⟨⟨a0, a1, a2⟩, ⟨b0, b1, b2⟩, _⟩ := id T0
  have ix0 := index3_0 y m d
  have ix1 := index3_1 y m d
  have ix2 := index3_2 y m d
  go_enter Tryd.func27, Tryd.ntmps27
  go_wp2_with (fail)
  refine (parts_any _ _ _ _).mono ?_
  rintro e w1 ⟨rfl, hb⟩
  have T1 := T0.below hb
  obtain ⟨⟨c0, c1, c2⟩, ⟨d0, d1, d2⟩, hz1⟩ := id T1
  have B1 := below_step B0 hb (by simp; omega)
  have D1 := day_new w1 y' m' d' 60
  have T2 := T1.below (W' := w1.alloc (.cells #[.int .i64 y', .int .i64 m', .int .i64 d'] 60)) ((Below.refl _ _).alloc (Nat.le_refl _) _)
  obtain ⟨⟨e0, e1, e2⟩, _, _⟩ := id T2
  have B2 := B1.alloc (o := .cells #[.int .i64 y', .int .i64 m', .int .i64 d'] 60) (by omega)
  clear hb T0 B0 a0 a1 a2 b0 b1 b2
  go_wp2_with (fail)
  refine (parts_any _ _ _ _).mono ?_
  rintro e w2 ⟨rfl, hb⟩
  obtain ⟨o0, o1, o2⟩ := D1.below hb (by simp)
  have B3 := below_step B2 hb (by simp; omega)
  clear hb D1 T1 T2 B1 B2 c0 c1 c2 d0 d1 d2 e0 e1 e2

  go_wp2
  refine wp_loop_rounds 1 ?_
  rw [rounds_succ]
  go_wp2_with (fail)
  refine (hc _).mono ?_
  rintro e w' ⟨rfl, rfl⟩
  go_wp2
  go_ret
  exact ⟨rfl, B3⟩
theorem compare_0g (d d' m m' y y' : Int) (h : y' < y) (w : World) : Calls Tryd.prog 27 #[.agg #[.int .i64 y, .int .i64 m, .int .i64 d], .agg #[.int .i64 y', .int .i64 m', .int .i64 d']] w fun e w' => e = .returned (.int .i64 1) ∧ Below w.heap.size w w' := by
  have hne : (y != y') = true := by simp; omega
  have hc := cmp_gt y y' h
  clear h
  have T0 := box2_new w y m d y' m' d' 23 23
  have B0 := two_base w #[.int .i64 y, .int .i64 m, .int .i64 d] #[.int .i64 y', .int .i64 m', .int .i64 d'] 23 23
  obtain ⟨⟨a0, a1, a2⟩, ⟨b0, b1, b2⟩, _⟩ := id T0
  have ix0 := index3_0 y m d
  have ix1 := index3_1 y m d
  have ix2 := index3_2 y m d
  go_enter Tryd.func27, Tryd.ntmps27
  go_wp2_with (fail)
  refine (parts_any _ _ _ _).mono ?_
  rintro e w1 ⟨rfl, hb⟩
  have T1 := T0.below hb
  obtain ⟨⟨c0, c1, c2⟩, ⟨d0, d1, d2⟩, hz1⟩ := id T1
  have B1 := below_step B0 hb (by simp; omega)
  have D1 := day_new w1 y' m' d' 60
  have T2 := T1.below (W' := w1.alloc (.cells #[.int .i64 y', .int .i64 m', .int .i64 d'] 60)) ((Below.refl _ _).alloc (Nat.le_refl _) _)
  obtain ⟨⟨e0, e1, e2⟩, _, _⟩ := id T2
  have B2 := B1.alloc (o := .cells #[.int .i64 y', .int .i64 m', .int .i64 d'] 60) (by omega)
  clear hb T0 B0 a0 a1 a2 b0 b1 b2
  go_wp2_with (fail)
  refine (parts_any _ _ _ _).mono ?_
  rintro e w2 ⟨rfl, hb⟩
  obtain ⟨o0, o1, o2⟩ := D1.below hb (by simp)
  have B3 := below_step B2 hb (by simp; omega)
  clear hb D1 T1 T2 B1 B2 c0 c1 c2 d0 d1 d2 e0 e1 e2

  go_wp2
  refine wp_loop_rounds 1 ?_
  rw [rounds_succ]
  go_wp2_with (fail)
  refine (hc _).mono ?_
  rintro e w' ⟨rfl, rfl⟩
  go_wp2
  go_ret
  exact ⟨rfl, B3⟩
theorem compare_1l (d d' m m' y : Int) (h : m < m') (w : World) : Calls Tryd.prog 27 #[.agg #[.int .i64 y, .int .i64 m, .int .i64 d], .agg #[.int .i64 y, .int .i64 m', .int .i64 d']] w fun e w' => e = .returned (.int .i64 (-1)) ∧ Below w.heap.size w w' := by
  have hne : (m != m') = true := by simp; omega
  have hc := cmp_lt m m' h
  clear h
  have T0 := box2_new w y m d y m' d' 23 23
  have B0 := two_base w #[.int .i64 y, .int .i64 m, .int .i64 d] #[.int .i64 y, .int .i64 m', .int .i64 d'] 23 23
  obtain ⟨⟨a0, a1, a2⟩, ⟨b0, b1, b2⟩, _⟩ := id T0
  have ix0 := index3_0 y m d
  have ix1 := index3_1 y m d
  have ix2 := index3_2 y m d
  go_enter Tryd.func27, Tryd.ntmps27
  go_wp2_with (fail)
  refine (parts_any _ _ _ _).mono ?_
  rintro e w1 ⟨rfl, hb⟩
  have T1 := T0.below hb
  obtain ⟨⟨c0, c1, c2⟩, ⟨d0, d1, d2⟩, hz1⟩ := id T1
  have B1 := below_step B0 hb (by simp; omega)
  have D1 := day_new w1 y m' d' 60
  have T2 := T1.below (W' := w1.alloc (.cells #[.int .i64 y, .int .i64 m', .int .i64 d'] 60)) ((Below.refl _ _).alloc (Nat.le_refl _) _)
  obtain ⟨⟨e0, e1, e2⟩, _, _⟩ := id T2
  have B2 := B1.alloc (o := .cells #[.int .i64 y, .int .i64 m', .int .i64 d'] 60) (by omega)
  clear hb T0 B0 a0 a1 a2 b0 b1 b2
  go_wp2_with (fail)
  refine (parts_any _ _ _ _).mono ?_
  rintro e w2 ⟨rfl, hb⟩
  obtain ⟨o0, o1, o2⟩ := D1.below hb (by simp)
  have B3 := below_step B2 hb (by simp; omega)
  clear hb D1 T1 T2 B1 B2 c0 c1 c2 d0 d1 d2 e0 e1 e2

  go_wp2
  refine wp_loop_rounds 2 ?_
  rw [rounds_succ]
  go_wp2
  rw [rounds_succ]
  go_wp2_with (fail)
  refine (hc _).mono ?_
  rintro e w' ⟨rfl, rfl⟩
  go_wp2
  go_ret
  exact ⟨rfl, B3⟩
theorem compare_1g (d d' m m' y : Int) (h : m' < m) (w : World) : Calls Tryd.prog 27 #[.agg #[.int .i64 y, .int .i64 m, .int .i64 d], .agg #[.int .i64 y, .int .i64 m', .int .i64 d']] w fun e w' => e = .returned (.int .i64 1) ∧ Below w.heap.size w w' := by
  have hne : (m != m') = true := by simp; omega
  have hc := cmp_gt m m' h
  clear h
  have T0 := box2_new w y m d y m' d' 23 23
  have B0 := two_base w #[.int .i64 y, .int .i64 m, .int .i64 d] #[.int .i64 y, .int .i64 m', .int .i64 d'] 23 23
  obtain ⟨⟨a0, a1, a2⟩, ⟨b0, b1, b2⟩, _⟩ := id T0
  have ix0 := index3_0 y m d
  have ix1 := index3_1 y m d
  have ix2 := index3_2 y m d
  go_enter Tryd.func27, Tryd.ntmps27
  go_wp2_with (fail)
  refine (parts_any _ _ _ _).mono ?_
  rintro e w1 ⟨rfl, hb⟩
  have T1 := T0.below hb
  obtain ⟨⟨c0, c1, c2⟩, ⟨d0, d1, d2⟩, hz1⟩ := id T1
  have B1 := below_step B0 hb (by simp; omega)
  have D1 := day_new w1 y m' d' 60
  have T2 := T1.below (W' := w1.alloc (.cells #[.int .i64 y, .int .i64 m', .int .i64 d'] 60)) ((Below.refl _ _).alloc (Nat.le_refl _) _)
  obtain ⟨⟨e0, e1, e2⟩, _, _⟩ := id T2
  have B2 := B1.alloc (o := .cells #[.int .i64 y, .int .i64 m', .int .i64 d'] 60) (by omega)
  clear hb T0 B0 a0 a1 a2 b0 b1 b2
  go_wp2_with (fail)
  refine (parts_any _ _ _ _).mono ?_
  rintro e w2 ⟨rfl, hb⟩
  obtain ⟨o0, o1, o2⟩ := D1.below hb (by simp)
  have B3 := below_step B2 hb (by simp; omega)
  clear hb D1 T1 T2 B1 B2 c0 c1 c2 d0 d1 d2 e0 e1 e2

  go_wp2
  refine wp_loop_rounds 2 ?_
  rw [rounds_succ]
  go_wp2
  rw [rounds_succ]
  go_wp2_with (fail)
  refine (hc _).mono ?_
  rintro e w' ⟨rfl, rfl⟩
  go_wp2
  go_ret
  exact ⟨rfl, B3⟩
theorem compare_2l (d d' m y : Int) (h : d < d') (w : World) : Calls Tryd.prog 27 #[.agg #[.int .i64 y, .int .i64 m, .int .i64 d], .agg #[.int .i64 y, .int .i64 m, .int .i64 d']] w fun e w' => e = .returned (.int .i64 (-1)) ∧ Below w.heap.size w w' := by
  have hne : (d != d') = true := by simp; omega
  have hc := cmp_lt d d' h
  clear h
  have T0 := box2_new w y m d y m d' 23 23
  have B0 := two_base w #[.int .i64 y, .int .i64 m, .int .i64 d] #[.int .i64 y, .int .i64 m, .int .i64 d'] 23 23
  obtain ⟨⟨a0, a1, a2⟩, ⟨b0, b1, b2⟩, _⟩ := id T0
  have ix0 := index3_0 y m d
  have ix1 := index3_1 y m d
  have ix2 := index3_2 y m d
  go_enter Tryd.func27, Tryd.ntmps27
  go_wp2_with (fail)
  refine (parts_any _ _ _ _).mono ?_
  rintro e w1 ⟨rfl, hb⟩
  have T1 := T0.below hb
  obtain ⟨⟨c0, c1, c2⟩, ⟨d0, d1, d2⟩, hz1⟩ := id T1
  have B1 := below_step B0 hb (by simp; omega)
  have D1 := day_new w1 y m d' 60
  have T2 := T1.below (W' := w1.alloc (.cells #[.int .i64 y, .int .i64 m, .int .i64 d'] 60)) ((Below.refl _ _).alloc (Nat.le_refl _) _)
  obtain ⟨⟨e0, e1, e2⟩, _, _⟩ := id T2
  have B2 := B1.alloc (o := .cells #[.int .i64 y, .int .i64 m, .int .i64 d'] 60) (by omega)
  clear hb T0 B0 a0 a1 a2 b0 b1 b2
  go_wp2_with (fail)
  refine (parts_any _ _ _ _).mono ?_
  rintro e w2 ⟨rfl, hb⟩
  obtain ⟨o0, o1, o2⟩ := D1.below hb (by simp)
  have B3 := below_step B2 hb (by simp; omega)
  clear hb D1 T1 T2 B1 B2 c0 c1 c2 d0 d1 d2 e0 e1 e2

  go_wp2
  refine wp_loop_rounds 3 ?_
  rw [rounds_succ]
  go_wp2
  rw [rounds_succ]
  go_wp2
  rw [rounds_succ]
  go_wp2_with (fail)
  refine (hc _).mono ?_
  rintro e w' ⟨rfl, rfl⟩
  go_wp2
  go_ret
  exact ⟨rfl, B3⟩
theorem compare_2g (d d' m y : Int) (h : d' < d) (w : World) : Calls Tryd.prog 27 #[.agg #[.int .i64 y, .int .i64 m, .int .i64 d], .agg #[.int .i64 y, .int .i64 m, .int .i64 d']] w fun e w' => e = .returned (.int .i64 1) ∧ Below w.heap.size w w' := by
  have hne : (d != d') = true := by simp; omega
  have hc := cmp_gt d d' h
  clear h
  have T0 := box2_new w y m d y m d' 23 23
  have B0 := two_base w #[.int .i64 y, .int .i64 m, .int .i64 d] #[.int .i64 y, .int .i64 m, .int .i64 d'] 23 23
  obtain ⟨⟨a0, a1, a2⟩, ⟨b0, b1, b2⟩, _⟩ := id T0
  have ix0 := index3_0 y m d
  have ix1 := index3_1 y m d
  have ix2 := index3_2 y m d
  go_enter Tryd.func27, Tryd.ntmps27
  go_wp2_with (fail)
  refine (parts_any _ _ _ _).mono ?_
  rintro e w1 ⟨rfl, hb⟩
  have T1 := T0.below hb
  obtain ⟨⟨c0, c1, c2⟩, ⟨d0, d1, d2⟩, hz1⟩ := id T1
  have B1 := below_step B0 hb (by simp; omega)
  have D1 := day_new w1 y m d' 60
  have T2 := T1.below (W' := w1.alloc (.cells #[.int .i64 y, .int .i64 m, .int .i64 d'] 60)) ((Below.refl _ _).alloc (Nat.le_refl _) _)
  obtain ⟨⟨e0, e1, e2⟩, _, _⟩ := id T2
  have B2 := B1.alloc (o := .cells #[.int .i64 y, .int .i64 m, .int .i64 d'] 60) (by omega)
  clear hb T0 B0 a0 a1 a2 b0 b1 b2
  go_wp2_with (fail)
  refine (parts_any _ _ _ _).mono ?_
  rintro e w2 ⟨rfl, hb⟩
  obtain ⟨o0, o1, o2⟩ := D1.below hb (by simp)
  have B3 := below_step B2 hb (by simp; omega)
  clear hb D1 T1 T2 B1 B2 c0 c1 c2 d0 d1 d2 e0 e1 e2

  go_wp2
  refine wp_loop_rounds 3 ?_
  rw [rounds_succ]
  go_wp2
  rw [rounds_succ]
  go_wp2
  rw [rounds_succ]
  go_wp2_with (fail)
  refine (hc _).mono ?_
  rintro e w' ⟨rfl, rfl⟩
  go_wp2
  go_ret
  exact ⟨rfl, B3⟩
theorem compare_eq (d m y : Int) (w : World) : Calls Tryd.prog 27 #[.agg #[.int .i64 y, .int .i64 m, .int .i64 d], .agg #[.int .i64 y, .int .i64 m, .int .i64 d]] w fun e w' => e = .returned (.int .i64 0) ∧ Below w.heap.size w w' := by
  have T0 := box2_new w y m d y m d 23 23
  have B0 := two_base w #[.int .i64 y, .int .i64 m, .int .i64 d] #[.int .i64 y, .int .i64 m, .int .i64 d] 23 23
  obtain ⟨⟨a0, a1, a2⟩, ⟨b0, b1, b2⟩, _⟩ := id T0
  have ix0 := index3_0 y m d
  have ix1 := index3_1 y m d
  have ix2 := index3_2 y m d
  go_enter Tryd.func27, Tryd.ntmps27
  go_wp2_with (fail)
  refine (parts_any _ _ _ _).mono ?_
  rintro e w1 ⟨rfl, hb⟩
  have T1 := T0.below hb
  obtain ⟨⟨c0, c1, c2⟩, ⟨d0, d1, d2⟩, hz1⟩ := id T1
  have B1 := below_step B0 hb (by simp; omega)
  have D1 := day_new w1 y m d 60
  have T2 := T1.below (W' := w1.alloc (.cells #[.int .i64 y, .int .i64 m, .int .i64 d] 60)) ((Below.refl _ _).alloc (Nat.le_refl _) _)
  obtain ⟨⟨e0, e1, e2⟩, _, _⟩ := id T2
  have B2 := B1.alloc (o := .cells #[.int .i64 y, .int .i64 m, .int .i64 d] 60) (by omega)
  clear hb T0 B0 a0 a1 a2 b0 b1 b2
  go_wp2_with (fail)
  refine (parts_any _ _ _ _).mono ?_
  rintro e w2 ⟨rfl, hb⟩
  obtain ⟨o0, o1, o2⟩ := D1.below hb (by simp)
  have B3 := below_step B2 hb (by simp; omega)
  clear hb D1 T1 T2 B1 B2 c0 c1 c2 d0 d1 d2 e0 e1 e2

  go_wp2
  refine wp_loop_rounds 4 ?_
  rw [rounds_succ]
  go_wp2
  rw [rounds_succ]
  go_wp2
  rw [rounds_succ]
  go_wp2
  rw [rounds_succ]
  go_wp2
  go_ret
  exact ⟨rfl, B3⟩

theorem compare_int (y m d y' m' d' : Int) (w : World) : Calls Tryd.prog 27 #[.agg #[.int .i64 y, .int .i64 m, .int .i64 d], .agg #[.int .i64 y', .int .i64 m', .int .i64 d']] w fun e w' => e = .returned (.int .i64 (cmp3 y m d y' m' d')) ∧ Below w.heap.size w w' := by
  unfold cmp3
  split
  · exact compare_0l _ _ _ _ _ _ (by assumption) w
  split
  · exact compare_0g _ _ _ _ _ _ (by assumption) w
  obtain rfl : y = y' := by omega
  split
  · exact compare_1l _ _ _ _ _ (by assumption) w
  split
  · exact compare_1g _ _ _ _ _ (by assumption) w
  obtain rfl : m = m' := by omega
  split
  · exact compare_2l _ _ _ _ (by assumption) w
  split
  · exact compare_2g _ _ _ _ (by assumption) w
  obtain rfl : d = d' := by omega
  exact compare_eq _ _ _ w

theorem workday_no (y m d : Int) (h : dayB y m d = false) (w : World) : Calls Tryd.prog 30 #[.agg #[.int .i64 y, .int .i64 m, .int .i64 d]] w fun e w' => e = .returned (.bool false) ∧ Below w.heap.size w w' := by
  have hc := weekday_no y m d h
  clear h
  go_enter Tryd.func30, Tryd.ntmps30
  go_wp2_with (fail)
  refine (hc _).mono ?_
  rintro e w' ⟨rfl, hb⟩
  go_wp2
  go_ret
  exact ⟨rfl, below_step ((Below.refl _ _).alloc (Nat.le_refl _) _) hb (by simp)⟩
theorem workday_yes (y m d : Int) (b : Bool) (h : dayB y m d = true) (hb : decide (num y m d % 7 < 5) = b) (w : World) : Calls Tryd.prog 30 #[.agg #[.int .i64 y, .int .i64 m, .int .i64 d]] w fun e w' => e = .returned (.bool b) ∧ Below w.heap.size w w' := by
  have hc := weekday_yes y m d h
  subst hb
  clear h
  generalize num y m d % 7 = n at *
  go_enter Tryd.func30, Tryd.ntmps30
  go_wp2_with (fail)
  refine (hc _).mono ?_
  rintro e w' ⟨rfl, hb⟩
  go_wp2
  go_ret
  exact ⟨rfl, below_step ((Below.refl _ _).alloc (Nat.le_refl _) _) hb (by simp)⟩
theorem back_no (y m d : Int) (h : dayB y m d = false) (w : World) : Calls Tryd.prog 31 #[.agg #[.int .i64 y, .int .i64 m, .int .i64 d]] w fun e w' => e = .returned (.tuple #[.agg #[.int .i64 0, .int .i64 0, .int .i64 0], .int .i64 30]) ∧ Below w.heap.size w w' := by
  have hc := weekday_no y m d h
  clear h
  have T0 := two_new w y m d 23 23
  have B0 := two_base w #[.int .i64 y, .int .i64 m, .int .i64 d] #[.int .i64 0, .int .i64 0, .int .i64 0] 23 23
  obtain ⟨⟨a0, a1, a2⟩, _⟩ := id T0
  go_enter Tryd.func31, Tryd.ntmps31
  go_wp2_with (fail)
  refine (hc _).mono ?_
  rintro e w1 ⟨rfl, hb⟩
  obtain ⟨⟨c0, c1, c2⟩, ⟨r0, r1, r2⟩, ⟨f0, f1, f2⟩, hz⟩ := T0.below hb
  have B1 := below_step B0 hb (by simp; omega)
  clear hb T0 B0
  go_wp2
  exact bodyPost_ret (v := .tuple #[.agg #[.int .i64 0, .int .i64 0, .int .i64 0], .int .i64 30]) (by simp [results, Tryd.results31, go_sem, r0, r1, r2]) rfl ⟨rfl, by first | exact B1 | exact ((B1.setCell (by simp) _).setCell (by simp) _).setCell (by simp) _⟩
theorem back_yes (y m d : Int) (h : dayB y m d = true) (w : World) : Calls Tryd.prog 31 #[.agg #[.int .i64 y, .int .i64 m, .int .i64 d]] w fun e w' => e = .returned (.tuple #[.agg #[.int .i64 (yOf (bkN (num y m d))), .int .i64 (mOf (bkN (num y m d))), .int .i64 (dOf (bkN (num y m d)))], .int .i64 0]) ∧ Below w.heap.size w w' := by
  have hc := weekday_yes y m d h
  obtain ⟨_, _, n3, n4⟩ := num_bd h
  have hk := bkN_bd (num y m d)
  have ha := add_yes y m d (-max 0 (num y m d % 7 - 4)) h (by have : bkN (num y m d) = num y m d - max 0 (num y m d % 7 - 4) := by unfold bkN; split <;> omega
                                                              omega) (by omega)
  have he : num y m d + -max 0 (num y m d % 7 - 4) = bkN (num y m d) := by unfold bkN; split <;> omega
  rw [he] at ha
  clear he h hk
  generalize hn : num y m d = n at *
  have r0 : 0 ≤ n % 7 := by omega
  have r1 : n % 7 < 7 := by omega
  generalize n % 7 = q at *
  have T0 := two_new w y m d 23 23
  have B0 := two_base w #[.int .i64 y, .int .i64 m, .int .i64 d] #[.int .i64 0, .int .i64 0, .int .i64 0] 23 23
  obtain ⟨⟨a0, a1, a2⟩, _⟩ := id T0
  clear hn
  go_enter Tryd.func31, Tryd.ntmps31
  go_wp2_with (fail)
  refine (hc _).mono ?_
  rintro e w1 ⟨rfl, hb⟩
  have T1 := T0.below hb
  obtain ⟨⟨c0, c1, c2⟩, ⟨r0, r1, r2⟩, ⟨f0, f1, f2⟩, hz⟩ := id T1
  have B1 := below_step B0 hb (by simp; omega)
  clear hb T0 B0 a0 a1 a2
  go_wp2_with (fail)
  refine (ha _).mono ?_
  rintro e w2 ⟨rfl, hb⟩
  clear c0 c1 c2 r0 r1 r2 f0 f1 f2
  obtain ⟨⟨c0, c1, c2⟩, ⟨r0, r1, r2⟩, ⟨f0, f1, f2⟩, hz⟩ := T1.below hb
  have B2 := below_step B1 hb (by have := T1.2.2.2; omega)
  clear hb T1 B1
  go_wp2
  exact bodyPost_ret (v := .tuple #[.agg #[.int .i64 (yOf (bkN n)), .int .i64 (mOf (bkN n)), .int .i64 (dOf (bkN n))], .int .i64 0]) (by simp [results, Tryd.results31, go_sem, r0, r1, r2]) rfl ⟨rfl, ((B2.setCell (by simp) _).setCell (by simp) _).setCell (by simp) _⟩
end Go.Proofs.YtkgfmanolanlhaaDoor
