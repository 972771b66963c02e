/- The first call of all of period's laws: a year from the 6th of April on, in weeks and months. -/
import Derived.Test.YtkgfmanolanlhaaDoorPerF
import Derived.Test.YtkgfmanolanlhaaDoorIdxI
import Derived.Test.YtkgfmanolanlhaaDoorIdxL
namespace Go.Proofs.YtkgfmanolanlhaaDoor
open Go.RowKit
set_option linter.unusedVariables false
set_option linter.unusedSimpArgs false

theorem cuts_span (p : Nat) (W : World) (Y : Yr W p 4 2023 4 6) : Calls Tryd.prog 36 #[.pointer (some ⟨p, 0, none⟩), .int .i64 2] W fun e w' => e = .returned (.tuple #[.agg #[.int .i64 2023, .int .i64 5, .int .i64 6], .agg #[.int .i64 2023, .int .i64 6, .int .i64 5], .int .i64 0]) ∧ Below W.heap.size W w' := by
  have h := span_mid p 4 2023 4 6 2 W Y (by decide) (by omega) (by omega) (by omega) (by decide)
  rw [show yOf (pb 4 2023 4 6 2) = 2023 by decide, show mOf (pb 4 2023 4 6 2) = 5 by decide, show dOf (pb 4 2023 4 6 2) = 6 by decide, show yOf (pb 4 2023 4 6 (2 + 1) - 1) = 2023 by decide, show mOf (pb 4 2023 4 6 (2 + 1) - 1) = 6 by decide, show dOf (pb 4 2023 4 6 (2 + 1) - 1) = 5 by decide] at h
  exact h
theorem cuts_index (p : Nat) (W : World) (Y : Yr W p 1 2023 4 6) : Calls Tryd.prog 53 #[.pointer (some ⟨p, 0, none⟩), .agg #[.int .i64 2024, .int .i64 4, .int .i64 5]] W fun e w' => e = .returned (.tuple #[.int .i64 53, .int .i64 0]) ∧ Below W.heap.size W w' :=
  (index_in p 1 2023 4 6 2024 4 5 W Y (by decide) (by decide) (by omega) (by omega) (by decide) (by decide)).mono fun e w' ⟨i, h1, h2, h3, h4, he, hb⟩ => by
    have hi : i = 53 := per_uniq (f := 1) (y := 2023) (m := 4) (d := 6) (n := num 2024 4 5) (by omega) (by omega) h2 (by decide) h3 h4 (by decide) (by decide)
    subst hi
    exact ⟨he, hb⟩
theorem cuts_part (p : Nat) (W : World) (Y : Yr W p 1 2023 4 6) : Calls Tryd.prog 54 #[.pointer (some ⟨p, 0, none⟩), .int .i64 53] W fun e w' => e = .returned (.tuple #[.int .i64 52, .int .i64 52, .int .i64 0]) ∧ Below W.heap.size W w' := by
  have h := part_yes p 1 2023 4 6 53 W Y (by decide) (by omega) (by omega) (by omega) (by decide)
  rw [show min 53 (nom 1) = 52 by decide, show nom 1 = 52 by decide] at h
  exact h
theorem cuts_end (p : Nat) (W : World) (Y : Yr W p 1 2023 4 6) : Calls Tryd.prog 41 #[.pointer (some ⟨p, 0, none⟩)] W fun e w' => e = .returned (.agg #[.int .i64 2024, .int .i64 4, .int .i64 5]) ∧ Below W.heap.size W w' := by
  have h := endd_any p 1 2023 4 6 W Y
  rw [show yOf (yend 2023 4 6) = 2024 by decide, show mOf (yend 2023 4 6) = 4 by decide, show dOf (yend 2023 4 6) = 5 by decide] at h
  exact h
theorem cuts_count1 (p : Nat) (W : World) (Y : Yr W p 1 2023 4 6) : Calls Tryd.prog 35 #[.pointer (some ⟨p, 0, none⟩)] W fun e w' => e = .returned (.int .i64 53) ∧ Below W.heap.size W w' := by
  have h := count_any p 1 2023 4 6 W Y (by decide) (by omega) (by omega)
  rw [show cnt 1 2023 4 6 = 53 by decide] at h
  exact h
theorem cuts_count4 (p : Nat) (W : World) (Y : Yr W p 4 2023 4 6) : Calls Tryd.prog 35 #[.pointer (some ⟨p, 0, none⟩)] W fun e w' => e = .returned (.int .i64 12) ∧ Below W.heap.size W w' := by
  have h := count_any p 4 2023 4 6 W Y (by decide) (by omega) (by omega)
  rw [show cnt 4 2023 4 6 = 12 by decide] at h
  exact h
theorem cuts_next (p : Nat) (W : World) (Y : Yr W p 1 2023 4 6) : Calls Tryd.prog 55 #[.pointer (some ⟨p, 0, none⟩)] W (NewP 1 2024 4 6 W) := next_ok p 1 2023 4 6 W Y (by decide) (by omega) (by omega) (by decide)
theorem field_0 (a b c : Int) (W : World) : (Instr.field 23 (.agg #[.int .i64 a, .int .i64 b, .int .i64 c]) 0).run Tryd.prog W = .ok (.int .i64 a) W := by kernel_rfl
theorem field_1 (a b c : Int) (W : World) : (Instr.field 23 (.agg #[.int .i64 a, .int .i64 b, .int .i64 c]) 1).run Tryd.prog W = .ok (.int .i64 b) W := by kernel_rfl
theorem field_2 (a b c : Int) (W : World) : (Instr.field 23 (.agg #[.int .i64 a, .int .i64 b, .int .i64 c]) 2).run Tryd.prog W = .ok (.int .i64 c) W := by kernel_rfl
set_option maxRecDepth 100000 in
set_option maxHeartbeats 4000000 in
theorem cuts_any (w : World) (hK : Kinds w) : Calls Tryd.prog 33 #[] w fun e w' => e = .returned (.bool true) ∧ Below w.heap.size w w' := by
  have hn1 := fun w K => new_ok 1 2023 4 6 (by omega) (by omega) (by decide) w K
  have hn4 := fun w K => new_ok 4 2023 4 6 (by omega) (by omega) (by decide) w K
  have hs := Lib.hid cuts_span
  have hi := Lib.hid cuts_index
  have hp := Lib.hid cuts_part
  have he := Lib.hid cuts_end
  have hc1 := Lib.hid cuts_count1
  have hc4 := Lib.hid cuts_count4
  have hx := Lib.hid cuts_next
  have hfld := field_0 2024 4 6
  go_enter Tryd.func33, Tryd.ntmps33
  go_wp2_with (fail)
  refine (hn1 _ hK).mono ?_
  rintro e w1 ⟨p1, rfl, z1, Y1, B1⟩
  go_wp2_with (fail)
  refine (hn4 _ Y1.1).mono ?_
  rintro e w2 ⟨p4, rfl, z4, Y4, hb⟩
  have B2 := below_step B1 hb B1.size
  replace Y1 := Y1.below hb
  clear hb
  go_wp2_with (fail)
  refine (hs.out _ _ Y4).mono ?_
  rintro e w3 ⟨rfl, hb⟩
  have B3 := below_step B2 hb B2.size
  replace Y1 := Y1.below hb
  replace Y4 := Y4.below hb
  clear hb
  have hb : Below w3.heap.size w3 ((w3.alloc (.cells #[.int .i64 2023, .int .i64 5, .int .i64 6] 23)).alloc (.cells #[.int .i64 2023, .int .i64 6, .int .i64 5] 23)) := two_base w3 _ _ _ _
  have T4 := box2_new w3 2023 5 6 2023 6 5 23 23
  have B4 := below_step B3 hb B3.size
  have Y1' := Y1.below hb
  have Y4' := Y4.below hb
  clear hb Y1 Y4
  go_wp2_with (fail)
  refine (hi.out _ _ Y1').mono ?_
  rintro e w4 ⟨rfl, hb⟩
  have B5 := below_step B4 hb B4.size
  have Y1 := Y1'.below hb
  have Y4 := Y4'.below hb
  have T5 := T4.below hb
  clear hb Y1' Y4' T4
  go_wp2_with (fail)
  refine (hp.out _ _ Y1).mono ?_
  rintro e w5 ⟨rfl, hb⟩
  have B6 := below_step B5 hb B5.size
  replace Y1 := Y1.below hb
  replace Y4 := Y4.below hb
  replace T5 := T5.below hb
  clear hb
  go_wp2_with (fail)
  refine (hx.out _ _ Y1).mono ?_
  rintro e w6 ⟨p3, rfl, z3, Y3, hb⟩
  have B7 := below_step B6 hb B6.size
  replace Y1 := Y1.below hb
  replace Y4 := Y4.below hb
  replace T5 := T5.below hb
  clear hb
  go_wp2_with (fail)
  refine (hc1.out _ _ Y1).mono ?_
  rintro e w7 ⟨rfl, hb⟩
  have B8 := below_step B7 hb B7.size
  replace Y1 := Y1.below hb
  replace Y3 := Y3.below hb
  replace Y4 := Y4.below hb
  replace T5 := T5.below hb
  clear hb
  go_wp2_with (fail)
  refine (hc4.out _ _ Y4).mono ?_
  rintro e w8 ⟨rfl, hb⟩
  have B9 := below_step B8 hb B8.size
  replace Y1 := Y1.below hb
  replace Y3 := Y3.below hb
  obtain ⟨⟨t0, t1, t2⟩, ⟨t3, t4, t5⟩, _⟩ := T5.below hb
  clear hb
  go_wp2_with (fail)
  refine (start_any _ _ _ _ _ _ Y3).mono ?_
  rintro e w9 ⟨rfl, hb⟩
  have B10 := below_step B9 hb B9.size
  replace Y1 := Y1.below hb
  clear hb
  go_wp2_with (fail)
  refine (freq_any _ _ _ _ _ _ Y1).mono ?_
  rintro e w' ⟨rfl, rfl⟩
  go_wp2_with (fail)
  refine (he.out _ _ Y1).mono ?_
  rintro e w10 ⟨rfl, hb⟩
  have B11 := below_step B10 hb B10.size
  replace Y1 := Y1.below hb
  clear hb
  go_wp2_with (fail)
  refine (nominal_any _ _ Y1.1).mono ?_
  rintro e w' ⟨rfl, rfl⟩
  have hn : nom 3 = 13 := by decide
  go_wp2
  go_ret
  exact ⟨rfl, B11⟩
end Go.Proofs.YtkgfmanolanlhaaDoor
