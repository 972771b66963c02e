/- CodeFrees: the whole walk. -/
import Derived.Test.YthndkplmhpbgdaaDoorKeepC
import Derived.Lib.QuietBelow
import Derived.BigQuiet
namespace Go.Proofs.YthndkplmhpbgdaaDoor
open Go.RowKit Go.Sort
set_option linter.unusedVariables false
theorem mixedAll : Tryd.prog.follows .mixedOrders = true := by kernel_rfl

set_option maxHeartbeats 2000000 in
set_option maxRecDepth 100000 in
theorem frees_bad (s k a f : Int) (x : Bool) (n d y : Int) (w : World) (D : Tab w) (bs : -9223372036854775808 ≤ s ∧ s ≤ 9223372036854775807) (bk : -9223372036854775808 ≤ k ∧ k ≤ 9223372036854775807) (ba : -9223372036854775808 ≤ a ∧ a ≤ 9223372036854775807) (bf : -9223372036854775808 ≤ f ∧ f ≤ 9223372036854775807) (bn : -9223372036854775808 ≤ n ∧ n ≤ 9223372036854775807) (bd : -9223372036854775808 ≤ d ∧ d ≤ 9223372036854775807) (by' : -9223372036854775808 ≤ y ∧ y ≤ 9223372036854775807) (h : chkC s k a f ≠ 0) :
    Calls Tryd.prog 11 #[.agg #[.int .i64 s, .int .i64 k, .int .i64 a, .int .i64 f, .bool x], .agg #[.int .i64 n, .int .i64 d], .int .i64 y] w fun e w' => e = .returned (.bool true) ∧ Below w.heap.size w w' := by
  have ck := fun w => check_any s k a f x w ba.1 ba.2
  have t1 : (chkC s k a f != 0) = true := by simpa using h
  clear h
  generalize chkC s k a f = v at *
  have K0 := kc_new w s k a f n d x D
  have C0 := fun w D => codes_any w D
  go_enter Tryd.func11, Tryd.ntmps11
  go_wp2_with (fail)
  refine (C0 _ K0.2.2.2.2.2).mono ?_
  rintro e w1 ⟨rfl, hb⟩
  have H := K0.step hb
  clear hb K0 C0
  obtain ⟨B, ⟨⟨d0, d1, d2, d3, d4⟩, dz⟩, p0, p1, pz, T⟩ := id H
  have r0 := fun d os => cell_regrown p0 d os
  have r1 := fun d os => cell_regrown p1 d os
  go_wp2_with (fail)
  refine wp_region_quiet_below mixedAll (by kernel_rfl) ?_
  repeat (go_big_quiet_step (fail))
  refine wpQuiet_nil ?_
  intro _ hw'
  obtain ⟨⟨dq, osq⟩, hw''⟩ := hw'
  subst hw''
  replace H := H.step (below_regrown w1 dq osq)
  generalize grow (redrawn w1 dq) osq = W1 at *
  clear r0 r1
  clear B d0 d1 d2 d3 d4 dz p0 p1 pz T
  obtain ⟨B, ⟨⟨d0, d1, d2, d3, d4⟩, dz⟩, p0, p1, pz, T⟩ := id H
  go_wp2_with (fail)
  refine (ck _).mono ?_
  rintro e w2 ⟨rfl, hb⟩
  replace H := H.step hb
  clear hb
  clear B d0 d1 d2 d3 d4 dz p0 p1 pz T
  obtain ⟨B, ⟨⟨d0, d1, d2, d3, d4⟩, dz⟩, p0, p1, pz, T⟩ := id H
  go_wp2
  go_ret
  first | exact ⟨rfl, B⟩ | exact ⟨ret_b (beq_iff_eq.2 (by omega)), B⟩

set_option maxHeartbeats 2000000 in
set_option maxRecDepth 100000 in
theorem frees_r1 (s k a f : Int) (x : Bool) (n d y : Int) (w : World) (D : Tab w) (bs : -9223372036854775808 ≤ s ∧ s ≤ 9223372036854775807) (bk : -9223372036854775808 ≤ k ∧ k ≤ 9223372036854775807) (ba : -9223372036854775808 ≤ a ∧ a ≤ 9223372036854775807) (bf : -9223372036854775808 ≤ f ∧ f ≤ 9223372036854775807) (bn : -9223372036854775808 ≤ n ∧ n ≤ 9223372036854775807) (bd : -9223372036854775808 ≤ d ∧ d ≤ 9223372036854775807) (by' : -9223372036854775808 ≤ y ∧ y ≤ 9223372036854775807) (h : chkC s k a f = 0) (h1 : n < 0) :
    Calls Tryd.prog 11 #[.agg #[.int .i64 s, .int .i64 k, .int .i64 a, .int .i64 f, .bool x], .agg #[.int .i64 n, .int .i64 d], .int .i64 y] w fun e w' => e = .returned (.bool true) ∧ Below w.heap.size w w' := by
  obtain ⟨b1, b2⟩ := ba
  have ck := fun w => check_c s k a f x 0 h w b1 b2
  have e1 := freeV_range (n := n) (d := d) h (by omega)
  have fr := fun w => free_v s k a f n d x 0 1 e1 w b1 b2
  have ch := fun w => charge_v s k a f y n d x 0 1 (chargeV_free (y := y) e1 (by omega)) w b1 b2
  clear h e1
  have K0 := kc_new w s k a f n d x D
  have C0 := fun w D => codes_any w D
  go_enter Tryd.func11, Tryd.ntmps11
  go_wp2_with (fail)
  refine (C0 _ K0.2.2.2.2.2).mono ?_
  rintro e w1 ⟨rfl, hb⟩
  have H := K0.step hb
  clear hb K0 C0
  obtain ⟨B, ⟨⟨d0, d1, d2, d3, d4⟩, dz⟩, p0, p1, pz, T⟩ := id H
  have r0 := fun d os => cell_regrown p0 d os
  have r1 := fun d os => cell_regrown p1 d os
  go_wp2_with (fail)
  refine wp_region_quiet_below mixedAll (by kernel_rfl) ?_
  repeat (go_big_quiet_step (fail))
  refine wpQuiet_nil ?_
  intro _ hw'
  obtain ⟨⟨dq, osq⟩, hw''⟩ := hw'
  subst hw''
  replace H := H.step (below_regrown w1 dq osq)
  generalize grow (redrawn w1 dq) osq = W1 at *
  clear r0 r1
  clear B d0 d1 d2 d3 d4 dz p0 p1 pz T
  obtain ⟨B, ⟨⟨d0, d1, d2, d3, d4⟩, dz⟩, p0, p1, pz, T⟩ := id H
  go_wp2_with (fail)
  refine (ck _).mono ?_
  rintro e w2 ⟨rfl, hb⟩
  replace H := H.step hb
  clear hb
  clear B d0 d1 d2 d3 d4 dz p0 p1 pz T
  obtain ⟨B, ⟨⟨d0, d1, d2, d3, d4⟩, dz⟩, p0, p1, pz, T⟩ := id H
  go_wp2_with (fail)
  refine (fr _).mono ?_
  rintro e w3 ⟨rfl, hb⟩
  replace H := H.step hb
  clear hb
  clear B d0 d1 d2 d3 d4 dz p0 p1 pz T
  obtain ⟨B, ⟨⟨d0, d1, d2, d3, d4⟩, dz⟩, p0, p1, pz, T⟩ := id H
  go_wp2_with (fail)
  refine (ch _).mono ?_
  rintro e w4 ⟨rfl, hb⟩
  replace H := H.step hb
  clear hb
  clear B d0 d1 d2 d3 d4 dz p0 p1 pz T
  obtain ⟨B, ⟨⟨d0, d1, d2, d3, d4⟩, dz⟩, p0, p1, pz, T⟩ := id H
  go_wp2
  go_ret
  first | exact ⟨rfl, B⟩ | exact ⟨ret_b (beq_iff_eq.2 (by omega)), B⟩

set_option maxHeartbeats 2000000 in
set_option maxRecDepth 100000 in
theorem frees_r2 (s k a f : Int) (x : Bool) (n d y : Int) (w : World) (D : Tab w) (bs : -9223372036854775808 ≤ s ∧ s ≤ 9223372036854775807) (bk : -9223372036854775808 ≤ k ∧ k ≤ 9223372036854775807) (ba : -9223372036854775808 ≤ a ∧ a ≤ 9223372036854775807) (bf : -9223372036854775808 ≤ f ∧ f ≤ 9223372036854775807) (bn : -9223372036854775808 ≤ n ∧ n ≤ 9223372036854775807) (bd : -9223372036854775808 ≤ d ∧ d ≤ 9223372036854775807) (by' : -9223372036854775808 ≤ y ∧ y ≤ 9223372036854775807) (h : chkC s k a f = 0) (h1 : ¬ n < 0) (h2 : d < 1) :
    Calls Tryd.prog 11 #[.agg #[.int .i64 s, .int .i64 k, .int .i64 a, .int .i64 f, .bool x], .agg #[.int .i64 n, .int .i64 d], .int .i64 y] w fun e w' => e = .returned (.bool true) ∧ Below w.heap.size w w' := by
  obtain ⟨b1, b2⟩ := ba
  have ck := fun w => check_c s k a f x 0 h w b1 b2
  have e1 := freeV_range (n := n) (d := d) h (by omega)
  have fr := fun w => free_v s k a f n d x 0 1 e1 w b1 b2
  have ch := fun w => charge_v s k a f y n d x 0 1 (chargeV_free (y := y) e1 (by omega)) w b1 b2
  clear h e1
  have K0 := kc_new w s k a f n d x D
  have C0 := fun w D => codes_any w D
  go_enter Tryd.func11, Tryd.ntmps11
  go_wp2_with (fail)
  refine (C0 _ K0.2.2.2.2.2).mono ?_
  rintro e w1 ⟨rfl, hb⟩
  have H := K0.step hb
  clear hb K0 C0
  obtain ⟨B, ⟨⟨d0, d1, d2, d3, d4⟩, dz⟩, p0, p1, pz, T⟩ := id H
  have r0 := fun d os => cell_regrown p0 d os
  have r1 := fun d os => cell_regrown p1 d os
  go_wp2_with (fail)
  refine wp_region_quiet_below mixedAll (by kernel_rfl) ?_
  repeat (go_big_quiet_step (fail))
  refine wpQuiet_nil ?_
  intro _ hw'
  obtain ⟨⟨dq, osq⟩, hw''⟩ := hw'
  subst hw''
  replace H := H.step (below_regrown w1 dq osq)
  generalize grow (redrawn w1 dq) osq = W1 at *
  clear r0 r1
  clear B d0 d1 d2 d3 d4 dz p0 p1 pz T
  obtain ⟨B, ⟨⟨d0, d1, d2, d3, d4⟩, dz⟩, p0, p1, pz, T⟩ := id H
  go_wp2_with (fail)
  refine (ck _).mono ?_
  rintro e w2 ⟨rfl, hb⟩
  replace H := H.step hb
  clear hb
  clear B d0 d1 d2 d3 d4 dz p0 p1 pz T
  obtain ⟨B, ⟨⟨d0, d1, d2, d3, d4⟩, dz⟩, p0, p1, pz, T⟩ := id H
  go_wp2_with (fail)
  refine (fr _).mono ?_
  rintro e w3 ⟨rfl, hb⟩
  replace H := H.step hb
  clear hb
  clear B d0 d1 d2 d3 d4 dz p0 p1 pz T
  obtain ⟨B, ⟨⟨d0, d1, d2, d3, d4⟩, dz⟩, p0, p1, pz, T⟩ := id H
  go_wp2_with (fail)
  refine (ch _).mono ?_
  rintro e w4 ⟨rfl, hb⟩
  replace H := H.step hb
  clear hb
  clear B d0 d1 d2 d3 d4 dz p0 p1 pz T
  obtain ⟨B, ⟨⟨d0, d1, d2, d3, d4⟩, dz⟩, p0, p1, pz, T⟩ := id H
  go_wp2
  go_ret
  first | exact ⟨rfl, B⟩ | exact ⟨ret_b (beq_iff_eq.2 (by omega)), B⟩

set_option maxHeartbeats 2000000 in
set_option maxRecDepth 100000 in
theorem frees_r3 (s k a f : Int) (x : Bool) (n d y : Int) (w : World) (D : Tab w) (bs : -9223372036854775808 ≤ s ∧ s ≤ 9223372036854775807) (bk : -9223372036854775808 ≤ k ∧ k ≤ 9223372036854775807) (ba : -9223372036854775808 ≤ a ∧ a ≤ 9223372036854775807) (bf : -9223372036854775808 ≤ f ∧ f ≤ 9223372036854775807) (bn : -9223372036854775808 ≤ n ∧ n ≤ 9223372036854775807) (bd : -9223372036854775808 ≤ d ∧ d ≤ 9223372036854775807) (by' : -9223372036854775808 ≤ y ∧ y ≤ 9223372036854775807) (h : chkC s k a f = 0) (h1 : ¬ n < 0) (h2 : ¬ d < 1) (h3 : d < n) :
    Calls Tryd.prog 11 #[.agg #[.int .i64 s, .int .i64 k, .int .i64 a, .int .i64 f, .bool x], .agg #[.int .i64 n, .int .i64 d], .int .i64 y] w fun e w' => e = .returned (.bool true) ∧ Below w.heap.size w w' := by
  obtain ⟨b1, b2⟩ := ba
  have ck := fun w => check_c s k a f x 0 h w b1 b2
  have e1 := freeV_range (n := n) (d := d) h (by omega)
  have fr := fun w => free_v s k a f n d x 0 1 e1 w b1 b2
  have ch := fun w => charge_v s k a f y n d x 0 1 (chargeV_free (y := y) e1 (by omega)) w b1 b2
  clear h e1
  have K0 := kc_new w s k a f n d x D
  have C0 := fun w D => codes_any w D
  go_enter Tryd.func11, Tryd.ntmps11
  go_wp2_with (fail)
  refine (C0 _ K0.2.2.2.2.2).mono ?_
  rintro e w1 ⟨rfl, hb⟩
  have H := K0.step hb
  clear hb K0 C0
  obtain ⟨B, ⟨⟨d0, d1, d2, d3, d4⟩, dz⟩, p0, p1, pz, T⟩ := id H
  have r0 := fun d os => cell_regrown p0 d os
  have r1 := fun d os => cell_regrown p1 d os
  go_wp2_with (fail)
  refine wp_region_quiet_below mixedAll (by kernel_rfl) ?_
  repeat (go_big_quiet_step (fail))
  refine wpQuiet_nil ?_
  intro _ hw'
  obtain ⟨⟨dq, osq⟩, hw''⟩ := hw'
  subst hw''
  replace H := H.step (below_regrown w1 dq osq)
  generalize grow (redrawn w1 dq) osq = W1 at *
  clear r0 r1
  clear B d0 d1 d2 d3 d4 dz p0 p1 pz T
  obtain ⟨B, ⟨⟨d0, d1, d2, d3, d4⟩, dz⟩, p0, p1, pz, T⟩ := id H
  go_wp2_with (fail)
  refine (ck _).mono ?_
  rintro e w2 ⟨rfl, hb⟩
  replace H := H.step hb
  clear hb
  clear B d0 d1 d2 d3 d4 dz p0 p1 pz T
  obtain ⟨B, ⟨⟨d0, d1, d2, d3, d4⟩, dz⟩, p0, p1, pz, T⟩ := id H
  go_wp2_with (fail)
  refine (fr _).mono ?_
  rintro e w3 ⟨rfl, hb⟩
  replace H := H.step hb
  clear hb
  clear B d0 d1 d2 d3 d4 dz p0 p1 pz T
  obtain ⟨B, ⟨⟨d0, d1, d2, d3, d4⟩, dz⟩, p0, p1, pz, T⟩ := id H
  go_wp2_with (fail)
  refine (ch _).mono ?_
  rintro e w4 ⟨rfl, hb⟩
  replace H := H.step hb
  clear hb
  clear B d0 d1 d2 d3 d4 dz p0 p1 pz T
  obtain ⟨B, ⟨⟨d0, d1, d2, d3, d4⟩, dz⟩, p0, p1, pz, T⟩ := id H
  go_wp2
  go_ret
  first | exact ⟨rfl, B⟩ | exact ⟨ret_b (beq_iff_eq.2 (by omega)), B⟩

set_option maxHeartbeats 2000000 in
set_option maxRecDepth 100000 in
theorem frees_r4 (s k a f : Int) (x : Bool) (n d y : Int) (w : World) (D : Tab w) (bs : -9223372036854775808 ≤ s ∧ s ≤ 9223372036854775807) (bk : -9223372036854775808 ≤ k ∧ k ≤ 9223372036854775807) (ba : -9223372036854775808 ≤ a ∧ a ≤ 9223372036854775807) (bf : -9223372036854775808 ≤ f ∧ f ≤ 9223372036854775807) (bn : -9223372036854775808 ≤ n ∧ n ≤ 9223372036854775807) (bd : -9223372036854775808 ≤ d ∧ d ≤ 9223372036854775807) (by' : -9223372036854775808 ≤ y ∧ y ≤ 9223372036854775807) (h : chkC s k a f = 0) (h1 : ¬ n < 0) (h2 : ¬ d < 1) (h3 : ¬ d < n) (h4 : 1048576 < d) :
    Calls Tryd.prog 11 #[.agg #[.int .i64 s, .int .i64 k, .int .i64 a, .int .i64 f, .bool x], .agg #[.int .i64 n, .int .i64 d], .int .i64 y] w fun e w' => e = .returned (.bool true) ∧ Below w.heap.size w w' := by
  obtain ⟨b1, b2⟩ := ba
  have ck := fun w => check_c s k a f x 0 h w b1 b2
  have e1 := freeV_range (n := n) (d := d) h (by omega)
  have fr := fun w => free_v s k a f n d x 0 1 e1 w b1 b2
  have ch := fun w => charge_v s k a f y n d x 0 1 (chargeV_free (y := y) e1 (by omega)) w b1 b2
  clear h e1
  have K0 := kc_new w s k a f n d x D
  have C0 := fun w D => codes_any w D
  go_enter Tryd.func11, Tryd.ntmps11
  go_wp2_with (fail)
  refine (C0 _ K0.2.2.2.2.2).mono ?_
  rintro e w1 ⟨rfl, hb⟩
  have H := K0.step hb
  clear hb K0 C0
  obtain ⟨B, ⟨⟨d0, d1, d2, d3, d4⟩, dz⟩, p0, p1, pz, T⟩ := id H
  have r0 := fun d os => cell_regrown p0 d os
  have r1 := fun d os => cell_regrown p1 d os
  go_wp2_with (fail)
  refine wp_region_quiet_below mixedAll (by kernel_rfl) ?_
  repeat (go_big_quiet_step (fail))
  refine wpQuiet_nil ?_
  intro _ hw'
  obtain ⟨⟨dq, osq⟩, hw''⟩ := hw'
  subst hw''
  replace H := H.step (below_regrown w1 dq osq)
  generalize grow (redrawn w1 dq) osq = W1 at *
  clear r0 r1
  clear B d0 d1 d2 d3 d4 dz p0 p1 pz T
  obtain ⟨B, ⟨⟨d0, d1, d2, d3, d4⟩, dz⟩, p0, p1, pz, T⟩ := id H
  go_wp2_with (fail)
  refine (ck _).mono ?_
  rintro e w2 ⟨rfl, hb⟩
  replace H := H.step hb
  clear hb
  clear B d0 d1 d2 d3 d4 dz p0 p1 pz T
  obtain ⟨B, ⟨⟨d0, d1, d2, d3, d4⟩, dz⟩, p0, p1, pz, T⟩ := id H
  go_wp2_with (fail)
  refine (fr _).mono ?_
  rintro e w3 ⟨rfl, hb⟩
  replace H := H.step hb
  clear hb
  clear B d0 d1 d2 d3 d4 dz p0 p1 pz T
  obtain ⟨B, ⟨⟨d0, d1, d2, d3, d4⟩, dz⟩, p0, p1, pz, T⟩ := id H
  go_wp2_with (fail)
  refine (ch _).mono ?_
  rintro e w4 ⟨rfl, hb⟩
  replace H := H.step hb
  clear hb
  clear B d0 d1 d2 d3 d4 dz p0 p1 pz T
  obtain ⟨B, ⟨⟨d0, d1, d2, d3, d4⟩, dz⟩, p0, p1, pz, T⟩ := id H
  go_wp2
  go_ret
  first | exact ⟨rfl, B⟩ | exact ⟨ret_b (beq_iff_eq.2 (by omega)), B⟩

set_option maxHeartbeats 2000000 in
set_option maxRecDepth 100000 in
theorem frees_e1 (s k a f : Int) (x : Bool) (n d y : Int) (w : World) (D : Tab w) (bs : -9223372036854775808 ≤ s ∧ s ≤ 9223372036854775807) (bk : -9223372036854775808 ≤ k ∧ k ≤ 9223372036854775807) (ba : -9223372036854775808 ≤ a ∧ a ≤ 9223372036854775807) (bf : -9223372036854775808 ≤ f ∧ f ≤ 9223372036854775807) (bn : -9223372036854775808 ≤ n ∧ n ≤ 9223372036854775807) (bd : -9223372036854775808 ≤ d ∧ d ≤ 9223372036854775807) (by' : -9223372036854775808 ≤ y ∧ y ≤ 9223372036854775807) (h : chkC s k a f = 0) (h1 : ¬ n < 0) (h2 : ¬ d < 1) (h3 : ¬ d < n) (h4 : ¬ 1048576 < d) (hk : k = 2) (hy : 100000000000 < y) :
    Calls Tryd.prog 11 #[.agg #[.int .i64 s, .int .i64 k, .int .i64 a, .int .i64 f, .bool x], .agg #[.int .i64 n, .int .i64 d], .int .i64 y] w fun e w' => e = .returned (.bool true) ∧ Below w.heap.size w w' := by
  obtain ⟨b1, b2⟩ := ba
  have ck := fun w => check_c s k a f x 0 h w b1 b2
  have e1 := freeV_ok (n := n) (d := d) h (by omega) (by omega) (by omega) (by omega)
  obtain ⟨_, _, hfit⟩ := chkC_zero h
  obtain ⟨k1, k4, a0, a9, _, _, _⟩ := fitB_bd hfit
  obtain ⟨q0, q1⟩ := part_bd (a := a) (n := n) (d := d) a0 (by omega) (by omega) (by omega)
  have hm := mul_bd (x := a) (r := n) 1048576 (by omega) (by omega) (by omega) (by omega)
  have m0 : 0 ≤ a * n := Int.mul_nonneg a0 (by omega)
  have m1 : a * n ≤ 9223372036854775807 := by omega
  clear hm hfit
  rw [if_pos hk] at e1
  have fr := fun w => free_v s k a f n d x _ _ e1 w b1 b2
  have ch := fun w => charge_v s k a f y n d x _ _ (chargeV_amt e1 (amtB_mk_no (.inr hy))) w b1 b2
  have t2 : (k == 2) = true := by simpa using hk

  clear h e1 hk 

  have K0 := kc_new w s k a f n d x D
  have C0 := fun w D => codes_any w D
  go_enter Tryd.func11, Tryd.ntmps11
  go_wp2_with (fail)
  refine (C0 _ K0.2.2.2.2.2).mono ?_
  rintro e w1 ⟨rfl, hb⟩
  have H := K0.step hb
  clear hb K0 C0
  obtain ⟨B, ⟨⟨d0, d1, d2, d3, d4⟩, dz⟩, p0, p1, pz, T⟩ := id H
  have r0 := fun d os => cell_regrown p0 d os
  have r1 := fun d os => cell_regrown p1 d os
  go_wp2_with (fail)
  refine wp_region_quiet_below mixedAll (by kernel_rfl) ?_
  repeat (go_big_quiet_step (fail))
  refine wpQuiet_nil ?_
  intro _ hw'
  obtain ⟨⟨dq, osq⟩, hw''⟩ := hw'
  subst hw''
  replace H := H.step (below_regrown w1 dq osq)
  generalize grow (redrawn w1 dq) osq = W1 at *
  clear r0 r1
  clear B d0 d1 d2 d3 d4 dz p0 p1 pz T
  obtain ⟨B, ⟨⟨d0, d1, d2, d3, d4⟩, dz⟩, p0, p1, pz, T⟩ := id H
  go_wp2_with (fail)
  refine (ck _).mono ?_
  rintro e w2 ⟨rfl, hb⟩
  replace H := H.step hb
  clear hb
  clear B d0 d1 d2 d3 d4 dz p0 p1 pz T
  obtain ⟨B, ⟨⟨d0, d1, d2, d3, d4⟩, dz⟩, p0, p1, pz, T⟩ := id H
  go_wp2_with (fail)
  refine (fr _).mono ?_
  rintro e w3 ⟨rfl, hb⟩
  replace H := H.step hb
  clear hb
  clear B d0 d1 d2 d3 d4 dz p0 p1 pz T
  obtain ⟨B, ⟨⟨d0, d1, d2, d3, d4⟩, dz⟩, p0, p1, pz, T⟩ := id H
  go_wp2_with (fail)
  refine (ch _).mono ?_
  rintro e w4 ⟨rfl, hb⟩
  replace H := H.step hb
  clear hb
  clear B d0 d1 d2 d3 d4 dz p0 p1 pz T
  obtain ⟨B, ⟨⟨d0, d1, d2, d3, d4⟩, dz⟩, p0, p1, pz, T⟩ := id H
  go_wp2
  go_ret
  first | exact ⟨rfl, B⟩ | exact ⟨ret_b (beq_iff_eq.2 (by omega)), B⟩

set_option maxHeartbeats 2000000 in
set_option maxRecDepth 100000 in
theorem frees_e2 (s k a f : Int) (x : Bool) (n d y : Int) (w : World) (D : Tab w) (bs : -9223372036854775808 ≤ s ∧ s ≤ 9223372036854775807) (bk : -9223372036854775808 ≤ k ∧ k ≤ 9223372036854775807) (ba : -9223372036854775808 ≤ a ∧ a ≤ 9223372036854775807) (bf : -9223372036854775808 ≤ f ∧ f ≤ 9223372036854775807) (bn : -9223372036854775808 ≤ n ∧ n ≤ 9223372036854775807) (bd : -9223372036854775808 ≤ d ∧ d ≤ 9223372036854775807) (by' : -9223372036854775808 ≤ y ∧ y ≤ 9223372036854775807) (h : chkC s k a f = 0) (h1 : ¬ n < 0) (h2 : ¬ d < 1) (h3 : ¬ d < n) (h4 : ¬ 1048576 < d) (hk : k = 2) (hy : ¬ 100000000000 < y) (hy2 : y < -100000000000) :
    Calls Tryd.prog 11 #[.agg #[.int .i64 s, .int .i64 k, .int .i64 a, .int .i64 f, .bool x], .agg #[.int .i64 n, .int .i64 d], .int .i64 y] w fun e w' => e = .returned (.bool true) ∧ Below w.heap.size w w' := by
  obtain ⟨b1, b2⟩ := ba
  have ck := fun w => check_c s k a f x 0 h w b1 b2
  have e1 := freeV_ok (n := n) (d := d) h (by omega) (by omega) (by omega) (by omega)
  obtain ⟨_, _, hfit⟩ := chkC_zero h
  obtain ⟨k1, k4, a0, a9, _, _, _⟩ := fitB_bd hfit
  obtain ⟨q0, q1⟩ := part_bd (a := a) (n := n) (d := d) a0 (by omega) (by omega) (by omega)
  have hm := mul_bd (x := a) (r := n) 1048576 (by omega) (by omega) (by omega) (by omega)
  have m0 : 0 ≤ a * n := Int.mul_nonneg a0 (by omega)
  have m1 : a * n ≤ 9223372036854775807 := by omega
  clear hm hfit
  rw [if_pos hk] at e1
  have fr := fun w => free_v s k a f n d x _ _ e1 w b1 b2
  have ch := fun w => charge_v s k a f y n d x _ _ (chargeV_amt e1 (amtB_mk_no (.inl hy2))) w b1 b2
  have t2 : (k == 2) = true := by simpa using hk

  clear h e1 hk 

  have K0 := kc_new w s k a f n d x D
  have C0 := fun w D => codes_any w D
  go_enter Tryd.func11, Tryd.ntmps11
  go_wp2_with (fail)
  refine (C0 _ K0.2.2.2.2.2).mono ?_
  rintro e w1 ⟨rfl, hb⟩
  have H := K0.step hb
  clear hb K0 C0
  obtain ⟨B, ⟨⟨d0, d1, d2, d3, d4⟩, dz⟩, p0, p1, pz, T⟩ := id H
  have r0 := fun d os => cell_regrown p0 d os
  have r1 := fun d os => cell_regrown p1 d os
  go_wp2_with (fail)
  refine wp_region_quiet_below mixedAll (by kernel_rfl) ?_
  repeat (go_big_quiet_step (fail))
  refine wpQuiet_nil ?_
  intro _ hw'
  obtain ⟨⟨dq, osq⟩, hw''⟩ := hw'
  subst hw''
  replace H := H.step (below_regrown w1 dq osq)
  generalize grow (redrawn w1 dq) osq = W1 at *
  clear r0 r1
  clear B d0 d1 d2 d3 d4 dz p0 p1 pz T
  obtain ⟨B, ⟨⟨d0, d1, d2, d3, d4⟩, dz⟩, p0, p1, pz, T⟩ := id H
  go_wp2_with (fail)
  refine (ck _).mono ?_
  rintro e w2 ⟨rfl, hb⟩
  replace H := H.step hb
  clear hb
  clear B d0 d1 d2 d3 d4 dz p0 p1 pz T
  obtain ⟨B, ⟨⟨d0, d1, d2, d3, d4⟩, dz⟩, p0, p1, pz, T⟩ := id H
  go_wp2_with (fail)
  refine (fr _).mono ?_
  rintro e w3 ⟨rfl, hb⟩
  replace H := H.step hb
  clear hb
  clear B d0 d1 d2 d3 d4 dz p0 p1 pz T
  obtain ⟨B, ⟨⟨d0, d1, d2, d3, d4⟩, dz⟩, p0, p1, pz, T⟩ := id H
  go_wp2_with (fail)
  refine (ch _).mono ?_
  rintro e w4 ⟨rfl, hb⟩
  replace H := H.step hb
  clear hb
  clear B d0 d1 d2 d3 d4 dz p0 p1 pz T
  obtain ⟨B, ⟨⟨d0, d1, d2, d3, d4⟩, dz⟩, p0, p1, pz, T⟩ := id H
  go_wp2
  go_ret
  first | exact ⟨rfl, B⟩ | exact ⟨ret_b (beq_iff_eq.2 (by omega)), B⟩

set_option maxHeartbeats 2000000 in
set_option maxRecDepth 100000 in
theorem frees_e4 (s k a f : Int) (x : Bool) (n d y : Int) (w : World) (D : Tab w) (bs : -9223372036854775808 ≤ s ∧ s ≤ 9223372036854775807) (bk : -9223372036854775808 ≤ k ∧ k ≤ 9223372036854775807) (ba : -9223372036854775808 ≤ a ∧ a ≤ 9223372036854775807) (bf : -9223372036854775808 ≤ f ∧ f ≤ 9223372036854775807) (bn : -9223372036854775808 ≤ n ∧ n ≤ 9223372036854775807) (bd : -9223372036854775808 ≤ d ∧ d ≤ 9223372036854775807) (by' : -9223372036854775808 ≤ y ∧ y ≤ 9223372036854775807) (h : chkC s k a f = 0) (h1 : ¬ n < 0) (h2 : ¬ d < 1) (h3 : ¬ d < n) (h4 : ¬ 1048576 < d) (hk : k = 2) (hy : ¬ 100000000000 < y) (hy2 : ¬ y < -100000000000) (hl : 100000000000 < y - -(a * n / d)) :
    Calls Tryd.prog 11 #[.agg #[.int .i64 s, .int .i64 k, .int .i64 a, .int .i64 f, .bool x], .agg #[.int .i64 n, .int .i64 d], .int .i64 y] w fun e w' => e = .returned (.bool true) ∧ Below w.heap.size w w' := by
  obtain ⟨b1, b2⟩ := ba
  have ck := fun w => check_c s k a f x 0 h w b1 b2
  have e1 := freeV_ok (n := n) (d := d) h (by omega) (by omega) (by omega) (by omega)
  obtain ⟨_, _, hfit⟩ := chkC_zero h
  obtain ⟨k1, k4, a0, a9, _, _, _⟩ := fitB_bd hfit
  obtain ⟨q0, q1⟩ := part_bd (a := a) (n := n) (d := d) a0 (by omega) (by omega) (by omega)
  have hm := mul_bd (x := a) (r := n) 1048576 (by omega) (by omega) (by omega) (by omega)
  have m0 : 0 ≤ a * n := Int.mul_nonneg a0 (by omega)
  have m1 : a * n ≤ 9223372036854775807 := by omega
  clear hm hfit
  rw [if_pos hk] at e1
  have fr := fun w => free_v s k a f n d x _ _ e1 w b1 b2
  have ch := fun w => charge_v s k a f y n d x _ _ (chargeV_over e1 (amtB_mk (by omega) (by omega)) (by omega) (amtB_mk_no (.inr hl))) w b1 b2
  have t2 : (k == 2) = true := by simpa using hk
  have t3 : (k == 4) = false := by simp; omega
  clear h e1 hk 

  have K0 := kc_new w s k a f n d x D
  have C0 := fun w D => codes_any w D
  go_enter Tryd.func11, Tryd.ntmps11
  go_wp2_with (fail)
  refine (C0 _ K0.2.2.2.2.2).mono ?_
  rintro e w1 ⟨rfl, hb⟩
  have H := K0.step hb
  clear hb K0 C0
  obtain ⟨B, ⟨⟨d0, d1, d2, d3, d4⟩, dz⟩, p0, p1, pz, T⟩ := id H
  have r0 := fun d os => cell_regrown p0 d os
  have r1 := fun d os => cell_regrown p1 d os
  go_wp2_with (fail)
  refine wp_region_quiet_below mixedAll (by kernel_rfl) ?_
  repeat (go_big_quiet_step (fail))
  refine wpQuiet_nil ?_
  intro _ hw'
  obtain ⟨⟨dq, osq⟩, hw''⟩ := hw'
  subst hw''
  replace H := H.step (below_regrown w1 dq osq)
  generalize grow (redrawn w1 dq) osq = W1 at *
  clear r0 r1
  clear B d0 d1 d2 d3 d4 dz p0 p1 pz T
  obtain ⟨B, ⟨⟨d0, d1, d2, d3, d4⟩, dz⟩, p0, p1, pz, T⟩ := id H
  go_wp2_with (fail)
  refine (ck _).mono ?_
  rintro e w2 ⟨rfl, hb⟩
  replace H := H.step hb
  clear hb
  clear B d0 d1 d2 d3 d4 dz p0 p1 pz T
  obtain ⟨B, ⟨⟨d0, d1, d2, d3, d4⟩, dz⟩, p0, p1, pz, T⟩ := id H
  go_wp2_with (fail)
  refine (fr _).mono ?_
  rintro e w3 ⟨rfl, hb⟩
  replace H := H.step hb
  clear hb
  clear B d0 d1 d2 d3 d4 dz p0 p1 pz T
  obtain ⟨B, ⟨⟨d0, d1, d2, d3, d4⟩, dz⟩, p0, p1, pz, T⟩ := id H
  go_wp2_with (fail)
  refine (ch _).mono ?_
  rintro e w4 ⟨rfl, hb⟩
  replace H := H.step hb
  clear hb
  clear B d0 d1 d2 d3 d4 dz p0 p1 pz T
  obtain ⟨B, ⟨⟨d0, d1, d2, d3, d4⟩, dz⟩, p0, p1, pz, T⟩ := id H
  go_wp2
  go_ret
  first | exact ⟨rfl, B⟩ | exact ⟨ret_b (beq_iff_eq.2 (by omega)), B⟩

set_option maxHeartbeats 2000000 in
set_option maxRecDepth 100000 in
theorem frees_e5 (s k a f : Int) (x : Bool) (n d y : Int) (w : World) (D : Tab w) (bs : -9223372036854775808 ≤ s ∧ s ≤ 9223372036854775807) (bk : -9223372036854775808 ≤ k ∧ k ≤ 9223372036854775807) (ba : -9223372036854775808 ≤ a ∧ a ≤ 9223372036854775807) (bf : -9223372036854775808 ≤ f ∧ f ≤ 9223372036854775807) (bn : -9223372036854775808 ≤ n ∧ n ≤ 9223372036854775807) (bd : -9223372036854775808 ≤ d ∧ d ≤ 9223372036854775807) (by' : -9223372036854775808 ≤ y ∧ y ≤ 9223372036854775807) (h : chkC s k a f = 0) (h1 : ¬ n < 0) (h2 : ¬ d < 1) (h3 : ¬ d < n) (h4 : ¬ 1048576 < d) (hk : k = 2) (hy : ¬ 100000000000 < y) (hy2 : ¬ y < -100000000000) (hl : ¬ 100000000000 < y - -(a * n / d)) (hl2 : y - -(a * n / d) < -100000000000) :
    Calls Tryd.prog 11 #[.agg #[.int .i64 s, .int .i64 k, .int .i64 a, .int .i64 f, .bool x], .agg #[.int .i64 n, .int .i64 d], .int .i64 y] w fun e w' => e = .returned (.bool true) ∧ Below w.heap.size w w' := by
  exfalso
  obtain ⟨_, _, hfit⟩ := chkC_zero h
  obtain ⟨k1, k4, a0, a9, _, _, _⟩ := fitB_bd hfit
  obtain ⟨q0, q1⟩ := part_bd (a := a) (n := n) (d := d) a0 (by omega) (by omega) (by omega)
  omega

set_option maxHeartbeats 2000000 in
set_option maxRecDepth 100000 in
theorem frees_e6 (s k a f : Int) (x : Bool) (n d y : Int) (w : World) (D : Tab w) (bs : -9223372036854775808 ≤ s ∧ s ≤ 9223372036854775807) (bk : -9223372036854775808 ≤ k ∧ k ≤ 9223372036854775807) (ba : -9223372036854775808 ≤ a ∧ a ≤ 9223372036854775807) (bf : -9223372036854775808 ≤ f ∧ f ≤ 9223372036854775807) (bn : -9223372036854775808 ≤ n ∧ n ≤ 9223372036854775807) (bd : -9223372036854775808 ≤ d ∧ d ≤ 9223372036854775807) (by' : -9223372036854775808 ≤ y ∧ y ≤ 9223372036854775807) (h : chkC s k a f = 0) (h1 : ¬ n < 0) (h2 : ¬ d < 1) (h3 : ¬ d < n) (h4 : ¬ 1048576 < d) (hk : k = 2) (hy : ¬ 100000000000 < y) (hy2 : ¬ y < -100000000000) (hl : ¬ 100000000000 < y - -(a * n / d)) (hl2 : ¬ y - -(a * n / d) < -100000000000) (hz : 0 < y - -(a * n / d)) :
    Calls Tryd.prog 11 #[.agg #[.int .i64 s, .int .i64 k, .int .i64 a, .int .i64 f, .bool x], .agg #[.int .i64 n, .int .i64 d], .int .i64 y] w fun e w' => e = .returned (.bool true) ∧ Below w.heap.size w w' := by
  obtain ⟨b1, b2⟩ := ba
  have ck := fun w => check_c s k a f x 0 h w b1 b2
  have e1 := freeV_ok (n := n) (d := d) h (by omega) (by omega) (by omega) (by omega)
  obtain ⟨_, _, hfit⟩ := chkC_zero h
  obtain ⟨k1, k4, a0, a9, _, _, _⟩ := fitB_bd hfit
  obtain ⟨q0, q1⟩ := part_bd (a := a) (n := n) (d := d) a0 (by omega) (by omega) (by omega)
  have hm := mul_bd (x := a) (r := n) 1048576 (by omega) (by omega) (by omega) (by omega)
  have m0 : 0 ≤ a * n := Int.mul_nonneg a0 (by omega)
  have m1 : a * n ≤ 9223372036854775807 := by omega
  clear hm hfit
  rw [if_pos hk] at e1
  have fr := fun w => free_v s k a f n d x _ _ e1 w b1 b2
  have ch := fun w => charge_v s k a f y n d x _ _ ((chargeV_ok e1 (amtB_mk (by omega) (by omega)) (by omega) (amtB_mk (by omega) (by omega))).trans (by rw [Int.max_eq_left (by omega)])) w b1 b2
  have t2 : (k == 2) = true := by simpa using hk
  have t3 : (k == 4) = false := by simp; omega
  clear h e1 hk 

  have K0 := kc_new w s k a f n d x D
  have C0 := fun w D => codes_any w D
  go_enter Tryd.func11, Tryd.ntmps11
  go_wp2_with (fail)
  refine (C0 _ K0.2.2.2.2.2).mono ?_
  rintro e w1 ⟨rfl, hb⟩
  have H := K0.step hb
  clear hb K0 C0
  obtain ⟨B, ⟨⟨d0, d1, d2, d3, d4⟩, dz⟩, p0, p1, pz, T⟩ := id H
  have r0 := fun d os => cell_regrown p0 d os
  have r1 := fun d os => cell_regrown p1 d os
  go_wp2_with (fail)
  refine wp_region_quiet_below mixedAll (by kernel_rfl) ?_
  repeat (go_big_quiet_step (fail))
  refine wpQuiet_nil ?_
  intro _ hw'
  obtain ⟨⟨dq, osq⟩, hw''⟩ := hw'
  subst hw''
  replace H := H.step (below_regrown w1 dq osq)
  generalize grow (redrawn w1 dq) osq = W1 at *
  clear r0 r1
  clear B d0 d1 d2 d3 d4 dz p0 p1 pz T
  obtain ⟨B, ⟨⟨d0, d1, d2, d3, d4⟩, dz⟩, p0, p1, pz, T⟩ := id H
  go_wp2_with (fail)
  refine (ck _).mono ?_
  rintro e w2 ⟨rfl, hb⟩
  replace H := H.step hb
  clear hb
  clear B d0 d1 d2 d3 d4 dz p0 p1 pz T
  obtain ⟨B, ⟨⟨d0, d1, d2, d3, d4⟩, dz⟩, p0, p1, pz, T⟩ := id H
  go_wp2_with (fail)
  refine (fr _).mono ?_
  rintro e w3 ⟨rfl, hb⟩
  replace H := H.step hb
  clear hb
  clear B d0 d1 d2 d3 d4 dz p0 p1 pz T
  obtain ⟨B, ⟨⟨d0, d1, d2, d3, d4⟩, dz⟩, p0, p1, pz, T⟩ := id H
  go_wp2_with (fail)
  refine (ch _).mono ?_
  rintro e w4 ⟨rfl, hb⟩
  replace H := H.step hb
  clear hb
  clear B d0 d1 d2 d3 d4 dz p0 p1 pz T
  obtain ⟨B, ⟨⟨d0, d1, d2, d3, d4⟩, dz⟩, p0, p1, pz, T⟩ := id H
  go_wp2
  go_ret
  first | exact ⟨rfl, B⟩ | exact ⟨ret_b (beq_iff_eq.2 (by omega)), B⟩

set_option maxHeartbeats 2000000 in
set_option maxRecDepth 100000 in
theorem frees_e7 (s k a f : Int) (x : Bool) (n d y : Int) (w : World) (D : Tab w) (bs : -9223372036854775808 ≤ s ∧ s ≤ 9223372036854775807) (bk : -9223372036854775808 ≤ k ∧ k ≤ 9223372036854775807) (ba : -9223372036854775808 ≤ a ∧ a ≤ 9223372036854775807) (bf : -9223372036854775808 ≤ f ∧ f ≤ 9223372036854775807) (bn : -9223372036854775808 ≤ n ∧ n ≤ 9223372036854775807) (bd : -9223372036854775808 ≤ d ∧ d ≤ 9223372036854775807) (by' : -9223372036854775808 ≤ y ∧ y ≤ 9223372036854775807) (h : chkC s k a f = 0) (h1 : ¬ n < 0) (h2 : ¬ d < 1) (h3 : ¬ d < n) (h4 : ¬ 1048576 < d) (hk : k = 2) (hy : ¬ 100000000000 < y) (hy2 : ¬ y < -100000000000) (hl : ¬ 100000000000 < y - -(a * n / d)) (hl2 : ¬ y - -(a * n / d) < -100000000000) (hz : ¬ 0 < y - -(a * n / d)) :
    Calls Tryd.prog 11 #[.agg #[.int .i64 s, .int .i64 k, .int .i64 a, .int .i64 f, .bool x], .agg #[.int .i64 n, .int .i64 d], .int .i64 y] w fun e w' => e = .returned (.bool true) ∧ Below w.heap.size w w' := by
  obtain ⟨b1, b2⟩ := ba
  have ck := fun w => check_c s k a f x 0 h w b1 b2
  have e1 := freeV_ok (n := n) (d := d) h (by omega) (by omega) (by omega) (by omega)
  obtain ⟨_, _, hfit⟩ := chkC_zero h
  obtain ⟨k1, k4, a0, a9, _, _, _⟩ := fitB_bd hfit
  obtain ⟨q0, q1⟩ := part_bd (a := a) (n := n) (d := d) a0 (by omega) (by omega) (by omega)
  have hm := mul_bd (x := a) (r := n) 1048576 (by omega) (by omega) (by omega) (by omega)
  have m0 : 0 ≤ a * n := Int.mul_nonneg a0 (by omega)
  have m1 : a * n ≤ 9223372036854775807 := by omega
  clear hm hfit
  rw [if_pos hk] at e1
  have fr := fun w => free_v s k a f n d x _ _ e1 w b1 b2
  have ch := fun w => charge_v s k a f y n d x _ _ ((chargeV_ok e1 (amtB_mk (by omega) (by omega)) (by omega) (amtB_mk (by omega) (by omega))).trans (by rw [Int.max_eq_right (by omega)])) w b1 b2
  have t2 : (k == 2) = true := by simpa using hk
  have t3 : (k == 4) = false := by simp; omega
  clear h e1 hk 

  have K0 := kc_new w s k a f n d x D
  have C0 := fun w D => codes_any w D
  go_enter Tryd.func11, Tryd.ntmps11
  go_wp2_with (fail)
  refine (C0 _ K0.2.2.2.2.2).mono ?_
  rintro e w1 ⟨rfl, hb⟩
  have H := K0.step hb
  clear hb K0 C0
  obtain ⟨B, ⟨⟨d0, d1, d2, d3, d4⟩, dz⟩, p0, p1, pz, T⟩ := id H
  have r0 := fun d os => cell_regrown p0 d os
  have r1 := fun d os => cell_regrown p1 d os
  go_wp2_with (fail)
  refine wp_region_quiet_below mixedAll (by kernel_rfl) ?_
  repeat (go_big_quiet_step (fail))
  refine wpQuiet_nil ?_
  intro _ hw'
  obtain ⟨⟨dq, osq⟩, hw''⟩ := hw'
  subst hw''
  replace H := H.step (below_regrown w1 dq osq)
  generalize grow (redrawn w1 dq) osq = W1 at *
  clear r0 r1
  clear B d0 d1 d2 d3 d4 dz p0 p1 pz T
  obtain ⟨B, ⟨⟨d0, d1, d2, d3, d4⟩, dz⟩, p0, p1, pz, T⟩ := id H
  go_wp2_with (fail)
  refine (ck _).mono ?_
  rintro e w2 ⟨rfl, hb⟩
  replace H := H.step hb
  clear hb
  clear B d0 d1 d2 d3 d4 dz p0 p1 pz T
  obtain ⟨B, ⟨⟨d0, d1, d2, d3, d4⟩, dz⟩, p0, p1, pz, T⟩ := id H
  go_wp2_with (fail)
  refine (fr _).mono ?_
  rintro e w3 ⟨rfl, hb⟩
  replace H := H.step hb
  clear hb
  clear B d0 d1 d2 d3 d4 dz p0 p1 pz T
  obtain ⟨B, ⟨⟨d0, d1, d2, d3, d4⟩, dz⟩, p0, p1, pz, T⟩ := id H
  go_wp2_with (fail)
  refine (ch _).mono ?_
  rintro e w4 ⟨rfl, hb⟩
  replace H := H.step hb
  clear hb
  clear B d0 d1 d2 d3 d4 dz p0 p1 pz T
  obtain ⟨B, ⟨⟨d0, d1, d2, d3, d4⟩, dz⟩, p0, p1, pz, T⟩ := id H
  go_wp2
  go_ret
  first | exact ⟨rfl, B⟩ | exact ⟨ret_b (beq_iff_eq.2 (by omega)), B⟩

set_option maxHeartbeats 2000000 in
set_option maxRecDepth 100000 in
theorem frees_f1 (s k a f : Int) (x : Bool) (n d y : Int) (w : World) (D : Tab w) (bs : -9223372036854775808 ≤ s ∧ s ≤ 9223372036854775807) (bk : -9223372036854775808 ≤ k ∧ k ≤ 9223372036854775807) (ba : -9223372036854775808 ≤ a ∧ a ≤ 9223372036854775807) (bf : -9223372036854775808 ≤ f ∧ f ≤ 9223372036854775807) (bn : -9223372036854775808 ≤ n ∧ n ≤ 9223372036854775807) (bd : -9223372036854775808 ≤ d ∧ d ≤ 9223372036854775807) (by' : -9223372036854775808 ≤ y ∧ y ≤ 9223372036854775807) (h : chkC s k a f = 0) (h1 : ¬ n < 0) (h2 : ¬ d < 1) (h3 : ¬ d < n) (h4 : ¬ 1048576 < d) (hk : ¬ k = 2) (hy : 100000000000 < y) :
    Calls Tryd.prog 11 #[.agg #[.int .i64 s, .int .i64 k, .int .i64 a, .int .i64 f, .bool x], .agg #[.int .i64 n, .int .i64 d], .int .i64 y] w fun e w' => e = .returned (.bool true) ∧ Below w.heap.size w w' := by
  obtain ⟨b1, b2⟩ := ba
  have ck := fun w => check_c s k a f x 0 h w b1 b2
  have e1 := freeV_ok (n := n) (d := d) h (by omega) (by omega) (by omega) (by omega)
  obtain ⟨_, _, hfit⟩ := chkC_zero h
  obtain ⟨k1, k4, a0, a9, _, _, _⟩ := fitB_bd hfit
  obtain ⟨q0, q1⟩ := part_bd (a := a) (n := n) (d := d) a0 (by omega) (by omega) (by omega)
  have hm := mul_bd (x := a) (r := n) 1048576 (by omega) (by omega) (by omega) (by omega)
  have m0 : 0 ≤ a * n := Int.mul_nonneg a0 (by omega)
  have m1 : a * n ≤ 9223372036854775807 := by omega
  clear hm hfit
  rw [if_neg hk] at e1
  have fr := fun w => free_v s k a f n d x _ _ e1 w b1 b2
  have ch := fun w => charge_v s k a f y n d x _ _ (chargeV_amt e1 (amtB_mk_no (.inr hy))) w b1 b2
  have t2 : (k == 2) = false := by simpa using hk

  clear h e1 hk 

  have K0 := kc_new w s k a f n d x D
  have C0 := fun w D => codes_any w D
  go_enter Tryd.func11, Tryd.ntmps11
  go_wp2_with (fail)
  refine (C0 _ K0.2.2.2.2.2).mono ?_
  rintro e w1 ⟨rfl, hb⟩
  have H := K0.step hb
  clear hb K0 C0
  obtain ⟨B, ⟨⟨d0, d1, d2, d3, d4⟩, dz⟩, p0, p1, pz, T⟩ := id H
  have r0 := fun d os => cell_regrown p0 d os
  have r1 := fun d os => cell_regrown p1 d os
  go_wp2_with (fail)
  refine wp_region_quiet_below mixedAll (by kernel_rfl) ?_
  repeat (go_big_quiet_step (fail))
  refine wpQuiet_nil ?_
  intro _ hw'
  obtain ⟨⟨dq, osq⟩, hw''⟩ := hw'
  subst hw''
  replace H := H.step (below_regrown w1 dq osq)
  generalize grow (redrawn w1 dq) osq = W1 at *
  clear r0 r1
  clear B d0 d1 d2 d3 d4 dz p0 p1 pz T
  obtain ⟨B, ⟨⟨d0, d1, d2, d3, d4⟩, dz⟩, p0, p1, pz, T⟩ := id H
  go_wp2_with (fail)
  refine (ck _).mono ?_
  rintro e w2 ⟨rfl, hb⟩
  replace H := H.step hb
  clear hb
  clear B d0 d1 d2 d3 d4 dz p0 p1 pz T
  obtain ⟨B, ⟨⟨d0, d1, d2, d3, d4⟩, dz⟩, p0, p1, pz, T⟩ := id H
  go_wp2_with (fail)
  refine (fr _).mono ?_
  rintro e w3 ⟨rfl, hb⟩
  replace H := H.step hb
  clear hb
  clear B d0 d1 d2 d3 d4 dz p0 p1 pz T
  obtain ⟨B, ⟨⟨d0, d1, d2, d3, d4⟩, dz⟩, p0, p1, pz, T⟩ := id H
  go_wp2_with (fail)
  refine (ch _).mono ?_
  rintro e w4 ⟨rfl, hb⟩
  replace H := H.step hb
  clear hb
  clear B d0 d1 d2 d3 d4 dz p0 p1 pz T
  obtain ⟨B, ⟨⟨d0, d1, d2, d3, d4⟩, dz⟩, p0, p1, pz, T⟩ := id H
  go_wp2
  go_ret
  first | exact ⟨rfl, B⟩ | exact ⟨ret_b (beq_iff_eq.2 (by omega)), B⟩

set_option maxHeartbeats 2000000 in
set_option maxRecDepth 100000 in
theorem frees_f2 (s k a f : Int) (x : Bool) (n d y : Int) (w : World) (D : Tab w) (bs : -9223372036854775808 ≤ s ∧ s ≤ 9223372036854775807) (bk : -9223372036854775808 ≤ k ∧ k ≤ 9223372036854775807) (ba : -9223372036854775808 ≤ a ∧ a ≤ 9223372036854775807) (bf : -9223372036854775808 ≤ f ∧ f ≤ 9223372036854775807) (bn : -9223372036854775808 ≤ n ∧ n ≤ 9223372036854775807) (bd : -9223372036854775808 ≤ d ∧ d ≤ 9223372036854775807) (by' : -9223372036854775808 ≤ y ∧ y ≤ 9223372036854775807) (h : chkC s k a f = 0) (h1 : ¬ n < 0) (h2 : ¬ d < 1) (h3 : ¬ d < n) (h4 : ¬ 1048576 < d) (hk : ¬ k = 2) (hy : ¬ 100000000000 < y) (hy2 : y < -100000000000) :
    Calls Tryd.prog 11 #[.agg #[.int .i64 s, .int .i64 k, .int .i64 a, .int .i64 f, .bool x], .agg #[.int .i64 n, .int .i64 d], .int .i64 y] w fun e w' => e = .returned (.bool true) ∧ Below w.heap.size w w' := by
  obtain ⟨b1, b2⟩ := ba
  have ck := fun w => check_c s k a f x 0 h w b1 b2
  have e1 := freeV_ok (n := n) (d := d) h (by omega) (by omega) (by omega) (by omega)
  obtain ⟨_, _, hfit⟩ := chkC_zero h
  obtain ⟨k1, k4, a0, a9, _, _, _⟩ := fitB_bd hfit
  obtain ⟨q0, q1⟩ := part_bd (a := a) (n := n) (d := d) a0 (by omega) (by omega) (by omega)
  have hm := mul_bd (x := a) (r := n) 1048576 (by omega) (by omega) (by omega) (by omega)
  have m0 : 0 ≤ a * n := Int.mul_nonneg a0 (by omega)
  have m1 : a * n ≤ 9223372036854775807 := by omega
  clear hm hfit
  rw [if_neg hk] at e1
  have fr := fun w => free_v s k a f n d x _ _ e1 w b1 b2
  have ch := fun w => charge_v s k a f y n d x _ _ (chargeV_amt e1 (amtB_mk_no (.inl hy2))) w b1 b2
  have t2 : (k == 2) = false := by simpa using hk

  clear h e1 hk 

  have K0 := kc_new w s k a f n d x D
  have C0 := fun w D => codes_any w D
  go_enter Tryd.func11, Tryd.ntmps11
  go_wp2_with (fail)
  refine (C0 _ K0.2.2.2.2.2).mono ?_
  rintro e w1 ⟨rfl, hb⟩
  have H := K0.step hb
  clear hb K0 C0
  obtain ⟨B, ⟨⟨d0, d1, d2, d3, d4⟩, dz⟩, p0, p1, pz, T⟩ := id H
  have r0 := fun d os => cell_regrown p0 d os
  have r1 := fun d os => cell_regrown p1 d os
  go_wp2_with (fail)
  refine wp_region_quiet_below mixedAll (by kernel_rfl) ?_
  repeat (go_big_quiet_step (fail))
  refine wpQuiet_nil ?_
  intro _ hw'
  obtain ⟨⟨dq, osq⟩, hw''⟩ := hw'
  subst hw''
  replace H := H.step (below_regrown w1 dq osq)
  generalize grow (redrawn w1 dq) osq = W1 at *
  clear r0 r1
  clear B d0 d1 d2 d3 d4 dz p0 p1 pz T
  obtain ⟨B, ⟨⟨d0, d1, d2, d3, d4⟩, dz⟩, p0, p1, pz, T⟩ := id H
  go_wp2_with (fail)
  refine (ck _).mono ?_
  rintro e w2 ⟨rfl, hb⟩
  replace H := H.step hb
  clear hb
  clear B d0 d1 d2 d3 d4 dz p0 p1 pz T
  obtain ⟨B, ⟨⟨d0, d1, d2, d3, d4⟩, dz⟩, p0, p1, pz, T⟩ := id H
  go_wp2_with (fail)
  refine (fr _).mono ?_
  rintro e w3 ⟨rfl, hb⟩
  replace H := H.step hb
  clear hb
  clear B d0 d1 d2 d3 d4 dz p0 p1 pz T
  obtain ⟨B, ⟨⟨d0, d1, d2, d3, d4⟩, dz⟩, p0, p1, pz, T⟩ := id H
  go_wp2_with (fail)
  refine (ch _).mono ?_
  rintro e w4 ⟨rfl, hb⟩
  replace H := H.step hb
  clear hb
  clear B d0 d1 d2 d3 d4 dz p0 p1 pz T
  obtain ⟨B, ⟨⟨d0, d1, d2, d3, d4⟩, dz⟩, p0, p1, pz, T⟩ := id H
  go_wp2
  go_ret
  first | exact ⟨rfl, B⟩ | exact ⟨ret_b (beq_iff_eq.2 (by omega)), B⟩

set_option maxHeartbeats 2000000 in
set_option maxRecDepth 100000 in
theorem frees_f3 (s k a f : Int) (x : Bool) (n d y : Int) (w : World) (D : Tab w) (bs : -9223372036854775808 ≤ s ∧ s ≤ 9223372036854775807) (bk : -9223372036854775808 ≤ k ∧ k ≤ 9223372036854775807) (ba : -9223372036854775808 ≤ a ∧ a ≤ 9223372036854775807) (bf : -9223372036854775808 ≤ f ∧ f ≤ 9223372036854775807) (bn : -9223372036854775808 ≤ n ∧ n ≤ 9223372036854775807) (bd : -9223372036854775808 ≤ d ∧ d ≤ 9223372036854775807) (by' : -9223372036854775808 ≤ y ∧ y ≤ 9223372036854775807) (h : chkC s k a f = 0) (h1 : ¬ n < 0) (h2 : ¬ d < 1) (h3 : ¬ d < n) (h4 : ¬ 1048576 < d) (hk : ¬ k = 2) (hy : ¬ 100000000000 < y) (hy2 : ¬ y < -100000000000) (h9 : k = 4) :
    Calls Tryd.prog 11 #[.agg #[.int .i64 s, .int .i64 k, .int .i64 a, .int .i64 f, .bool x], .agg #[.int .i64 n, .int .i64 d], .int .i64 y] w fun e w' => e = .returned (.bool true) ∧ Below w.heap.size w w' := by
  obtain ⟨b1, b2⟩ := ba
  have ck := fun w => check_c s k a f x 0 h w b1 b2
  have e1 := freeV_ok (n := n) (d := d) h (by omega) (by omega) (by omega) (by omega)
  obtain ⟨_, _, hfit⟩ := chkC_zero h
  obtain ⟨k1, k4, a0, a9, _, _, _⟩ := fitB_bd hfit
  obtain ⟨q0, q1⟩ := part_bd (a := a) (n := n) (d := d) a0 (by omega) (by omega) (by omega)
  have hm := mul_bd (x := a) (r := n) 1048576 (by omega) (by omega) (by omega) (by omega)
  have m0 : 0 ≤ a * n := Int.mul_nonneg a0 (by omega)
  have m1 : a * n ≤ 9223372036854775807 := by omega
  clear hm hfit
  rw [if_neg hk] at e1
  have fr := fun w => free_v s k a f n d x _ _ e1 w b1 b2
  have ch := fun w => charge_v s k a f y n d x _ _ (chargeV_none e1 (amtB_mk (by omega) (by omega)) h9) w b1 b2
  have t2 : (k == 2) = false := by simpa using hk
  have t3 : (k == 4) = true := by simpa using h9
  clear h e1 hk h9

  have K0 := kc_new w s k a f n d x D
  have C0 := fun w D => codes_any w D
  go_enter Tryd.func11, Tryd.ntmps11
  go_wp2_with (fail)
  refine (C0 _ K0.2.2.2.2.2).mono ?_
  rintro e w1 ⟨rfl, hb⟩
  have H := K0.step hb
  clear hb K0 C0
  obtain ⟨B, ⟨⟨d0, d1, d2, d3, d4⟩, dz⟩, p0, p1, pz, T⟩ := id H
  have r0 := fun d os => cell_regrown p0 d os
  have r1 := fun d os => cell_regrown p1 d os
  go_wp2_with (fail)
  refine wp_region_quiet_below mixedAll (by kernel_rfl) ?_
  repeat (go_big_quiet_step (fail))
  refine wpQuiet_nil ?_
  intro _ hw'
  obtain ⟨⟨dq, osq⟩, hw''⟩ := hw'
  subst hw''
  replace H := H.step (below_regrown w1 dq osq)
  generalize grow (redrawn w1 dq) osq = W1 at *
  clear r0 r1
  clear B d0 d1 d2 d3 d4 dz p0 p1 pz T
  obtain ⟨B, ⟨⟨d0, d1, d2, d3, d4⟩, dz⟩, p0, p1, pz, T⟩ := id H
  go_wp2_with (fail)
  refine (ck _).mono ?_
  rintro e w2 ⟨rfl, hb⟩
  replace H := H.step hb
  clear hb
  clear B d0 d1 d2 d3 d4 dz p0 p1 pz T
  obtain ⟨B, ⟨⟨d0, d1, d2, d3, d4⟩, dz⟩, p0, p1, pz, T⟩ := id H
  go_wp2_with (fail)
  refine (fr _).mono ?_
  rintro e w3 ⟨rfl, hb⟩
  replace H := H.step hb
  clear hb
  clear B d0 d1 d2 d3 d4 dz p0 p1 pz T
  obtain ⟨B, ⟨⟨d0, d1, d2, d3, d4⟩, dz⟩, p0, p1, pz, T⟩ := id H
  go_wp2_with (fail)
  refine (ch _).mono ?_
  rintro e w4 ⟨rfl, hb⟩
  replace H := H.step hb
  clear hb
  clear B d0 d1 d2 d3 d4 dz p0 p1 pz T
  obtain ⟨B, ⟨⟨d0, d1, d2, d3, d4⟩, dz⟩, p0, p1, pz, T⟩ := id H
  go_wp2
  go_ret
  first | exact ⟨rfl, B⟩ | exact ⟨ret_b (beq_iff_eq.2 (by omega)), B⟩

set_option maxHeartbeats 2000000 in
set_option maxRecDepth 100000 in
theorem frees_f4 (s k a f : Int) (x : Bool) (n d y : Int) (w : World) (D : Tab w) (bs : -9223372036854775808 ≤ s ∧ s ≤ 9223372036854775807) (bk : -9223372036854775808 ≤ k ∧ k ≤ 9223372036854775807) (ba : -9223372036854775808 ≤ a ∧ a ≤ 9223372036854775807) (bf : -9223372036854775808 ≤ f ∧ f ≤ 9223372036854775807) (bn : -9223372036854775808 ≤ n ∧ n ≤ 9223372036854775807) (bd : -9223372036854775808 ≤ d ∧ d ≤ 9223372036854775807) (by' : -9223372036854775808 ≤ y ∧ y ≤ 9223372036854775807) (h : chkC s k a f = 0) (h1 : ¬ n < 0) (h2 : ¬ d < 1) (h3 : ¬ d < n) (h4 : ¬ 1048576 < d) (hk : ¬ k = 2) (hy : ¬ 100000000000 < y) (hy2 : ¬ y < -100000000000) (h9 : ¬ k = 4) (hl : 100000000000 < y - a * n / d) :
    Calls Tryd.prog 11 #[.agg #[.int .i64 s, .int .i64 k, .int .i64 a, .int .i64 f, .bool x], .agg #[.int .i64 n, .int .i64 d], .int .i64 y] w fun e w' => e = .returned (.bool true) ∧ Below w.heap.size w w' := by
  exfalso
  obtain ⟨_, _, hfit⟩ := chkC_zero h
  obtain ⟨k1, k4, a0, a9, _, _, _⟩ := fitB_bd hfit
  obtain ⟨q0, q1⟩ := part_bd (a := a) (n := n) (d := d) a0 (by omega) (by omega) (by omega)
  omega

set_option maxHeartbeats 2000000 in
set_option maxRecDepth 100000 in
theorem frees_f5 (s k a f : Int) (x : Bool) (n d y : Int) (w : World) (D : Tab w) (bs : -9223372036854775808 ≤ s ∧ s ≤ 9223372036854775807) (bk : -9223372036854775808 ≤ k ∧ k ≤ 9223372036854775807) (ba : -9223372036854775808 ≤ a ∧ a ≤ 9223372036854775807) (bf : -9223372036854775808 ≤ f ∧ f ≤ 9223372036854775807) (bn : -9223372036854775808 ≤ n ∧ n ≤ 9223372036854775807) (bd : -9223372036854775808 ≤ d ∧ d ≤ 9223372036854775807) (by' : -9223372036854775808 ≤ y ∧ y ≤ 9223372036854775807) (h : chkC s k a f = 0) (h1 : ¬ n < 0) (h2 : ¬ d < 1) (h3 : ¬ d < n) (h4 : ¬ 1048576 < d) (hk : ¬ k = 2) (hy : ¬ 100000000000 < y) (hy2 : ¬ y < -100000000000) (h9 : ¬ k = 4) (hl : ¬ 100000000000 < y - a * n / d) (hl2 : y - a * n / d < -100000000000) :
    Calls Tryd.prog 11 #[.agg #[.int .i64 s, .int .i64 k, .int .i64 a, .int .i64 f, .bool x], .agg #[.int .i64 n, .int .i64 d], .int .i64 y] w fun e w' => e = .returned (.bool true) ∧ Below w.heap.size w w' := by
  obtain ⟨b1, b2⟩ := ba
  have ck := fun w => check_c s k a f x 0 h w b1 b2
  have e1 := freeV_ok (n := n) (d := d) h (by omega) (by omega) (by omega) (by omega)
  obtain ⟨_, _, hfit⟩ := chkC_zero h
  obtain ⟨k1, k4, a0, a9, _, _, _⟩ := fitB_bd hfit
  obtain ⟨q0, q1⟩ := part_bd (a := a) (n := n) (d := d) a0 (by omega) (by omega) (by omega)
  have hm := mul_bd (x := a) (r := n) 1048576 (by omega) (by omega) (by omega) (by omega)
  have m0 : 0 ≤ a * n := Int.mul_nonneg a0 (by omega)
  have m1 : a * n ≤ 9223372036854775807 := by omega
  clear hm hfit
  rw [if_neg hk] at e1
  have fr := fun w => free_v s k a f n d x _ _ e1 w b1 b2
  have ch := fun w => charge_v s k a f y n d x _ _ (chargeV_over e1 (amtB_mk (by omega) (by omega)) h9 (amtB_mk_no (.inl hl2))) w b1 b2
  have t2 : (k == 2) = false := by simpa using hk
  have t3 : (k == 4) = false := by simp; omega
  clear h e1 hk h9

  have K0 := kc_new w s k a f n d x D
  have C0 := fun w D => codes_any w D
  go_enter Tryd.func11, Tryd.ntmps11
  go_wp2_with (fail)
  refine (C0 _ K0.2.2.2.2.2).mono ?_
  rintro e w1 ⟨rfl, hb⟩
  have H := K0.step hb
  clear hb K0 C0
  obtain ⟨B, ⟨⟨d0, d1, d2, d3, d4⟩, dz⟩, p0, p1, pz, T⟩ := id H
  have r0 := fun d os => cell_regrown p0 d os
  have r1 := fun d os => cell_regrown p1 d os
  go_wp2_with (fail)
  refine wp_region_quiet_below mixedAll (by kernel_rfl) ?_
  repeat (go_big_quiet_step (fail))
  refine wpQuiet_nil ?_
  intro _ hw'
  obtain ⟨⟨dq, osq⟩, hw''⟩ := hw'
  subst hw''
  replace H := H.step (below_regrown w1 dq osq)
  generalize grow (redrawn w1 dq) osq = W1 at *
  clear r0 r1
  clear B d0 d1 d2 d3 d4 dz p0 p1 pz T
  obtain ⟨B, ⟨⟨d0, d1, d2, d3, d4⟩, dz⟩, p0, p1, pz, T⟩ := id H
  go_wp2_with (fail)
  refine (ck _).mono ?_
  rintro e w2 ⟨rfl, hb⟩
  replace H := H.step hb
  clear hb
  clear B d0 d1 d2 d3 d4 dz p0 p1 pz T
  obtain ⟨B, ⟨⟨d0, d1, d2, d3, d4⟩, dz⟩, p0, p1, pz, T⟩ := id H
  go_wp2_with (fail)
  refine (fr _).mono ?_
  rintro e w3 ⟨rfl, hb⟩
  replace H := H.step hb
  clear hb
  clear B d0 d1 d2 d3 d4 dz p0 p1 pz T
  obtain ⟨B, ⟨⟨d0, d1, d2, d3, d4⟩, dz⟩, p0, p1, pz, T⟩ := id H
  go_wp2_with (fail)
  refine (ch _).mono ?_
  rintro e w4 ⟨rfl, hb⟩
  replace H := H.step hb
  clear hb
  clear B d0 d1 d2 d3 d4 dz p0 p1 pz T
  obtain ⟨B, ⟨⟨d0, d1, d2, d3, d4⟩, dz⟩, p0, p1, pz, T⟩ := id H
  go_wp2
  go_ret
  first | exact ⟨rfl, B⟩ | exact ⟨ret_b (beq_iff_eq.2 (by omega)), B⟩

set_option maxHeartbeats 2000000 in
set_option maxRecDepth 100000 in
theorem frees_f6 (s k a f : Int) (x : Bool) (n d y : Int) (w : World) (D : Tab w) (bs : -9223372036854775808 ≤ s ∧ s ≤ 9223372036854775807) (bk : -9223372036854775808 ≤ k ∧ k ≤ 9223372036854775807) (ba : -9223372036854775808 ≤ a ∧ a ≤ 9223372036854775807) (bf : -9223372036854775808 ≤ f ∧ f ≤ 9223372036854775807) (bn : -9223372036854775808 ≤ n ∧ n ≤ 9223372036854775807) (bd : -9223372036854775808 ≤ d ∧ d ≤ 9223372036854775807) (by' : -9223372036854775808 ≤ y ∧ y ≤ 9223372036854775807) (h : chkC s k a f = 0) (h1 : ¬ n < 0) (h2 : ¬ d < 1) (h3 : ¬ d < n) (h4 : ¬ 1048576 < d) (hk : ¬ k = 2) (hy : ¬ 100000000000 < y) (hy2 : ¬ y < -100000000000) (h9 : ¬ k = 4) (hl : ¬ 100000000000 < y - a * n / d) (hl2 : ¬ y - a * n / d < -100000000000) (hz : 0 < y - a * n / d) :
    Calls Tryd.prog 11 #[.agg #[.int .i64 s, .int .i64 k, .int .i64 a, .int .i64 f, .bool x], .agg #[.int .i64 n, .int .i64 d], .int .i64 y] w fun e w' => e = .returned (.bool true) ∧ Below w.heap.size w w' := by
  obtain ⟨b1, b2⟩ := ba
  have ck := fun w => check_c s k a f x 0 h w b1 b2
  have e1 := freeV_ok (n := n) (d := d) h (by omega) (by omega) (by omega) (by omega)
  obtain ⟨_, _, hfit⟩ := chkC_zero h
  obtain ⟨k1, k4, a0, a9, _, _, _⟩ := fitB_bd hfit
  obtain ⟨q0, q1⟩ := part_bd (a := a) (n := n) (d := d) a0 (by omega) (by omega) (by omega)
  have hm := mul_bd (x := a) (r := n) 1048576 (by omega) (by omega) (by omega) (by omega)
  have m0 : 0 ≤ a * n := Int.mul_nonneg a0 (by omega)
  have m1 : a * n ≤ 9223372036854775807 := by omega
  clear hm hfit
  rw [if_neg hk] at e1
  have fr := fun w => free_v s k a f n d x _ _ e1 w b1 b2
  have ch := fun w => charge_v s k a f y n d x _ _ ((chargeV_ok e1 (amtB_mk (by omega) (by omega)) h9 (amtB_mk (by omega) (by omega))).trans (by rw [Int.max_eq_left (by omega)])) w b1 b2
  have t2 : (k == 2) = false := by simpa using hk
  have t3 : (k == 4) = false := by simp; omega
  clear h e1 hk h9

  have K0 := kc_new w s k a f n d x D
  have C0 := fun w D => codes_any w D
  go_enter Tryd.func11, Tryd.ntmps11
  go_wp2_with (fail)
  refine (C0 _ K0.2.2.2.2.2).mono ?_
  rintro e w1 ⟨rfl, hb⟩
  have H := K0.step hb
  clear hb K0 C0
  obtain ⟨B, ⟨⟨d0, d1, d2, d3, d4⟩, dz⟩, p0, p1, pz, T⟩ := id H
  have r0 := fun d os => cell_regrown p0 d os
  have r1 := fun d os => cell_regrown p1 d os
  go_wp2_with (fail)
  refine wp_region_quiet_below mixedAll (by kernel_rfl) ?_
  repeat (go_big_quiet_step (fail))
  refine wpQuiet_nil ?_
  intro _ hw'
  obtain ⟨⟨dq, osq⟩, hw''⟩ := hw'
  subst hw''
  replace H := H.step (below_regrown w1 dq osq)
  generalize grow (redrawn w1 dq) osq = W1 at *
  clear r0 r1
  clear B d0 d1 d2 d3 d4 dz p0 p1 pz T
  obtain ⟨B, ⟨⟨d0, d1, d2, d3, d4⟩, dz⟩, p0, p1, pz, T⟩ := id H
  go_wp2_with (fail)
  refine (ck _).mono ?_
  rintro e w2 ⟨rfl, hb⟩
  replace H := H.step hb
  clear hb
  clear B d0 d1 d2 d3 d4 dz p0 p1 pz T
  obtain ⟨B, ⟨⟨d0, d1, d2, d3, d4⟩, dz⟩, p0, p1, pz, T⟩ := id H
  go_wp2_with (fail)
  refine (fr _).mono ?_
  rintro e w3 ⟨rfl, hb⟩
  replace H := H.step hb
  clear hb
  clear B d0 d1 d2 d3 d4 dz p0 p1 pz T
  obtain ⟨B, ⟨⟨d0, d1, d2, d3, d4⟩, dz⟩, p0, p1, pz, T⟩ := id H
  go_wp2_with (fail)
  refine (ch _).mono ?_
  rintro e w4 ⟨rfl, hb⟩
  replace H := H.step hb
  clear hb
  clear B d0 d1 d2 d3 d4 dz p0 p1 pz T
  obtain ⟨B, ⟨⟨d0, d1, d2, d3, d4⟩, dz⟩, p0, p1, pz, T⟩ := id H
  go_wp2
  go_ret
  first | exact ⟨rfl, B⟩ | exact ⟨ret_b (beq_iff_eq.2 (by omega)), B⟩

set_option maxHeartbeats 2000000 in
set_option maxRecDepth 100000 in
theorem frees_f7 (s k a f : Int) (x : Bool) (n d y : Int) (w : World) (D : Tab w) (bs : -9223372036854775808 ≤ s ∧ s ≤ 9223372036854775807) (bk : -9223372036854775808 ≤ k ∧ k ≤ 9223372036854775807) (ba : -9223372036854775808 ≤ a ∧ a ≤ 9223372036854775807) (bf : -9223372036854775808 ≤ f ∧ f ≤ 9223372036854775807) (bn : -9223372036854775808 ≤ n ∧ n ≤ 9223372036854775807) (bd : -9223372036854775808 ≤ d ∧ d ≤ 9223372036854775807) (by' : -9223372036854775808 ≤ y ∧ y ≤ 9223372036854775807) (h : chkC s k a f = 0) (h1 : ¬ n < 0) (h2 : ¬ d < 1) (h3 : ¬ d < n) (h4 : ¬ 1048576 < d) (hk : ¬ k = 2) (hy : ¬ 100000000000 < y) (hy2 : ¬ y < -100000000000) (h9 : ¬ k = 4) (hl : ¬ 100000000000 < y - a * n / d) (hl2 : ¬ y - a * n / d < -100000000000) (hz : ¬ 0 < y - a * n / d) :
    Calls Tryd.prog 11 #[.agg #[.int .i64 s, .int .i64 k, .int .i64 a, .int .i64 f, .bool x], .agg #[.int .i64 n, .int .i64 d], .int .i64 y] w fun e w' => e = .returned (.bool true) ∧ Below w.heap.size w w' := by
  obtain ⟨b1, b2⟩ := ba
  have ck := fun w => check_c s k a f x 0 h w b1 b2
  have e1 := freeV_ok (n := n) (d := d) h (by omega) (by omega) (by omega) (by omega)
  obtain ⟨_, _, hfit⟩ := chkC_zero h
  obtain ⟨k1, k4, a0, a9, _, _, _⟩ := fitB_bd hfit
  obtain ⟨q0, q1⟩ := part_bd (a := a) (n := n) (d := d) a0 (by omega) (by omega) (by omega)
  have hm := mul_bd (x := a) (r := n) 1048576 (by omega) (by omega) (by omega) (by omega)
  have m0 : 0 ≤ a * n := Int.mul_nonneg a0 (by omega)
  have m1 : a * n ≤ 9223372036854775807 := by omega
  clear hm hfit
  rw [if_neg hk] at e1
  have fr := fun w => free_v s k a f n d x _ _ e1 w b1 b2
  have ch := fun w => charge_v s k a f y n d x _ _ ((chargeV_ok e1 (amtB_mk (by omega) (by omega)) h9 (amtB_mk (by omega) (by omega))).trans (by rw [Int.max_eq_right (by omega)])) w b1 b2
  have t2 : (k == 2) = false := by simpa using hk
  have t3 : (k == 4) = false := by simp; omega
  clear h e1 hk h9

  have K0 := kc_new w s k a f n d x D
  have C0 := fun w D => codes_any w D
  go_enter Tryd.func11, Tryd.ntmps11
  go_wp2_with (fail)
  refine (C0 _ K0.2.2.2.2.2).mono ?_
  rintro e w1 ⟨rfl, hb⟩
  have H := K0.step hb
  clear hb K0 C0
  obtain ⟨B, ⟨⟨d0, d1, d2, d3, d4⟩, dz⟩, p0, p1, pz, T⟩ := id H
  have r0 := fun d os => cell_regrown p0 d os
  have r1 := fun d os => cell_regrown p1 d os
  go_wp2_with (fail)
  refine wp_region_quiet_below mixedAll (by kernel_rfl) ?_
  repeat (go_big_quiet_step (fail))
  refine wpQuiet_nil ?_
  intro _ hw'
  obtain ⟨⟨dq, osq⟩, hw''⟩ := hw'
  subst hw''
  replace H := H.step (below_regrown w1 dq osq)
  generalize grow (redrawn w1 dq) osq = W1 at *
  clear r0 r1
  clear B d0 d1 d2 d3 d4 dz p0 p1 pz T
  obtain ⟨B, ⟨⟨d0, d1, d2, d3, d4⟩, dz⟩, p0, p1, pz, T⟩ := id H
  go_wp2_with (fail)
  refine (ck _).mono ?_
  rintro e w2 ⟨rfl, hb⟩
  replace H := H.step hb
  clear hb
  clear B d0 d1 d2 d3 d4 dz p0 p1 pz T
  obtain ⟨B, ⟨⟨d0, d1, d2, d3, d4⟩, dz⟩, p0, p1, pz, T⟩ := id H
  go_wp2_with (fail)
  refine (fr _).mono ?_
  rintro e w3 ⟨rfl, hb⟩
  replace H := H.step hb
  clear hb
  clear B d0 d1 d2 d3 d4 dz p0 p1 pz T
  obtain ⟨B, ⟨⟨d0, d1, d2, d3, d4⟩, dz⟩, p0, p1, pz, T⟩ := id H
  go_wp2_with (fail)
  refine (ch _).mono ?_
  rintro e w4 ⟨rfl, hb⟩
  replace H := H.step hb
  clear hb
  clear B d0 d1 d2 d3 d4 dz p0 p1 pz T
  obtain ⟨B, ⟨⟨d0, d1, d2, d3, d4⟩, dz⟩, p0, p1, pz, T⟩ := id H
  go_wp2
  go_ret
  first | exact ⟨rfl, B⟩ | exact ⟨ret_b (beq_iff_eq.2 (by omega)), B⟩

theorem wCodeFrees (s k a f : Int) (x : Bool) (n d y : Int) (w : World) (D : Tab w) (bs : -9223372036854775808 ≤ s ∧ s ≤ 9223372036854775807) (bk : -9223372036854775808 ≤ k ∧ k ≤ 9223372036854775807) (ba : -9223372036854775808 ≤ a ∧ a ≤ 9223372036854775807) (bf : -9223372036854775808 ≤ f ∧ f ≤ 9223372036854775807) (bn : -9223372036854775808 ≤ n ∧ n ≤ 9223372036854775807) (bd : -9223372036854775808 ≤ d ∧ d ≤ 9223372036854775807) (by' : -9223372036854775808 ≤ y ∧ y ≤ 9223372036854775807) :
    Calls Tryd.prog 11 #[.agg #[.int .i64 s, .int .i64 k, .int .i64 a, .int .i64 f, .bool x], .agg #[.int .i64 n, .int .i64 d], .int .i64 y] w fun e w' => e = .returned (.bool true) ∧ Below w.heap.size w w' := by
  by_cases h : chkC s k a f = 0
  · by_cases h1 : n < 0
    · exact frees_r1 s k a f x n d y w D bs bk ba bf bn bd by' h h1
    by_cases h2 : d < 1
    · exact frees_r2 s k a f x n d y w D bs bk ba bf bn bd by' h h1 h2
    by_cases h3 : d < n
    · exact frees_r3 s k a f x n d y w D bs bk ba bf bn bd by' h h1 h2 h3
    by_cases h4 : 1048576 < d
    · exact frees_r4 s k a f x n d y w D bs bk ba bf bn bd by' h h1 h2 h3 h4
    by_cases hk : k = 2
    · by_cases hy : 100000000000 < y
      · exact frees_e1 s k a f x n d y w D bs bk ba bf bn bd by' h h1 h2 h3 h4 hk hy
      by_cases hy2 : y < -100000000000
      · exact frees_e2 s k a f x n d y w D bs bk ba bf bn bd by' h h1 h2 h3 h4 hk hy hy2
      by_cases hl : 100000000000 < y - -(a * n / d)
      · exact frees_e4 s k a f x n d y w D bs bk ba bf bn bd by' h h1 h2 h3 h4 hk hy hy2 hl
      by_cases hl2 : y - -(a * n / d) < -100000000000
      · exact frees_e5 s k a f x n d y w D bs bk ba bf bn bd by' h h1 h2 h3 h4 hk hy hy2 hl hl2
      by_cases hz : 0 < y - -(a * n / d)
      · exact frees_e6 s k a f x n d y w D bs bk ba bf bn bd by' h h1 h2 h3 h4 hk hy hy2 hl hl2 hz
      · exact frees_e7 s k a f x n d y w D bs bk ba bf bn bd by' h h1 h2 h3 h4 hk hy hy2 hl hl2 hz
    · by_cases hy : 100000000000 < y
      · exact frees_f1 s k a f x n d y w D bs bk ba bf bn bd by' h h1 h2 h3 h4 hk hy
      by_cases hy2 : y < -100000000000
      · exact frees_f2 s k a f x n d y w D bs bk ba bf bn bd by' h h1 h2 h3 h4 hk hy hy2
      by_cases h9 : k = 4
      · exact frees_f3 s k a f x n d y w D bs bk ba bf bn bd by' h h1 h2 h3 h4 hk hy hy2 h9
      by_cases hl : 100000000000 < y - a * n / d
      · exact frees_f4 s k a f x n d y w D bs bk ba bf bn bd by' h h1 h2 h3 h4 hk hy hy2 h9 hl
      by_cases hl2 : y - a * n / d < -100000000000
      · exact frees_f5 s k a f x n d y w D bs bk ba bf bn bd by' h h1 h2 h3 h4 hk hy hy2 h9 hl hl2
      by_cases hz : 0 < y - a * n / d
      · exact frees_f6 s k a f x n d y w D bs bk ba bf bn bd by' h h1 h2 h3 h4 hk hy hy2 h9 hl hl2 hz
      · exact frees_f7 s k a f x n d y w D bs bk ba bf bn bd by' h h1 h2 h3 h4 hk hy hy2 h9 hl hl2 hz
  · exact frees_bad s k a f x n d y w D bs bk ba bf bn bd by' h
end Go.Proofs.YthndkplmhpbgdaaDoor
