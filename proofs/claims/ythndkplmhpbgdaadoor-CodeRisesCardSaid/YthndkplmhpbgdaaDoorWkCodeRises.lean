/- CodeRises: the whole walk. -/
import Derived.Test.YthndkplmhpbgdaaDoorKeepC
import Derived.Lib.QuietBelow
import Derived.BigQuiet
namespace Go.Proofs.YthndkplmhpbgdaaDoor
open Go.RowKit Go.Sort
set_option linter.unusedVariables false
theorem part_up {a n d : Int} (ha : 0 ≤ a) (hd : 1 ≤ d) : a * n / d ≤ a * (n + 1) / d :=
  Int.ediv_le_ediv (by omega) (by rw [Int.mul_add]; omega)
theorem part_all {a d : Int} (hd : 1 ≤ d) : a * d / d = a := Int.mul_ediv_cancel a (by omega)
theorem mixedAll : Tryd.prog.follows .mixedOrders = true := by kernel_rfl

set_option maxHeartbeats 2000000 in
set_option maxRecDepth 100000 in
theorem rises_bad (s k a f : Int) (x : Bool) (n d y : Int) (w : World) (D : Tab w) (bs : -9223372036854775808 ≤ s ∧ s ≤ 9223372036854775807) (bk : -9223372036854775808 ≤ k ∧ k ≤ 9223372036854775807) (ba : -9223372036854775808 ≤ a ∧ a ≤ 9223372036854775807) (bf : -9223372036854775808 ≤ f ∧ f ≤ 9223372036854775807) (bn : -9223372036854775808 ≤ n ∧ n ≤ 9223372036854775807) (bd : -9223372036854775808 ≤ d ∧ d ≤ 9223372036854775807) (by' : -9223372036854775808 ≤ y ∧ y ≤ 9223372036854775807) (h : chkC s k a f ≠ 0) :
    Calls Tryd.prog 12 #[.agg #[.int .i64 s, .int .i64 k, .int .i64 a, .int .i64 f, .bool x], .agg #[.int .i64 n, .int .i64 d], .int .i64 y] w fun e w' => e = .returned (.bool true) ∧ Below w.heap.size w w' := by
  have ck := fun w => check_any s k a f x w ba.1 ba.2
  have t1 : (chkC s k a f != 0) = true := by simpa using h
  clear h
  generalize chkC s k a f = v at *
  have K0 := kc_new w s k a f n d x D
  have C0 := fun w D => codes_any w D
  go_enter Tryd.func12, Tryd.ntmps12
  go_wp2_with (fail)
  refine (C0 _ K0.2.2.2.2.2).mono ?_
  rintro e w1 ⟨rfl, hb⟩
  have H := K0.step hb
  clear hb K0 C0
  obtain ⟨B, ⟨⟨d0, d1, d2, d3, d4⟩, dz⟩, p0, p1, pz, T⟩ := id H
  have r0 := fun d os => cell_regrown p0 d os
  have r1 := fun d os => cell_regrown p1 d os
  go_wp2_with (fail)
  refine wp_region_quiet_below mixedAll (by kernel_rfl) ?_
  repeat (go_big_quiet_step (fail))
  refine wpQuiet_nil ?_
  intro _ hw'
  obtain ⟨⟨dq, osq⟩, hw''⟩ := hw'
  subst hw''
  replace H := H.step (below_regrown w1 dq osq)
  generalize grow (redrawn w1 dq) osq = W1 at *
  clear r0 r1
  clear B d0 d1 d2 d3 d4 dz p0 p1 pz T
  obtain ⟨B, ⟨⟨d0, d1, d2, d3, d4⟩, dz⟩, p0, p1, pz, T⟩ := id H
  go_wp2_with (fail)
  refine (ck _).mono ?_
  rintro e w2 ⟨rfl, hb⟩
  replace H := H.step hb
  clear hb
  clear B d0 d1 d2 d3 d4 dz p0 p1 pz T
  obtain ⟨B, ⟨⟨d0, d1, d2, d3, d4⟩, dz⟩, p0, p1, pz, T⟩ := id H
  go_wp2
  go_ret
  first | exact ⟨rfl, B⟩ | exact ⟨ret_b (beq_iff_eq.2 (by omega)), B⟩

set_option maxHeartbeats 2000000 in
set_option maxRecDepth 100000 in
theorem rises_o1 (s k a f : Int) (x : Bool) (n d y : Int) (w : World) (D : Tab w) (bs : -9223372036854775808 ≤ s ∧ s ≤ 9223372036854775807) (bk : -9223372036854775808 ≤ k ∧ k ≤ 9223372036854775807) (ba : -9223372036854775808 ≤ a ∧ a ≤ 9223372036854775807) (bf : -9223372036854775808 ≤ f ∧ f ≤ 9223372036854775807) (bn : -9223372036854775808 ≤ n ∧ n ≤ 9223372036854775807) (bd : -9223372036854775808 ≤ d ∧ d ≤ 9223372036854775807) (by' : -9223372036854775808 ≤ y ∧ y ≤ 9223372036854775807) (h : chkC s k a f = 0)  (h1 : n < 0) :
    Calls Tryd.prog 12 #[.agg #[.int .i64 s, .int .i64 k, .int .i64 a, .int .i64 f, .bool x], .agg #[.int .i64 n, .int .i64 d], .int .i64 y] w fun e w' => e = .returned (.bool true) ∧ Below w.heap.size w w' := by
  obtain ⟨b1, b2⟩ := ba
  have ck := fun w => check_c s k a f x 0 h w b1 b2
  clear h
  have K0 := kc_new w s k a f n d x D
  have C0 := fun w D => codes_any w D
  go_enter Tryd.func12, Tryd.ntmps12
  go_wp2_with (fail)
  refine (C0 _ K0.2.2.2.2.2).mono ?_
  rintro e w1 ⟨rfl, hb⟩
  have H := K0.step hb
  clear hb K0 C0
  obtain ⟨B, ⟨⟨d0, d1, d2, d3, d4⟩, dz⟩, p0, p1, pz, T⟩ := id H
  have r0 := fun d os => cell_regrown p0 d os
  have r1 := fun d os => cell_regrown p1 d os
  go_wp2_with (fail)
  refine wp_region_quiet_below mixedAll (by kernel_rfl) ?_
  repeat (go_big_quiet_step (fail))
  refine wpQuiet_nil ?_
  intro _ hw'
  obtain ⟨⟨dq, osq⟩, hw''⟩ := hw'
  subst hw''
  replace H := H.step (below_regrown w1 dq osq)
  generalize grow (redrawn w1 dq) osq = W1 at *
  clear r0 r1
  clear B d0 d1 d2 d3 d4 dz p0 p1 pz T
  obtain ⟨B, ⟨⟨d0, d1, d2, d3, d4⟩, dz⟩, p0, p1, pz, T⟩ := id H
  go_wp2_with (fail)
  refine (ck _).mono ?_
  rintro e w2 ⟨rfl, hb⟩
  replace H := H.step hb
  clear hb
  clear B d0 d1 d2 d3 d4 dz p0 p1 pz T
  obtain ⟨B, ⟨⟨d0, d1, d2, d3, d4⟩, dz⟩, p0, p1, pz, T⟩ := id H
  go_wp2
  go_ret
  first | exact ⟨rfl, B⟩ | exact ⟨ret_b (beq_iff_eq.2 (by omega)), B⟩

set_option maxHeartbeats 2000000 in
set_option maxRecDepth 100000 in
theorem rises_o2 (s k a f : Int) (x : Bool) (n d y : Int) (w : World) (D : Tab w) (bs : -9223372036854775808 ≤ s ∧ s ≤ 9223372036854775807) (bk : -9223372036854775808 ≤ k ∧ k ≤ 9223372036854775807) (ba : -9223372036854775808 ≤ a ∧ a ≤ 9223372036854775807) (bf : -9223372036854775808 ≤ f ∧ f ≤ 9223372036854775807) (bn : -9223372036854775808 ≤ n ∧ n ≤ 9223372036854775807) (bd : -9223372036854775808 ≤ d ∧ d ≤ 9223372036854775807) (by' : -9223372036854775808 ≤ y ∧ y ≤ 9223372036854775807) (h : chkC s k a f = 0) (h1 : ¬ n < 0) (h2 : d < 2) :
    Calls Tryd.prog 12 #[.agg #[.int .i64 s, .int .i64 k, .int .i64 a, .int .i64 f, .bool x], .agg #[.int .i64 n, .int .i64 d], .int .i64 y] w fun e w' => e = .returned (.bool true) ∧ Below w.heap.size w w' := by
  obtain ⟨b1, b2⟩ := ba
  have ck := fun w => check_c s k a f x 0 h w b1 b2
  clear h
  have K0 := kc_new w s k a f n d x D
  have C0 := fun w D => codes_any w D
  go_enter Tryd.func12, Tryd.ntmps12
  go_wp2_with (fail)
  refine (C0 _ K0.2.2.2.2.2).mono ?_
  rintro e w1 ⟨rfl, hb⟩
  have H := K0.step hb
  clear hb K0 C0
  obtain ⟨B, ⟨⟨d0, d1, d2, d3, d4⟩, dz⟩, p0, p1, pz, T⟩ := id H
  have r0 := fun d os => cell_regrown p0 d os
  have r1 := fun d os => cell_regrown p1 d os
  go_wp2_with (fail)
  refine wp_region_quiet_below mixedAll (by kernel_rfl) ?_
  repeat (go_big_quiet_step (fail))
  refine wpQuiet_nil ?_
  intro _ hw'
  obtain ⟨⟨dq, osq⟩, hw''⟩ := hw'
  subst hw''
  replace H := H.step (below_regrown w1 dq osq)
  generalize grow (redrawn w1 dq) osq = W1 at *
  clear r0 r1
  clear B d0 d1 d2 d3 d4 dz p0 p1 pz T
  obtain ⟨B, ⟨⟨d0, d1, d2, d3, d4⟩, dz⟩, p0, p1, pz, T⟩ := id H
  go_wp2_with (fail)
  refine (ck _).mono ?_
  rintro e w2 ⟨rfl, hb⟩
  replace H := H.step hb
  clear hb
  clear B d0 d1 d2 d3 d4 dz p0 p1 pz T
  obtain ⟨B, ⟨⟨d0, d1, d2, d3, d4⟩, dz⟩, p0, p1, pz, T⟩ := id H
  go_wp2
  go_ret
  first | exact ⟨rfl, B⟩ | exact ⟨ret_b (beq_iff_eq.2 (by omega)), B⟩

set_option maxHeartbeats 2000000 in
set_option maxRecDepth 100000 in
theorem rises_o3 (s k a f : Int) (x : Bool) (n d y : Int) (w : World) (D : Tab w) (bs : -9223372036854775808 ≤ s ∧ s ≤ 9223372036854775807) (bk : -9223372036854775808 ≤ k ∧ k ≤ 9223372036854775807) (ba : -9223372036854775808 ≤ a ∧ a ≤ 9223372036854775807) (bf : -9223372036854775808 ≤ f ∧ f ≤ 9223372036854775807) (bn : -9223372036854775808 ≤ n ∧ n ≤ 9223372036854775807) (bd : -9223372036854775808 ≤ d ∧ d ≤ 9223372036854775807) (by' : -9223372036854775808 ≤ y ∧ y ≤ 9223372036854775807) (h : chkC s k a f = 0) (h1 : ¬ n < 0) (h2 : ¬ d < 2) (h3 : d ≤ n) :
    Calls Tryd.prog 12 #[.agg #[.int .i64 s, .int .i64 k, .int .i64 a, .int .i64 f, .bool x], .agg #[.int .i64 n, .int .i64 d], .int .i64 y] w fun e w' => e = .returned (.bool true) ∧ Below w.heap.size w w' := by
  obtain ⟨b1, b2⟩ := ba
  have ck := fun w => check_c s k a f x 0 h w b1 b2
  clear h
  have K0 := kc_new w s k a f n d x D
  have C0 := fun w D => codes_any w D
  go_enter Tryd.func12, Tryd.ntmps12
  go_wp2_with (fail)
  refine (C0 _ K0.2.2.2.2.2).mono ?_
  rintro e w1 ⟨rfl, hb⟩
  have H := K0.step hb
  clear hb K0 C0
  obtain ⟨B, ⟨⟨d0, d1, d2, d3, d4⟩, dz⟩, p0, p1, pz, T⟩ := id H
  have r0 := fun d os => cell_regrown p0 d os
  have r1 := fun d os => cell_regrown p1 d os
  go_wp2_with (fail)
  refine wp_region_quiet_below mixedAll (by kernel_rfl) ?_
  repeat (go_big_quiet_step (fail))
  refine wpQuiet_nil ?_
  intro _ hw'
  obtain ⟨⟨dq, osq⟩, hw''⟩ := hw'
  subst hw''
  replace H := H.step (below_regrown w1 dq osq)
  generalize grow (redrawn w1 dq) osq = W1 at *
  clear r0 r1
  clear B d0 d1 d2 d3 d4 dz p0 p1 pz T
  obtain ⟨B, ⟨⟨d0, d1, d2, d3, d4⟩, dz⟩, p0, p1, pz, T⟩ := id H
  go_wp2_with (fail)
  refine (ck _).mono ?_
  rintro e w2 ⟨rfl, hb⟩
  replace H := H.step hb
  clear hb
  clear B d0 d1 d2 d3 d4 dz p0 p1 pz T
  obtain ⟨B, ⟨⟨d0, d1, d2, d3, d4⟩, dz⟩, p0, p1, pz, T⟩ := id H
  go_wp2
  go_ret
  first | exact ⟨rfl, B⟩ | exact ⟨ret_b (beq_iff_eq.2 (by omega)), B⟩

set_option maxHeartbeats 2000000 in
set_option maxRecDepth 100000 in
theorem rises_o4 (s k a f : Int) (x : Bool) (n d y : Int) (w : World) (D : Tab w) (bs : -9223372036854775808 ≤ s ∧ s ≤ 9223372036854775807) (bk : -9223372036854775808 ≤ k ∧ k ≤ 9223372036854775807) (ba : -9223372036854775808 ≤ a ∧ a ≤ 9223372036854775807) (bf : -9223372036854775808 ≤ f ∧ f ≤ 9223372036854775807) (bn : -9223372036854775808 ≤ n ∧ n ≤ 9223372036854775807) (bd : -9223372036854775808 ≤ d ∧ d ≤ 9223372036854775807) (by' : -9223372036854775808 ≤ y ∧ y ≤ 9223372036854775807) (h : chkC s k a f = 0) (h1 : ¬ n < 0) (h2 : ¬ d < 2) (h3 : ¬ d ≤ n) (h4 : 1000 < d) :
    Calls Tryd.prog 12 #[.agg #[.int .i64 s, .int .i64 k, .int .i64 a, .int .i64 f, .bool x], .agg #[.int .i64 n, .int .i64 d], .int .i64 y] w fun e w' => e = .returned (.bool true) ∧ Below w.heap.size w w' := by
  obtain ⟨b1, b2⟩ := ba
  have ck := fun w => check_c s k a f x 0 h w b1 b2
  clear h
  have K0 := kc_new w s k a f n d x D
  have C0 := fun w D => codes_any w D
  go_enter Tryd.func12, Tryd.ntmps12
  go_wp2_with (fail)
  refine (C0 _ K0.2.2.2.2.2).mono ?_
  rintro e w1 ⟨rfl, hb⟩
  have H := K0.step hb
  clear hb K0 C0
  obtain ⟨B, ⟨⟨d0, d1, d2, d3, d4⟩, dz⟩, p0, p1, pz, T⟩ := id H
  have r0 := fun d os => cell_regrown p0 d os
  have r1 := fun d os => cell_regrown p1 d os
  go_wp2_with (fail)
  refine wp_region_quiet_below mixedAll (by kernel_rfl) ?_
  repeat (go_big_quiet_step (fail))
  refine wpQuiet_nil ?_
  intro _ hw'
  obtain ⟨⟨dq, osq⟩, hw''⟩ := hw'
  subst hw''
  replace H := H.step (below_regrown w1 dq osq)
  generalize grow (redrawn w1 dq) osq = W1 at *
  clear r0 r1
  clear B d0 d1 d2 d3 d4 dz p0 p1 pz T
  obtain ⟨B, ⟨⟨d0, d1, d2, d3, d4⟩, dz⟩, p0, p1, pz, T⟩ := id H
  go_wp2_with (fail)
  refine (ck _).mono ?_
  rintro e w2 ⟨rfl, hb⟩
  replace H := H.step hb
  clear hb
  clear B d0 d1 d2 d3 d4 dz p0 p1 pz T
  obtain ⟨B, ⟨⟨d0, d1, d2, d3, d4⟩, dz⟩, p0, p1, pz, T⟩ := id H
  go_wp2
  go_ret
  first | exact ⟨rfl, B⟩ | exact ⟨ret_b (beq_iff_eq.2 (by omega)), B⟩

set_option maxHeartbeats 2000000 in
set_option maxRecDepth 100000 in
theorem rises_o5 (s k a f : Int) (x : Bool) (n d y : Int) (w : World) (D : Tab w) (bs : -9223372036854775808 ≤ s ∧ s ≤ 9223372036854775807) (bk : -9223372036854775808 ≤ k ∧ k ≤ 9223372036854775807) (ba : -9223372036854775808 ≤ a ∧ a ≤ 9223372036854775807) (bf : -9223372036854775808 ≤ f ∧ f ≤ 9223372036854775807) (bn : -9223372036854775808 ≤ n ∧ n ≤ 9223372036854775807) (bd : -9223372036854775808 ≤ d ∧ d ≤ 9223372036854775807) (by' : -9223372036854775808 ≤ y ∧ y ≤ 9223372036854775807) (h : chkC s k a f = 0) (h1 : ¬ n < 0) (h2 : ¬ d < 2) (h3 : ¬ d ≤ n) (h4 : ¬ 1000 < d) (h5 : 1000000000 < y) :
    Calls Tryd.prog 12 #[.agg #[.int .i64 s, .int .i64 k, .int .i64 a, .int .i64 f, .bool x], .agg #[.int .i64 n, .int .i64 d], .int .i64 y] w fun e w' => e = .returned (.bool true) ∧ Below w.heap.size w w' := by
  obtain ⟨b1, b2⟩ := ba
  have ck := fun w => check_c s k a f x 0 h w b1 b2
  clear h
  have K0 := kc_new w s k a f n d x D
  have C0 := fun w D => codes_any w D
  go_enter Tryd.func12, Tryd.ntmps12
  go_wp2_with (fail)
  refine (C0 _ K0.2.2.2.2.2).mono ?_
  rintro e w1 ⟨rfl, hb⟩
  have H := K0.step hb
  clear hb K0 C0
  obtain ⟨B, ⟨⟨d0, d1, d2, d3, d4⟩, dz⟩, p0, p1, pz, T⟩ := id H
  have r0 := fun d os => cell_regrown p0 d os
  have r1 := fun d os => cell_regrown p1 d os
  go_wp2_with (fail)
  refine wp_region_quiet_below mixedAll (by kernel_rfl) ?_
  repeat (go_big_quiet_step (fail))
  refine wpQuiet_nil ?_
  intro _ hw'
  obtain ⟨⟨dq, osq⟩, hw''⟩ := hw'
  subst hw''
  replace H := H.step (below_regrown w1 dq osq)
  generalize grow (redrawn w1 dq) osq = W1 at *
  clear r0 r1
  clear B d0 d1 d2 d3 d4 dz p0 p1 pz T
  obtain ⟨B, ⟨⟨d0, d1, d2, d3, d4⟩, dz⟩, p0, p1, pz, T⟩ := id H
  go_wp2_with (fail)
  refine (ck _).mono ?_
  rintro e w2 ⟨rfl, hb⟩
  replace H := H.step hb
  clear hb
  clear B d0 d1 d2 d3 d4 dz p0 p1 pz T
  obtain ⟨B, ⟨⟨d0, d1, d2, d3, d4⟩, dz⟩, p0, p1, pz, T⟩ := id H
  go_wp2
  go_ret
  first | exact ⟨rfl, B⟩ | exact ⟨ret_b (beq_iff_eq.2 (by omega)), B⟩

set_option maxHeartbeats 2000000 in
set_option maxRecDepth 100000 in
theorem rises_o6 (s k a f : Int) (x : Bool) (n d y : Int) (w : World) (D : Tab w) (bs : -9223372036854775808 ≤ s ∧ s ≤ 9223372036854775807) (bk : -9223372036854775808 ≤ k ∧ k ≤ 9223372036854775807) (ba : -9223372036854775808 ≤ a ∧ a ≤ 9223372036854775807) (bf : -9223372036854775808 ≤ f ∧ f ≤ 9223372036854775807) (bn : -9223372036854775808 ≤ n ∧ n ≤ 9223372036854775807) (bd : -9223372036854775808 ≤ d ∧ d ≤ 9223372036854775807) (by' : -9223372036854775808 ≤ y ∧ y ≤ 9223372036854775807) (h : chkC s k a f = 0) (h1 : ¬ n < 0) (h2 : ¬ d < 2) (h3 : ¬ d ≤ n) (h4 : ¬ 1000 < d) (h5 : ¬ 1000000000 < y) (h6 : y < -1000000000) :
    Calls Tryd.prog 12 #[.agg #[.int .i64 s, .int .i64 k, .int .i64 a, .int .i64 f, .bool x], .agg #[.int .i64 n, .int .i64 d], .int .i64 y] w fun e w' => e = .returned (.bool true) ∧ Below w.heap.size w w' := by
  obtain ⟨b1, b2⟩ := ba
  have ck := fun w => check_c s k a f x 0 h w b1 b2
  clear h
  have K0 := kc_new w s k a f n d x D
  have C0 := fun w D => codes_any w D
  go_enter Tryd.func12, Tryd.ntmps12
  go_wp2_with (fail)
  refine (C0 _ K0.2.2.2.2.2).mono ?_
  rintro e w1 ⟨rfl, hb⟩
  have H := K0.step hb
  clear hb K0 C0
  obtain ⟨B, ⟨⟨d0, d1, d2, d3, d4⟩, dz⟩, p0, p1, pz, T⟩ := id H
  have r0 := fun d os => cell_regrown p0 d os
  have r1 := fun d os => cell_regrown p1 d os
  go_wp2_with (fail)
  refine wp_region_quiet_below mixedAll (by kernel_rfl) ?_
  repeat (go_big_quiet_step (fail))
  refine wpQuiet_nil ?_
  intro _ hw'
  obtain ⟨⟨dq, osq⟩, hw''⟩ := hw'
  subst hw''
  replace H := H.step (below_regrown w1 dq osq)
  generalize grow (redrawn w1 dq) osq = W1 at *
  clear r0 r1
  clear B d0 d1 d2 d3 d4 dz p0 p1 pz T
  obtain ⟨B, ⟨⟨d0, d1, d2, d3, d4⟩, dz⟩, p0, p1, pz, T⟩ := id H
  go_wp2_with (fail)
  refine (ck _).mono ?_
  rintro e w2 ⟨rfl, hb⟩
  replace H := H.step hb
  clear hb
  clear B d0 d1 d2 d3 d4 dz p0 p1 pz T
  obtain ⟨B, ⟨⟨d0, d1, d2, d3, d4⟩, dz⟩, p0, p1, pz, T⟩ := id H
  go_wp2
  go_ret
  first | exact ⟨rfl, B⟩ | exact ⟨ret_b (beq_iff_eq.2 (by omega)), B⟩

set_option maxHeartbeats 2000000 in
set_option maxRecDepth 100000 in
theorem rises_two (s k a f : Int) (x : Bool) (n d y : Int) (w : World) (D : Tab w) (bs : -9223372036854775808 ≤ s ∧ s ≤ 9223372036854775807) (bk : -9223372036854775808 ≤ k ∧ k ≤ 9223372036854775807) (ba : -9223372036854775808 ≤ a ∧ a ≤ 9223372036854775807) (bf : -9223372036854775808 ≤ f ∧ f ≤ 9223372036854775807) (bn : -9223372036854775808 ≤ n ∧ n ≤ 9223372036854775807) (bd : -9223372036854775808 ≤ d ∧ d ≤ 9223372036854775807) (by' : -9223372036854775808 ≤ y ∧ y ≤ 9223372036854775807) (h : chkC s k a f = 0) (h1 : ¬ n < 0) (h2 : ¬ d < 2) (h3 : ¬ d ≤ n) (h4 : ¬ 1000 < d) (h5 : ¬ 1000000000 < y) (h6 : ¬ y < -1000000000) (hk : k = 2) (u1 u2 c1 c2 : Int) (f1 : freeV s k a f n d = (u1, 0)) (f2 : freeV s k a f (n + 1) d = (u2, 0)) (f3 : freeV s k a f d d = (-a, 0)) (g1 : chargeV s k a f y n d = (c1, 0)) (g2 : chargeV s k a f (y + 1) n d = (c2, 0)) (l1 : -u1 ≤ -u2) (l2 : u2 ≤ u1) (l3 : -999999000 ≤ u2) (l4 : u1 ≤ 999999000) (a0 : 0 ≤ a) (a9 : a ≤ 999999000) (m1 : c1 ≤ c2) (m2 : c2 - c1 ≤ 1) (m3 : 0 ≤ c1) (m4 : c2 ≤ 100000000000) :
    Calls Tryd.prog 12 #[.agg #[.int .i64 s, .int .i64 k, .int .i64 a, .int .i64 f, .bool x], .agg #[.int .i64 n, .int .i64 d], .int .i64 y] w fun e w' => e = .returned (.bool true) ∧ Below w.heap.size w w' := by
  obtain ⟨b1, b2⟩ := ba
  have ck := fun w => check_c s k a f x 0 h w b1 b2
  have q1 := fun w => free_v s k a f n d x u1 0 f1 w b1 b2
  have q2 := fun w => free_v s k a f (n + 1) d x u2 0 f2 w b1 b2
  have q3 := fun w => free_v s k a f d d x (-a) 0 f3 w b1 b2
  have q4 := fun w => charge_v s k a f y n d x c1 0 g1 w b1 b2
  have q5 := fun w => charge_v s k a f (y + 1) n d x c2 0 g2 w b1 b2
  have t2 : (k == 2) = true := by simpa using hk
  clear h hk f1 f2 f3 g1 g2
  have K0 := kc_new w s k a f n d x D
  have C0 := fun w D => codes_any w D
  go_enter Tryd.func12, Tryd.ntmps12
  go_wp2_with (fail)
  refine (C0 _ K0.2.2.2.2.2).mono ?_
  rintro e w1 ⟨rfl, hb⟩
  have H := K0.step hb
  clear hb K0 C0
  obtain ⟨B, ⟨⟨d0, d1, d2, d3, d4⟩, dz⟩, p0, p1, pz, T⟩ := id H
  have r0 := fun d os => cell_regrown p0 d os
  have r1 := fun d os => cell_regrown p1 d os
  go_wp2_with (fail)
  refine wp_region_quiet_below mixedAll (by kernel_rfl) ?_
  repeat (go_big_quiet_step (fail))
  refine wpQuiet_nil ?_
  intro _ hw'
  obtain ⟨⟨dq, osq⟩, hw''⟩ := hw'
  subst hw''
  replace H := H.step (below_regrown w1 dq osq)
  generalize grow (redrawn w1 dq) osq = W1 at *
  clear r0 r1
  clear B d0 d1 d2 d3 d4 dz p0 p1 pz T
  obtain ⟨B, ⟨⟨d0, d1, d2, d3, d4⟩, dz⟩, p0, p1, pz, T⟩ := id H
  go_wp2_with (fail)
  refine (ck _).mono ?_
  rintro e w2 ⟨rfl, hb⟩
  replace H := H.step hb
  clear hb
  clear B d0 d1 d2 d3 d4 dz p0 p1 pz T
  obtain ⟨B, ⟨⟨d0, d1, d2, d3, d4⟩, dz⟩, p0, p1, pz, T⟩ := id H
  go_wp2_with (fail)
  refine (q1 _).mono ?_
  rintro e w3 ⟨rfl, hb⟩
  replace H := H.step hb
  clear hb
  clear B d0 d1 d2 d3 d4 dz p0 p1 pz T
  obtain ⟨B, ⟨⟨d0, d1, d2, d3, d4⟩, dz⟩, p0, p1, pz, T⟩ := id H
  go_wp2_with (fail)
  refine (q2 _).mono ?_
  rintro e w4 ⟨rfl, hb⟩
  replace H := H.step hb
  clear hb
  clear B d0 d1 d2 d3 d4 dz p0 p1 pz T
  obtain ⟨B, ⟨⟨d0, d1, d2, d3, d4⟩, dz⟩, p0, p1, pz, T⟩ := id H
  go_wp2_with (fail)
  refine (q3 _).mono ?_
  rintro e w5 ⟨rfl, hb⟩
  replace H := H.step hb
  clear hb
  clear B d0 d1 d2 d3 d4 dz p0 p1 pz T
  obtain ⟨B, ⟨⟨d0, d1, d2, d3, d4⟩, dz⟩, p0, p1, pz, T⟩ := id H
  go_wp2_with (fail)
  refine (q4 _).mono ?_
  rintro e w6 ⟨rfl, hb⟩
  replace H := H.step hb
  clear hb
  clear B d0 d1 d2 d3 d4 dz p0 p1 pz T
  obtain ⟨B, ⟨⟨d0, d1, d2, d3, d4⟩, dz⟩, p0, p1, pz, T⟩ := id H
  go_wp2_with (fail)
  refine (q5 _).mono ?_
  rintro e w7 ⟨rfl, hb⟩
  replace H := H.step hb
  clear hb
  clear B d0 d1 d2 d3 d4 dz p0 p1 pz T
  obtain ⟨B, ⟨⟨d0, d1, d2, d3, d4⟩, dz⟩, p0, p1, pz, T⟩ := id H
  go_wp2
  go_ret
  first | exact ⟨rfl, B⟩ | exact ⟨ret_b (beq_iff_eq.2 (by omega)), B⟩

set_option maxHeartbeats 2000000 in
set_option maxRecDepth 100000 in
theorem rises_sum (s k a f : Int) (x : Bool) (n d y : Int) (w : World) (D : Tab w) (bs : -9223372036854775808 ≤ s ∧ s ≤ 9223372036854775807) (bk : -9223372036854775808 ≤ k ∧ k ≤ 9223372036854775807) (ba : -9223372036854775808 ≤ a ∧ a ≤ 9223372036854775807) (bf : -9223372036854775808 ≤ f ∧ f ≤ 9223372036854775807) (bn : -9223372036854775808 ≤ n ∧ n ≤ 9223372036854775807) (bd : -9223372036854775808 ≤ d ∧ d ≤ 9223372036854775807) (by' : -9223372036854775808 ≤ y ∧ y ≤ 9223372036854775807) (h : chkC s k a f = 0) (h1 : ¬ n < 0) (h2 : ¬ d < 2) (h3 : ¬ d ≤ n) (h4 : ¬ 1000 < d) (h5 : ¬ 1000000000 < y) (h6 : ¬ y < -1000000000) (hk : ¬ k = 2) (u1 u2 c1 c2 : Int) (f1 : freeV s k a f n d = (u1, 0)) (f2 : freeV s k a f (n + 1) d = (u2, 0)) (f3 : freeV s k a f d d = (a, 0)) (g1 : chargeV s k a f y n d = (c1, 0)) (g2 : chargeV s k a f (y + 1) n d = (c2, 0)) (l1 : u1 ≤ u2) (m1 : c1 ≤ c2) (m2 : c2 - c1 ≤ 1) (m3 : 0 ≤ c1) (m4 : c2 ≤ 100000000000) :
    Calls Tryd.prog 12 #[.agg #[.int .i64 s, .int .i64 k, .int .i64 a, .int .i64 f, .bool x], .agg #[.int .i64 n, .int .i64 d], .int .i64 y] w fun e w' => e = .returned (.bool true) ∧ Below w.heap.size w w' := by
  obtain ⟨b1, b2⟩ := ba
  have ck := fun w => check_c s k a f x 0 h w b1 b2
  have q1 := fun w => free_v s k a f n d x u1 0 f1 w b1 b2
  have q2 := fun w => free_v s k a f (n + 1) d x u2 0 f2 w b1 b2
  have q3 := fun w => free_v s k a f d d x a 0 f3 w b1 b2
  have q4 := fun w => charge_v s k a f y n d x c1 0 g1 w b1 b2
  have q5 := fun w => charge_v s k a f (y + 1) n d x c2 0 g2 w b1 b2
  have t2 : (k == 2) = false := by simpa using hk
  clear h hk f1 f2 f3 g1 g2
  have K0 := kc_new w s k a f n d x D
  have C0 := fun w D => codes_any w D
  go_enter Tryd.func12, Tryd.ntmps12
  go_wp2_with (fail)
  refine (C0 _ K0.2.2.2.2.2).mono ?_
  rintro e w1 ⟨rfl, hb⟩
  have H := K0.step hb
  clear hb K0 C0
  obtain ⟨B, ⟨⟨d0, d1, d2, d3, d4⟩, dz⟩, p0, p1, pz, T⟩ := id H
  have r0 := fun d os => cell_regrown p0 d os
  have r1 := fun d os => cell_regrown p1 d os
  go_wp2_with (fail)
  refine wp_region_quiet_below mixedAll (by kernel_rfl) ?_
  repeat (go_big_quiet_step (fail))
  refine wpQuiet_nil ?_
  intro _ hw'
  obtain ⟨⟨dq, osq⟩, hw''⟩ := hw'
  subst hw''
  replace H := H.step (below_regrown w1 dq osq)
  generalize grow (redrawn w1 dq) osq = W1 at *
  clear r0 r1
  clear B d0 d1 d2 d3 d4 dz p0 p1 pz T
  obtain ⟨B, ⟨⟨d0, d1, d2, d3, d4⟩, dz⟩, p0, p1, pz, T⟩ := id H
  go_wp2_with (fail)
  refine (ck _).mono ?_
  rintro e w2 ⟨rfl, hb⟩
  replace H := H.step hb
  clear hb
  clear B d0 d1 d2 d3 d4 dz p0 p1 pz T
  obtain ⟨B, ⟨⟨d0, d1, d2, d3, d4⟩, dz⟩, p0, p1, pz, T⟩ := id H
  go_wp2_with (fail)
  refine (q1 _).mono ?_
  rintro e w3 ⟨rfl, hb⟩
  replace H := H.step hb
  clear hb
  clear B d0 d1 d2 d3 d4 dz p0 p1 pz T
  obtain ⟨B, ⟨⟨d0, d1, d2, d3, d4⟩, dz⟩, p0, p1, pz, T⟩ := id H
  go_wp2_with (fail)
  refine (q2 _).mono ?_
  rintro e w4 ⟨rfl, hb⟩
  replace H := H.step hb
  clear hb
  clear B d0 d1 d2 d3 d4 dz p0 p1 pz T
  obtain ⟨B, ⟨⟨d0, d1, d2, d3, d4⟩, dz⟩, p0, p1, pz, T⟩ := id H
  go_wp2_with (fail)
  refine (q3 _).mono ?_
  rintro e w5 ⟨rfl, hb⟩
  replace H := H.step hb
  clear hb
  clear B d0 d1 d2 d3 d4 dz p0 p1 pz T
  obtain ⟨B, ⟨⟨d0, d1, d2, d3, d4⟩, dz⟩, p0, p1, pz, T⟩ := id H
  go_wp2_with (fail)
  refine (q4 _).mono ?_
  rintro e w6 ⟨rfl, hb⟩
  replace H := H.step hb
  clear hb
  clear B d0 d1 d2 d3 d4 dz p0 p1 pz T
  obtain ⟨B, ⟨⟨d0, d1, d2, d3, d4⟩, dz⟩, p0, p1, pz, T⟩ := id H
  go_wp2_with (fail)
  refine (q5 _).mono ?_
  rintro e w7 ⟨rfl, hb⟩
  replace H := H.step hb
  clear hb
  clear B d0 d1 d2 d3 d4 dz p0 p1 pz T
  obtain ⟨B, ⟨⟨d0, d1, d2, d3, d4⟩, dz⟩, p0, p1, pz, T⟩ := id H
  go_wp2
  go_ret
  first | exact ⟨rfl, B⟩ | exact ⟨ret_b (beq_iff_eq.2 (by omega)), B⟩

theorem wCodeRises (s k a f : Int) (x : Bool) (n d y : Int) (w : World) (D : Tab w) (bs : -9223372036854775808 ≤ s ∧ s ≤ 9223372036854775807) (bk : -9223372036854775808 ≤ k ∧ k ≤ 9223372036854775807) (ba : -9223372036854775808 ≤ a ∧ a ≤ 9223372036854775807) (bf : -9223372036854775808 ≤ f ∧ f ≤ 9223372036854775807) (bn : -9223372036854775808 ≤ n ∧ n ≤ 9223372036854775807) (bd : -9223372036854775808 ≤ d ∧ d ≤ 9223372036854775807) (by' : -9223372036854775808 ≤ y ∧ y ≤ 9223372036854775807) :
    Calls Tryd.prog 12 #[.agg #[.int .i64 s, .int .i64 k, .int .i64 a, .int .i64 f, .bool x], .agg #[.int .i64 n, .int .i64 d], .int .i64 y] w fun e w' => e = .returned (.bool true) ∧ Below w.heap.size w w' := by
  by_cases h : chkC s k a f = 0
  · by_cases h1 : n < 0
    · exact rises_o1 s k a f x n d y w D bs bk ba bf bn bd by' h h1
    by_cases h2 : d < 2
    · exact rises_o2 s k a f x n d y w D bs bk ba bf bn bd by' h h1 h2
    by_cases h3 : d ≤ n
    · exact rises_o3 s k a f x n d y w D bs bk ba bf bn bd by' h h1 h2 h3
    by_cases h4 : 1000 < d
    · exact rises_o4 s k a f x n d y w D bs bk ba bf bn bd by' h h1 h2 h3 h4
    by_cases h5 : 1000000000 < y
    · exact rises_o5 s k a f x n d y w D bs bk ba bf bn bd by' h h1 h2 h3 h4 h5
    by_cases h6 : y < -1000000000
    · exact rises_o6 s k a f x n d y w D bs bk ba bf bn bd by' h h1 h2 h3 h4 h5 h6
    obtain ⟨_, _, hfit⟩ := chkC_zero h
    obtain ⟨k1, k4, a0, a9, _, _, _⟩ := fitB_bd hfit
    obtain ⟨p0, p1⟩ := part_bd (a := a) (n := n) (d := d) a0 (by omega) (by omega) (by omega)
    obtain ⟨p2, p3⟩ := part_bd (a := a) (n := n + 1) (d := d) a0 (by omega) (by omega) (by omega)
    have pu := part_up (a := a) (n := n) (d := d) a0 (by omega)
    have pa := part_all (a := a) (d := d) (by omega)
    have f1 := freeV_ok (n := n) (d := d) h (by omega) (by omega) (by omega) (by omega)
    have f2 := freeV_ok (n := n + 1) (d := d) h (by omega) (by omega) (by omega) (by omega)
    have f3 := freeV_ok (n := d) (d := d) h (by omega) (by omega) (by omega) (by omega)
    rw [pa] at f3
    have y1 : amtB y = true := amtB_mk (by omega) (by omega)
    have y2 : amtB (y + 1) = true := amtB_mk (by omega) (by omega)
    by_cases hk : k = 2
    · rw [if_pos hk] at f1 f2 f3
      have g1 := chargeV_ok f1 y1 (by omega) (amtB_mk (by omega) (by omega))
      have g2 := chargeV_ok f1 y2 (by omega) (amtB_mk (by omega) (by omega))
      exact rises_two s k a f x n d y w D bs bk ba bf bn bd by' h h1 h2 h3 h4 h5 h6 hk _ _ _ _ f1 f2 f3 g1 g2 (by omega) (by omega) (by omega) (by omega) a0 a9 (by omega) (by omega) (by omega) (by omega)
    · rw [if_neg hk] at f1 f2 f3
      by_cases h9 : k = 4
      · have g1 := chargeV_none f1 y1 h9
        have g2 := chargeV_none f1 y2 h9
        exact rises_sum s k a f x n d y w D bs bk ba bf bn bd by' h h1 h2 h3 h4 h5 h6 hk _ _ _ _ f1 f2 f3 g1 g2 pu (by omega) (by omega) (by omega) (by omega)
      · have g1 := chargeV_ok f1 y1 h9 (amtB_mk (by omega) (by omega))
        have g2 := chargeV_ok f1 y2 h9 (amtB_mk (by omega) (by omega))
        exact rises_sum s k a f x n d y w D bs bk ba bf bn bd by' h h1 h2 h3 h4 h5 h6 hk _ _ _ _ f1 f2 f3 g1 g2 pu (by omega) (by omega) (by omega) (by omega)
  · exact rises_bad s k a f x n d y w D bs bk ba bf bn bd by' h
end Go.Proofs.YthndkplmhpbgdaaDoor
