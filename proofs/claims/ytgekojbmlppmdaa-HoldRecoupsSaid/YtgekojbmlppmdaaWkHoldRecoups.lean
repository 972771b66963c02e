/- The walk of the law HoldRecoups. -/
import Derived.Test.YtgekojbmlppmdaaHldE
import Derived.Test.YtgekojbmlppmdaaOpenS
namespace Go.Proofs.Ytgekojbmlppmdaa
open Go.RowKit Go.Sort
set_option linter.unusedVariables false
set_option linter.unusedSimpArgs false

set_option maxRecDepth 100000 in
theorem rcw_out_a (r W S c m : Int) (w : World) (h : m < -1000) :
    Calls Try.prog 7 #[.int .i64 r, .agg #[.int .i64 W, .int .i64 S], .agg #[.int .i64 c, .int .i64 m]] w fun e w' => e = .returned (.bool true) ∧ Below w.heap.size w w' := by
  have k1 : decide (m < -1000) = true := by simpa using h
  clear h
  have ho := holds_any
  have K1 : Bx ((w.alloc (.cells #[.int .i64 W, .int .i64 S] 23)).alloc (.cells #[.int .i64 c, .int .i64 m] 48)) w.heap.size 23 [.int .i64 W, .int .i64 S] := (bx_new w [.int .i64 W, .int .i64 S] 23).alloc _
  have K2 : Bx ((w.alloc (.cells #[.int .i64 W, .int .i64 S] 23)).alloc (.cells #[.int .i64 c, .int .i64 m] 48)) (w.heap.size + 1) 48 [.int .i64 c, .int .i64 m] := bx_at _ [.int .i64 c, .int .i64 m] 48 (by simp)
  have B0 : Below w.heap.size w ((w.alloc (.cells #[.int .i64 W, .int .i64 S] 23)).alloc (.cells #[.int .i64 c, .int .i64 m] 48)) := (below_new _ _).alloc (by simp) _
  go_enter Try.func7, Try.ntmps7
  go_wp2_with (fail)
  with_reducible refine (ho _).mono ?_
  rintro e w1 ⟨rfl, hb⟩
  have K1 := K1.below hb
  have K2 := K2.below hb
  have B1 := below_step B0 hb B0.size
  clear hb B0
  have x0 := K1.cell (i := 0) rfl
  have x1 := K1.cell (i := 1) rfl
  have y0 := K2.cell (i := 0) rfl
  have y1 := K2.cell (i := 1) rfl
  go_wp2_with (fail)
  go_region
  have K1 : Bx w1.drew w.heap.size 23 [.int .i64 W, .int .i64 S] := K1.of_block rfl
  have K2 : Bx w1.drew (w.heap.size + 1) 48 [.int .i64 c, .int .i64 m] := K2.of_block rfl
  have B1 : Below w.heap.size w w1.drew := B1.drew
  have x0 := K1.cell (i := 0) rfl
  have x1 := K1.cell (i := 1) rfl
  generalize w1.drew = w2 at *
  go_wp2
  go_ret
  exact ⟨rfl, B1⟩
set_option maxRecDepth 100000 in
theorem rcw_out_b (r W S c m : Int) (w : World) (h : 1000 < m) :
    Calls Try.prog 7 #[.int .i64 r, .agg #[.int .i64 W, .int .i64 S], .agg #[.int .i64 c, .int .i64 m]] w fun e w' => e = .returned (.bool true) ∧ Below w.heap.size w w' := by
  have k1 : decide (m < -1000) = false := by simp; omega
  have k2 : decide (1000 < m) = true := by simpa using h
  clear h
  have ho := holds_any
  have K1 : Bx ((w.alloc (.cells #[.int .i64 W, .int .i64 S] 23)).alloc (.cells #[.int .i64 c, .int .i64 m] 48)) w.heap.size 23 [.int .i64 W, .int .i64 S] := (bx_new w [.int .i64 W, .int .i64 S] 23).alloc _
  have K2 : Bx ((w.alloc (.cells #[.int .i64 W, .int .i64 S] 23)).alloc (.cells #[.int .i64 c, .int .i64 m] 48)) (w.heap.size + 1) 48 [.int .i64 c, .int .i64 m] := bx_at _ [.int .i64 c, .int .i64 m] 48 (by simp)
  have B0 : Below w.heap.size w ((w.alloc (.cells #[.int .i64 W, .int .i64 S] 23)).alloc (.cells #[.int .i64 c, .int .i64 m] 48)) := (below_new _ _).alloc (by simp) _
  go_enter Try.func7, Try.ntmps7
  go_wp2_with (fail)
  with_reducible refine (ho _).mono ?_
  rintro e w1 ⟨rfl, hb⟩
  have K1 := K1.below hb
  have K2 := K2.below hb
  have B1 := below_step B0 hb B0.size
  clear hb B0
  have x0 := K1.cell (i := 0) rfl
  have x1 := K1.cell (i := 1) rfl
  have y0 := K2.cell (i := 0) rfl
  have y1 := K2.cell (i := 1) rfl
  go_wp2_with (fail)
  go_region
  have K1 : Bx w1.drew w.heap.size 23 [.int .i64 W, .int .i64 S] := K1.of_block rfl
  have K2 : Bx w1.drew (w.heap.size + 1) 48 [.int .i64 c, .int .i64 m] := K2.of_block rfl
  have B1 : Below w.heap.size w w1.drew := B1.drew
  have x0 := K1.cell (i := 0) rfl
  have x1 := K1.cell (i := 1) rfl
  generalize w1.drew = w2 at *
  go_wp2
  go_ret
  exact ⟨rfl, B1⟩
set_option maxRecDepth 100000 in
theorem rcw_no (r W S c m : Int) (w : World) (m0 : -1000 ≤ m) (m1 : m ≤ 1000) (h : (amtB W && amtB S && amtB c) = false) :
    Calls Try.prog 7 #[.int .i64 r, .agg #[.int .i64 W, .int .i64 S], .agg #[.int .i64 c, .int .i64 m]] w fun e w' => e = .returned (.bool true) ∧ Below w.heap.size w w' := by
  have k1 : decide (m < -1000) = false := by simp; omega
  have k2 : decide (1000 < m) = false := by simp; omega
  have lr := fun w n hn => lright3 W S c w 2 false h n hn
  clear h
  have ho := holds_any
  have K1 : Bx ((w.alloc (.cells #[.int .i64 W, .int .i64 S] 23)).alloc (.cells #[.int .i64 c, .int .i64 m] 48)) w.heap.size 23 [.int .i64 W, .int .i64 S] := (bx_new w [.int .i64 W, .int .i64 S] 23).alloc _
  have K2 : Bx ((w.alloc (.cells #[.int .i64 W, .int .i64 S] 23)).alloc (.cells #[.int .i64 c, .int .i64 m] 48)) (w.heap.size + 1) 48 [.int .i64 c, .int .i64 m] := bx_at _ [.int .i64 c, .int .i64 m] 48 (by simp)
  have B0 : Below w.heap.size w ((w.alloc (.cells #[.int .i64 W, .int .i64 S] 23)).alloc (.cells #[.int .i64 c, .int .i64 m] 48)) := (below_new _ _).alloc (by simp) _
  go_enter Try.func7, Try.ntmps7
  go_wp2_with (fail)
  with_reducible refine (ho _).mono ?_
  rintro e w1 ⟨rfl, hb⟩
  have K1 := K1.below hb
  have K2 := K2.below hb
  have B1 := below_step B0 hb B0.size
  clear hb B0
  have x0 := K1.cell (i := 0) rfl
  have x1 := K1.cell (i := 1) rfl
  have y0 := K2.cell (i := 0) rfl
  have y1 := K2.cell (i := 1) rfl
  go_wp2_with (fail)
  go_region
  have K1 : Bx w1.drew w.heap.size 23 [.int .i64 W, .int .i64 S] := K1.of_block rfl
  have K2 : Bx w1.drew (w.heap.size + 1) 48 [.int .i64 c, .int .i64 m] := K2.of_block rfl
  have B1 : Below w.heap.size w w1.drew := B1.drew
  have x0 := K1.cell (i := 0) rfl
  have x1 := K1.cell (i := 1) rfl
  generalize w1.drew = w2 at *
  have N3 := below_new w2 (.cells #[.int .i64 W, .int .i64 S, .int .i64 c] 2)
  have lr' := lr w2 _ rfl
  have K1 := K1.below N3
  have B3 := below_step B1 N3 B1.size
  go_wp2_with (fail)
  with_reducible refine lr'.mono ?_
  rintro e w' ⟨rfl, hw⟩
  clear lr' B1 N3 x0 x1
  rw [← hw] at *
  clear hw
  generalize w2.alloc (.cells #[.int .i64 W, .int .i64 S, .int .i64 c] 2) = w3 at *
  go_wp2
  go_ret
  exact ⟨rfl, B3⟩
set_option maxRecDepth 100000 in
theorem rcw_rate_a (r W S c m : Int) (w : World) (m0 : -1000 ≤ m) (m1 : m ≤ 1000) (h : (amtB W && amtB S && amtB c) = true) (h2 : r < 0) :
    Calls Try.prog 7 #[.int .i64 r, .agg #[.int .i64 W, .int .i64 S], .agg #[.int .i64 c, .int .i64 m]] w fun e w' => e = .returned (.bool true) ∧ Below w.heap.size w w' := by
  have k1 : decide (m < -1000) = false := by simp; omega
  have k2 : decide (1000 < m) = false := by simp; omega
  have lr := fun w n hn => lright3 W S c w 2 true h n hn
  have k3 : decide (r < 0) = true := by simpa using h2
  clear h h2
  have ho := holds_any
  have K1 : Bx ((w.alloc (.cells #[.int .i64 W, .int .i64 S] 23)).alloc (.cells #[.int .i64 c, .int .i64 m] 48)) w.heap.size 23 [.int .i64 W, .int .i64 S] := (bx_new w [.int .i64 W, .int .i64 S] 23).alloc _
  have K2 : Bx ((w.alloc (.cells #[.int .i64 W, .int .i64 S] 23)).alloc (.cells #[.int .i64 c, .int .i64 m] 48)) (w.heap.size + 1) 48 [.int .i64 c, .int .i64 m] := bx_at _ [.int .i64 c, .int .i64 m] 48 (by simp)
  have B0 : Below w.heap.size w ((w.alloc (.cells #[.int .i64 W, .int .i64 S] 23)).alloc (.cells #[.int .i64 c, .int .i64 m] 48)) := (below_new _ _).alloc (by simp) _
  go_enter Try.func7, Try.ntmps7
  go_wp2_with (fail)
  with_reducible refine (ho _).mono ?_
  rintro e w1 ⟨rfl, hb⟩
  have K1 := K1.below hb
  have K2 := K2.below hb
  have B1 := below_step B0 hb B0.size
  clear hb B0
  have x0 := K1.cell (i := 0) rfl
  have x1 := K1.cell (i := 1) rfl
  have y0 := K2.cell (i := 0) rfl
  have y1 := K2.cell (i := 1) rfl
  go_wp2_with (fail)
  go_region
  have K1 : Bx w1.drew w.heap.size 23 [.int .i64 W, .int .i64 S] := K1.of_block rfl
  have K2 : Bx w1.drew (w.heap.size + 1) 48 [.int .i64 c, .int .i64 m] := K2.of_block rfl
  have B1 : Below w.heap.size w w1.drew := B1.drew
  have x0 := K1.cell (i := 0) rfl
  have x1 := K1.cell (i := 1) rfl
  generalize w1.drew = w2 at *
  have N3 := below_new w2 (.cells #[.int .i64 W, .int .i64 S, .int .i64 c] 2)
  have lr' := lr w2 _ rfl
  have K1 := K1.below N3
  have B3 := below_step B1 N3 B1.size
  go_wp2_with (fail)
  with_reducible refine lr'.mono ?_
  rintro e w' ⟨rfl, hw⟩
  clear lr' B1 N3 x0 x1
  rw [← hw] at *
  clear hw
  generalize w2.alloc (.cells #[.int .i64 W, .int .i64 S, .int .i64 c] 2) = w3 at *
  go_wp2
  go_ret
  exact ⟨rfl, B3⟩
set_option maxRecDepth 100000 in
theorem rcw_rate_b (r W S c m : Int) (w : World) (m0 : -1000 ≤ m) (m1 : m ≤ 1000) (h : (amtB W && amtB S && amtB c) = true) (h2 : 10000 < r) :
    Calls Try.prog 7 #[.int .i64 r, .agg #[.int .i64 W, .int .i64 S], .agg #[.int .i64 c, .int .i64 m]] w fun e w' => e = .returned (.bool true) ∧ Below w.heap.size w w' := by
  have k1 : decide (m < -1000) = false := by simp; omega
  have k2 : decide (1000 < m) = false := by simp; omega
  have lr := fun w n hn => lright3 W S c w 2 true h n hn
  have k3 : decide (r < 0) = false := by simp; omega
  have k4 : decide (10000 < r) = true := by simpa using h2
  clear h h2
  have ho := holds_any
  have K1 : Bx ((w.alloc (.cells #[.int .i64 W, .int .i64 S] 23)).alloc (.cells #[.int .i64 c, .int .i64 m] 48)) w.heap.size 23 [.int .i64 W, .int .i64 S] := (bx_new w [.int .i64 W, .int .i64 S] 23).alloc _
  have K2 : Bx ((w.alloc (.cells #[.int .i64 W, .int .i64 S] 23)).alloc (.cells #[.int .i64 c, .int .i64 m] 48)) (w.heap.size + 1) 48 [.int .i64 c, .int .i64 m] := bx_at _ [.int .i64 c, .int .i64 m] 48 (by simp)
  have B0 : Below w.heap.size w ((w.alloc (.cells #[.int .i64 W, .int .i64 S] 23)).alloc (.cells #[.int .i64 c, .int .i64 m] 48)) := (below_new _ _).alloc (by simp) _
  go_enter Try.func7, Try.ntmps7
  go_wp2_with (fail)
  with_reducible refine (ho _).mono ?_
  rintro e w1 ⟨rfl, hb⟩
  have K1 := K1.below hb
  have K2 := K2.below hb
  have B1 := below_step B0 hb B0.size
  clear hb B0
  have x0 := K1.cell (i := 0) rfl
  have x1 := K1.cell (i := 1) rfl
  have y0 := K2.cell (i := 0) rfl
  have y1 := K2.cell (i := 1) rfl
  go_wp2_with (fail)
  go_region
  have K1 : Bx w1.drew w.heap.size 23 [.int .i64 W, .int .i64 S] := K1.of_block rfl
  have K2 : Bx w1.drew (w.heap.size + 1) 48 [.int .i64 c, .int .i64 m] := K2.of_block rfl
  have B1 : Below w.heap.size w w1.drew := B1.drew
  have x0 := K1.cell (i := 0) rfl
  have x1 := K1.cell (i := 1) rfl
  generalize w1.drew = w2 at *
  have N3 := below_new w2 (.cells #[.int .i64 W, .int .i64 S, .int .i64 c] 2)
  have lr' := lr w2 _ rfl
  have K1 := K1.below N3
  have B3 := below_step B1 N3 B1.size
  go_wp2_with (fail)
  with_reducible refine lr'.mono ?_
  rintro e w' ⟨rfl, hw⟩
  clear lr' B1 N3 x0 x1
  rw [← hw] at *
  clear hw
  generalize w2.alloc (.cells #[.int .i64 W, .int .i64 S, .int .i64 c] 2) = w3 at *
  go_wp2
  go_ret
  exact ⟨rfl, B3⟩
set_option maxRecDepth 100000 in
set_option maxHeartbeats 1000000 in
theorem rcw_long_a (r W S c m : Int) (w : World) (m0 : -1000 ≤ m) (m1 : m ≤ 1000) (r0 : 0 ≤ r) (r1 : r ≤ 10000) (h : (amtB W && amtB S && amtB c) = true) (h2 : m < 0) :
    Calls Try.prog 7 #[.int .i64 r, .agg #[.int .i64 W, .int .i64 S], .agg #[.int .i64 c, .int .i64 m]] w fun e w' => e = .returned (.bool true) ∧ Below w.heap.size w w' := by
  have k1 : decide (m < -1000) = false := by simp; omega
  have k2 : decide (1000 < m) = false := by simp; omega
  have k3 : decide (r < 0) = false := by simp; omega
  have k4 : decide (10000 < r) = false := by simp; omega
  have lr := fun w n hn => lright3 W S c w 2 true h n hn
  have rc := fun w => recoup_long none none none 0 0 0 0 0 0 r 0 W S c m w (by omega)
  have k5 : decide (m < 0) = true := by simp; omega
  clear h h2
  have ho := holds_any
  have K1 : Bx ((w.alloc (.cells #[.int .i64 W, .int .i64 S] 23)).alloc (.cells #[.int .i64 c, .int .i64 m] 48)) w.heap.size 23 [.int .i64 W, .int .i64 S] := (bx_new w [.int .i64 W, .int .i64 S] 23).alloc _
  have K2 : Bx ((w.alloc (.cells #[.int .i64 W, .int .i64 S] 23)).alloc (.cells #[.int .i64 c, .int .i64 m] 48)) (w.heap.size + 1) 48 [.int .i64 c, .int .i64 m] := bx_at _ [.int .i64 c, .int .i64 m] 48 (by simp)
  have B0 : Below w.heap.size w ((w.alloc (.cells #[.int .i64 W, .int .i64 S] 23)).alloc (.cells #[.int .i64 c, .int .i64 m] 48)) := (below_new _ _).alloc (by simp) _
  go_enter Try.func7, Try.ntmps7
  go_wp2_with (fail)
  with_reducible refine (ho _).mono ?_
  rintro e w1 ⟨rfl, hb⟩
  have K1 := K1.below hb
  have K2 := K2.below hb
  have B1 := below_step B0 hb B0.size
  clear hb B0
  have x0 := K1.cell (i := 0) rfl
  have x1 := K1.cell (i := 1) rfl
  have y0 := K2.cell (i := 0) rfl
  have y1 := K2.cell (i := 1) rfl
  go_wp2_with (fail)
  go_region
  have K1 : Bx w1.drew w.heap.size 23 [.int .i64 W, .int .i64 S] := K1.of_block rfl
  have K2 : Bx w1.drew (w.heap.size + 1) 48 [.int .i64 c, .int .i64 m] := K2.of_block rfl
  have B1 : Below w.heap.size w w1.drew := B1.drew
  have x0 := K1.cell (i := 0) rfl
  have x1 := K1.cell (i := 1) rfl
  generalize w1.drew = w2 at *
  have N3 := below_new w2 (.cells #[.int .i64 W, .int .i64 S, .int .i64 c] 2)
  have lr' := lr w2 _ rfl
  have K1 := K1.below N3
  have B3 := below_step B1 N3 B1.size
  go_wp2_with (fail)
  with_reducible refine lr'.mono ?_
  rintro e w' ⟨rfl, hw⟩
  clear lr' B1 N3 x0 x1
  rw [← hw] at *
  clear hw
  generalize w2.alloc (.cells #[.int .i64 W, .int .i64 S, .int .i64 c] 2) = w3 at *
  have Nt := below_new w3 (.cells #[.slice none 0 0, .slice none 0 0, .slice none 0 0, .int .i64 r, .int .i64 0] 31)
  have Kt := bx_new w3 [.slice none 0 0, .slice none 0 0, .slice none 0 0, .int .i64 r, .int .i64 0] 31
  have K1 := K1.below Nt
  have B4 := below_step B3 Nt B3.size
  have t0 := Kt.cell (i := 0) rfl
  have t1 := Kt.cell (i := 1) rfl
  have t2 := Kt.cell (i := 2) rfl
  have t3 := Kt.cell (i := 3) rfl
  have t4 := Kt.cell (i := 4) rfl
  have x0 := K1.cell (i := 0) rfl
  have x1 := K1.cell (i := 1) rfl
  clear B3
  go_wp2_with (fail)
  generalize w3.alloc (.cells #[.slice none 0 0, .slice none 0 0, .slice none 0 0, .int .i64 r, .int .i64 0] 31) = w4 at *
  with_reducible refine (rc _).mono ?_
  rintro e w5 ⟨rfl, hb⟩
  have B5 := below_step B4 hb B4.size
  have N6 := below_new w5 (.cells #[.slice none 0 0, .int .i64 0] 50)
  have K6 := bx_new w5 [.slice none 0 0, .int .i64 0] 50
  have z0 := K6.cell (i := 0) rfl
  have z1 := K6.cell (i := 1) rfl
  have B6 := below_step B5 N6 B5.size
  go_wp2
  go_ret
  exact ⟨rfl, B6⟩
set_option maxRecDepth 100000 in
set_option maxHeartbeats 1000000 in
theorem rcw_long_b (r W S c m : Int) (w : World) (m0 : -1000 ≤ m) (m1 : m ≤ 1000) (r0 : 0 ≤ r) (r1 : r ≤ 10000) (h : (amtB W && amtB S && amtB c) = true) (h2 : 600 < m) :
    Calls Try.prog 7 #[.int .i64 r, .agg #[.int .i64 W, .int .i64 S], .agg #[.int .i64 c, .int .i64 m]] w fun e w' => e = .returned (.bool true) ∧ Below w.heap.size w w' := by
  have k1 : decide (m < -1000) = false := by simp; omega
  have k2 : decide (1000 < m) = false := by simp; omega
  have k3 : decide (r < 0) = false := by simp; omega
  have k4 : decide (10000 < r) = false := by simp; omega
  have lr := fun w n hn => lright3 W S c w 2 true h n hn
  have rc := fun w => recoup_long none none none 0 0 0 0 0 0 r 0 W S c m w (by omega)
  have k5 : decide (m < 0) = false := by simp; omega
  have k6 : decide (600 < m) = true := by simp; omega
  clear h h2
  have ho := holds_any
  have K1 : Bx ((w.alloc (.cells #[.int .i64 W, .int .i64 S] 23)).alloc (.cells #[.int .i64 c, .int .i64 m] 48)) w.heap.size 23 [.int .i64 W, .int .i64 S] := (bx_new w [.int .i64 W, .int .i64 S] 23).alloc _
  have K2 : Bx ((w.alloc (.cells #[.int .i64 W, .int .i64 S] 23)).alloc (.cells #[.int .i64 c, .int .i64 m] 48)) (w.heap.size + 1) 48 [.int .i64 c, .int .i64 m] := bx_at _ [.int .i64 c, .int .i64 m] 48 (by simp)
  have B0 : Below w.heap.size w ((w.alloc (.cells #[.int .i64 W, .int .i64 S] 23)).alloc (.cells #[.int .i64 c, .int .i64 m] 48)) := (below_new _ _).alloc (by simp) _
  go_enter Try.func7, Try.ntmps7
  go_wp2_with (fail)
  with_reducible refine (ho _).mono ?_
  rintro e w1 ⟨rfl, hb⟩
  have K1 := K1.below hb
  have K2 := K2.below hb
  have B1 := below_step B0 hb B0.size
  clear hb B0
  have x0 := K1.cell (i := 0) rfl
  have x1 := K1.cell (i := 1) rfl
  have y0 := K2.cell (i := 0) rfl
  have y1 := K2.cell (i := 1) rfl
  go_wp2_with (fail)
  go_region
  have K1 : Bx w1.drew w.heap.size 23 [.int .i64 W, .int .i64 S] := K1.of_block rfl
  have K2 : Bx w1.drew (w.heap.size + 1) 48 [.int .i64 c, .int .i64 m] := K2.of_block rfl
  have B1 : Below w.heap.size w w1.drew := B1.drew
  have x0 := K1.cell (i := 0) rfl
  have x1 := K1.cell (i := 1) rfl
  generalize w1.drew = w2 at *
  have N3 := below_new w2 (.cells #[.int .i64 W, .int .i64 S, .int .i64 c] 2)
  have lr' := lr w2 _ rfl
  have K1 := K1.below N3
  have B3 := below_step B1 N3 B1.size
  go_wp2_with (fail)
  with_reducible refine lr'.mono ?_
  rintro e w' ⟨rfl, hw⟩
  clear lr' B1 N3 x0 x1
  rw [← hw] at *
  clear hw
  generalize w2.alloc (.cells #[.int .i64 W, .int .i64 S, .int .i64 c] 2) = w3 at *
  have Nt := below_new w3 (.cells #[.slice none 0 0, .slice none 0 0, .slice none 0 0, .int .i64 r, .int .i64 0] 31)
  have Kt := bx_new w3 [.slice none 0 0, .slice none 0 0, .slice none 0 0, .int .i64 r, .int .i64 0] 31
  have K1 := K1.below Nt
  have B4 := below_step B3 Nt B3.size
  have t0 := Kt.cell (i := 0) rfl
  have t1 := Kt.cell (i := 1) rfl
  have t2 := Kt.cell (i := 2) rfl
  have t3 := Kt.cell (i := 3) rfl
  have t4 := Kt.cell (i := 4) rfl
  have x0 := K1.cell (i := 0) rfl
  have x1 := K1.cell (i := 1) rfl
  clear B3
  go_wp2_with (fail)
  generalize w3.alloc (.cells #[.slice none 0 0, .slice none 0 0, .slice none 0 0, .int .i64 r, .int .i64 0] 31) = w4 at *
  with_reducible refine (rc _).mono ?_
  rintro e w5 ⟨rfl, hb⟩
  have B5 := below_step B4 hb B4.size
  have N6 := below_new w5 (.cells #[.slice none 0 0, .int .i64 0] 50)
  have K6 := bx_new w5 [.slice none 0 0, .int .i64 0] 50
  have z0 := K6.cell (i := 0) rfl
  have z1 := K6.cell (i := 1) rfl
  have B6 := below_step B5 N6 B5.size
  go_wp2
  go_ret
  exact ⟨rfl, B6⟩
set_option maxRecDepth 100000 in
set_option maxHeartbeats 1000000 in
theorem rcw_over (r W S c m : Int) (w : World) (m0 : 0 ≤ m) (m1 : m ≤ 600) (r0 : 0 ≤ r) (r1 : r ≤ 10000) (hW : amtB W = true) (hS : amtB S = true) (hc : amtB c = true) (h2 : amtB (W + S) = false) :
    Calls Try.prog 7 #[.int .i64 r, .agg #[.int .i64 W, .int .i64 S], .agg #[.int .i64 c, .int .i64 m]] w fun e w' => e = .returned (.bool true) ∧ Below w.heap.size w w' := by
  have k1 : decide (m < -1000) = false := by simp; omega
  have k2 : decide (1000 < m) = false := by simp; omega
  have k3 : decide (r < 0) = false := by simp; omega
  have k4 : decide (10000 < r) = false := by simp; omega
  have lr := fun w n hn => lright3 W S c w 2 true (by rw [hW, hS, hc]; rfl) n hn
  have l1 := fun w n hn => lright1 (W + S) w 2 false h2 n hn
  have rc := fun w => recoup_over none none none 0 0 0 0 0 0 r 0 W S c m w m0 m1 hW hS h2
  have k5 : decide (m < 0) = false := by simp; omega
  have k6 : decide (600 < m) = false := by simp; omega
  have hWb := amtB_yes hW
  have hSb := amtB_yes hS
  have hws : wrap64 (W + S) = W + S := IntWalk.wrap64_in _ (by omega)
  clear hW hS hc h2
  have ho := holds_any
  have K1 : Bx ((w.alloc (.cells #[.int .i64 W, .int .i64 S] 23)).alloc (.cells #[.int .i64 c, .int .i64 m] 48)) w.heap.size 23 [.int .i64 W, .int .i64 S] := (bx_new w [.int .i64 W, .int .i64 S] 23).alloc _
  have K2 : Bx ((w.alloc (.cells #[.int .i64 W, .int .i64 S] 23)).alloc (.cells #[.int .i64 c, .int .i64 m] 48)) (w.heap.size + 1) 48 [.int .i64 c, .int .i64 m] := bx_at _ [.int .i64 c, .int .i64 m] 48 (by simp)
  have B0 : Below w.heap.size w ((w.alloc (.cells #[.int .i64 W, .int .i64 S] 23)).alloc (.cells #[.int .i64 c, .int .i64 m] 48)) := (below_new _ _).alloc (by simp) _
  go_enter Try.func7, Try.ntmps7
  go_wp2_with (fail)
  with_reducible refine (ho _).mono ?_
  rintro e w1 ⟨rfl, hb⟩
  have K1 := K1.below hb
  have K2 := K2.below hb
  have B1 := below_step B0 hb B0.size
  clear hb B0
  have x0 := K1.cell (i := 0) rfl
  have x1 := K1.cell (i := 1) rfl
  have y0 := K2.cell (i := 0) rfl
  have y1 := K2.cell (i := 1) rfl
  go_wp2_with (fail)
  go_region
  have K1 : Bx w1.drew w.heap.size 23 [.int .i64 W, .int .i64 S] := K1.of_block rfl
  have K2 : Bx w1.drew (w.heap.size + 1) 48 [.int .i64 c, .int .i64 m] := K2.of_block rfl
  have B1 : Below w.heap.size w w1.drew := B1.drew
  have x0 := K1.cell (i := 0) rfl
  have x1 := K1.cell (i := 1) rfl
  generalize w1.drew = w2 at *
  have N3 := below_new w2 (.cells #[.int .i64 W, .int .i64 S, .int .i64 c] 2)
  have lr' := lr w2 _ rfl
  have K1 := K1.below N3
  have B3 := below_step B1 N3 B1.size
  go_wp2_with (fail)
  with_reducible refine lr'.mono ?_
  rintro e w' ⟨rfl, hw⟩
  clear lr' B1 N3 x0 x1
  rw [← hw] at *
  clear hw
  generalize w2.alloc (.cells #[.int .i64 W, .int .i64 S, .int .i64 c] 2) = w3 at *
  have Nt := below_new w3 (.cells #[.slice none 0 0, .slice none 0 0, .slice none 0 0, .int .i64 r, .int .i64 0] 31)
  have Kt := bx_new w3 [.slice none 0 0, .slice none 0 0, .slice none 0 0, .int .i64 r, .int .i64 0] 31
  have K1 := K1.below Nt
  have B4 := below_step B3 Nt B3.size
  have t0 := Kt.cell (i := 0) rfl
  have t1 := Kt.cell (i := 1) rfl
  have t2 := Kt.cell (i := 2) rfl
  have t3 := Kt.cell (i := 3) rfl
  have t4 := Kt.cell (i := 4) rfl
  have x0 := K1.cell (i := 0) rfl
  have x1 := K1.cell (i := 1) rfl
  clear B3
  go_wp2_with (fail)
  generalize w3.alloc (.cells #[.slice none 0 0, .slice none 0 0, .slice none 0 0, .int .i64 r, .int .i64 0] 31) = w4 at *
  with_reducible refine (rc _).mono ?_
  rintro e w5 ⟨rfl, hb⟩
  have K1 := K1.below hb
  have B5 := below_step B4 hb B4.size
  have N6 := below_new w5 (.cells #[.slice none 0 0, .int .i64 0] 50)
  have K6 := bx_new w5 [.slice none 0 0, .int .i64 0] 50
  have K1 := K1.below N6
  have B6 := below_step B5 N6 B5.size
  have z0 := K6.cell (i := 0) rfl
  have z1 := K6.cell (i := 1) rfl
  have x0 := K1.cell (i := 0) rfl
  have x1 := K1.cell (i := 1) rfl
  clear B4 B5 hb rc t0 t1 t2 t3 t4 Nt Kt
  go_wp2_with (fail)
  generalize hw6 : w5.alloc (.cells #[.slice none 0 0, .int .i64 0] 50) = w6 at *
  have hs6 : w6.heap.size = w5.heap.size + 1 := by rw [← hw6]; simp
  clear hw6
  have N7 := below_new w6 (.cells #[.int .i64 (W + S)] 2)
  have K6 := K6.below N7
  have B7 := below_step B6 N7 B6.size
  have z0 := K6.cell (i := 0) rfl
  have z1 := K6.cell (i := 1) rfl
  have l1' := l1 w6 _ hs6
  with_reducible refine l1'.mono ?_
  rintro e w' ⟨rfl, hw⟩
  rw [← hw] at *
  clear hw
  go_wp2
  go_ret
  exact ⟨rfl, B7⟩
set_option maxRecDepth 100000 in
set_option maxHeartbeats 2000000 in
theorem rcw_none (r W S c m : Int) (w : World) (m0 : 0 ≤ m) (m1 : m ≤ 600) (r0 : 0 ≤ r) (r1 : r ≤ 10000) (hW : amtB W = true) (hS : amtB S = true) (hc : amtB c = true) (h2 : amtB (W + S) = true) (h0 : S ≤ 0) :
    Calls Try.prog 7 #[.int .i64 r, .agg #[.int .i64 W, .int .i64 S], .agg #[.int .i64 c, .int .i64 m]] w fun e w' => e = .returned (.bool true) ∧ Below w.heap.size w w' := by
  have q1 : decide (S ≤ 0) = true := by simpa using h0
  have k1 : decide (m < -1000) = false := by simp; omega
  have k2 : decide (1000 < m) = false := by simp; omega
  have k3 : decide (r < 0) = false := by simp; omega
  have k4 : decide (10000 < r) = false := by simp; omega
  have lr := fun w n hn => lright3 W S c w 2 true (by rw [hW, hS, hc]; rfl) n hn
  have l1 := fun w n hn => lright1 (W + S) w 2 true h2 n hn
  have rc := fun w => recoup_ok none none none 0 0 0 0 0 0 r 0 W S c m w m0 m1 hW hS hc (rateB_mk r0 r1) h2
  have lm := fun w => limit_ok none none none 0 0 0 0 0 0 r 0 c w (amtB_yes hc).2 (rateB_mk r0 r1)
  have hlim := limV_bd r0 r1 (amtB_yes hc).2
  have k5 : decide (m < 0) = false := by simp; omega
  have k6 : decide (600 < m) = false := by simp; omega
  have hWb := amtB_yes hW
  have hSb := amtB_yes hS
  have hws : wrap64 (W + S) = W + S := IntWalk.wrap64_in _ (by omega)
  clear hW hS hc h2
  generalize limV r c = l at *
  have ho := holds_any
  have K1 : Bx ((w.alloc (.cells #[.int .i64 W, .int .i64 S] 23)).alloc (.cells #[.int .i64 c, .int .i64 m] 48)) w.heap.size 23 [.int .i64 W, .int .i64 S] := (bx_new w [.int .i64 W, .int .i64 S] 23).alloc _
  have K2 : Bx ((w.alloc (.cells #[.int .i64 W, .int .i64 S] 23)).alloc (.cells #[.int .i64 c, .int .i64 m] 48)) (w.heap.size + 1) 48 [.int .i64 c, .int .i64 m] := bx_at _ [.int .i64 c, .int .i64 m] 48 (by simp)
  have B0 : Below w.heap.size w ((w.alloc (.cells #[.int .i64 W, .int .i64 S] 23)).alloc (.cells #[.int .i64 c, .int .i64 m] 48)) := (below_new _ _).alloc (by simp) _
  go_enter Try.func7, Try.ntmps7
  go_wp2_with (fail)
  with_reducible refine (ho _).mono ?_
  rintro e w1 ⟨rfl, hb⟩
  have K1 := K1.below hb
  have K2 := K2.below hb
  have B1 := below_step B0 hb B0.size
  clear hb B0
  have x0 := K1.cell (i := 0) rfl
  have x1 := K1.cell (i := 1) rfl
  have y0 := K2.cell (i := 0) rfl
  have y1 := K2.cell (i := 1) rfl
  go_wp2_with (fail)
  go_region
  have K1 : Bx w1.drew w.heap.size 23 [.int .i64 W, .int .i64 S] := K1.of_block rfl
  have K2 : Bx w1.drew (w.heap.size + 1) 48 [.int .i64 c, .int .i64 m] := K2.of_block rfl
  have B1 : Below w.heap.size w w1.drew := B1.drew
  have x0 := K1.cell (i := 0) rfl
  have x1 := K1.cell (i := 1) rfl
  generalize w1.drew = w2 at *
  have N3 := below_new w2 (.cells #[.int .i64 W, .int .i64 S, .int .i64 c] 2)
  have lr' := lr w2 _ rfl
  have K1 := K1.below N3
  have B3 := below_step B1 N3 B1.size
  go_wp2_with (fail)
  with_reducible refine lr'.mono ?_
  rintro e w' ⟨rfl, hw⟩
  clear lr' B1 N3 x0 x1
  rw [← hw] at *
  clear hw
  generalize w2.alloc (.cells #[.int .i64 W, .int .i64 S, .int .i64 c] 2) = w3 at *
  have Nt := below_new w3 (.cells #[.slice none 0 0, .slice none 0 0, .slice none 0 0, .int .i64 r, .int .i64 0] 31)
  have Kt := bx_new w3 [.slice none 0 0, .slice none 0 0, .slice none 0 0, .int .i64 r, .int .i64 0] 31
  have K1 := K1.below Nt
  have B4 := below_step B3 Nt B3.size
  have t0 := Kt.cell (i := 0) rfl
  have t1 := Kt.cell (i := 1) rfl
  have t2 := Kt.cell (i := 2) rfl
  have t3 := Kt.cell (i := 3) rfl
  have t4 := Kt.cell (i := 4) rfl
  have x0 := K1.cell (i := 0) rfl
  have x1 := K1.cell (i := 1) rfl
  clear B3
  go_wp2_with (fail)
  generalize w3.alloc (.cells #[.slice none 0 0, .slice none 0 0, .slice none 0 0, .int .i64 r, .int .i64 0] 31) = w4 at *
  with_reducible refine (rc _).mono ?_
  rintro e w5 ⟨v, k, rfl, hv, hkm, hpos, hend, hb⟩
  have hlen := rcL_len S l k
  obtain ⟨vA, vc, rfl⟩ := ri_len hv
  have HLEN := Lib.hid hlen
  rw [hlen] at hv ⊢
  clear hlen
  have K1 := K1.below hb
  have Kt := Kt.below hb
  have B5 := below_step B4 hb B4.size
  have N6 := below_new w5 (.cells #[.slice vA k vc, .int .i64 (rcS S l k)] 50)
  have K6 := bx_new w5 [.slice vA k vc, .int .i64 (rcS S l k)] 50
  have K1 := K1.below N6
  have Kt := Kt.below N6
  have B6 := below_step B5 N6 B5.size
  have z0 := K6.cell (i := 0) rfl
  have z1 := K6.cell (i := 1) rfl
  have x0 := K1.cell (i := 0) rfl
  have x1 := K1.cell (i := 1) rfl
  clear B4 B5 hb rc t0 t1 t2 t3 t4 Nt
  have HV := Lib.hid (own_below hv N6)
  clear hv N6
  have hk0 : k = 0 := by
    rcases Nat.eq_zero_or_pos k with h | h
    · exact h
    · have := hpos 0 h
      have : 0 < S := this
      omega
  subst hk0
  clear hpos hend HV
  rw [show rcS S l 0 = S from rfl] at *
  go_wp2_with (fail)
  generalize hw6 : w5.alloc (.cells #[.slice vA 0 vc, .int .i64 S] 50) = w6 at *
  have hs6 : w6.heap.size = w5.heap.size + 1 := by rw [← hw6]; simp
  clear hw6
  have N7 := below_new w6 (.cells #[.int .i64 (W + S)] 2)
  have K6 := K6.below N7
  have K1 := K1.below N7
  have B7 := below_step B6 N7 B6.size
  have z0 := K6.cell (i := 0) rfl
  have z1 := K6.cell (i := 1) rfl
  have x0 := K1.cell (i := 0) rfl
  have x1 := K1.cell (i := 1) rfl
  have l1' := l1 w6 _ hs6
  with_reducible refine l1'.mono ?_
  rintro e w' ⟨rfl, hw⟩
  rw [← hw] at *
  clear hw
  go_wp2
  go_ret
  exact ⟨rfl, B7⟩
theorem rcT_bd {S l : Int} (h0 : 0 ≤ S) (h1 : S ≤ 100000000000) (hl : 0 ≤ l) (i : Nat) : 0 ≤ rcT S l i ∧ rcT S l i ≤ 100000000000 := by
  have := rcT_is S l i
  have := rcS_bd h0 hl i
  omega
set_option maxHeartbeats 4000000 in
set_option maxRecDepth 100000 in
theorem rcw_some (r W S c m : Int) (w : World) (m0 : 0 ≤ m) (m1 : m ≤ 600) (r0 : 0 ≤ r) (r1 : r ≤ 10000) (hW : amtB W = true) (hS : amtB S = true) (hc : amtB c = true) (h2 : amtB (W + S) = true) (h0 : 0 < S) :
    Calls Try.prog 7 #[.int .i64 r, .agg #[.int .i64 W, .int .i64 S], .agg #[.int .i64 c, .int .i64 m]] w fun e w' => e = .returned (.bool true) ∧ Below w.heap.size w w' := by
  have q1 : decide (S ≤ 0) = false := by simp; omega
  have k1 : decide (m < -1000) = false := by simp; omega
  have k2 : decide (1000 < m) = false := by simp; omega
  have k3 : decide (r < 0) = false := by simp; omega
  have k4 : decide (10000 < r) = false := by simp; omega
  have lr := fun w n hn => lright3 W S c w 2 true (by rw [hW, hS, hc]; rfl) n hn
  have l1 := fun w n hn => lright1 (W + S) w 2 true h2 n hn
  have rc := fun w => recoup_ok none none none 0 0 0 0 0 0 r 0 W S c m w m0 m1 hW hS hc (rateB_mk r0 r1) h2
  have lm := fun w => limit_ok none none none 0 0 0 0 0 0 r 0 c w (amtB_yes hc).2 (rateB_mk r0 r1)
  have hlim := limV_bd r0 r1 (amtB_yes hc).2
  have k5 : decide (m < 0) = false := by simp; omega
  have k6 : decide (600 < m) = false := by simp; omega
  have hWb := amtB_yes hW
  have hSb := amtB_yes hS
  have hws : wrap64 (W + S) = W + S := IntWalk.wrap64_in _ (by omega)
  clear hW hS hc h2
  generalize limV r c = l at *
  have ho := holds_any
  have K1 : Bx ((w.alloc (.cells #[.int .i64 W, .int .i64 S] 23)).alloc (.cells #[.int .i64 c, .int .i64 m] 48)) w.heap.size 23 [.int .i64 W, .int .i64 S] := (bx_new w [.int .i64 W, .int .i64 S] 23).alloc _
  have K2 : Bx ((w.alloc (.cells #[.int .i64 W, .int .i64 S] 23)).alloc (.cells #[.int .i64 c, .int .i64 m] 48)) (w.heap.size + 1) 48 [.int .i64 c, .int .i64 m] := bx_at _ [.int .i64 c, .int .i64 m] 48 (by simp)
  have B0 : Below w.heap.size w ((w.alloc (.cells #[.int .i64 W, .int .i64 S] 23)).alloc (.cells #[.int .i64 c, .int .i64 m] 48)) := (below_new _ _).alloc (by simp) _
  go_enter Try.func7, Try.ntmps7
  go_wp2_with (fail)
  with_reducible refine (ho _).mono ?_
  rintro e w1 ⟨rfl, hb⟩
  have K1 := K1.below hb
  have K2 := K2.below hb
  have B1 := below_step B0 hb B0.size
  clear hb B0
  have x0 := K1.cell (i := 0) rfl
  have x1 := K1.cell (i := 1) rfl
  have y0 := K2.cell (i := 0) rfl
  have y1 := K2.cell (i := 1) rfl
  go_wp2_with (fail)
  go_region
  have K1 : Bx w1.drew w.heap.size 23 [.int .i64 W, .int .i64 S] := K1.of_block rfl
  have K2 : Bx w1.drew (w.heap.size + 1) 48 [.int .i64 c, .int .i64 m] := K2.of_block rfl
  have B1 : Below w.heap.size w w1.drew := B1.drew
  have x0 := K1.cell (i := 0) rfl
  have x1 := K1.cell (i := 1) rfl
  generalize w1.drew = w2 at *
  have N3 := below_new w2 (.cells #[.int .i64 W, .int .i64 S, .int .i64 c] 2)
  have lr' := lr w2 _ rfl
  have K1 := K1.below N3
  have B3 := below_step B1 N3 B1.size
  go_wp2_with (fail)
  with_reducible refine lr'.mono ?_
  rintro e w' ⟨rfl, hw⟩
  clear lr' B1 N3 x0 x1
  rw [← hw] at *
  clear hw
  generalize w2.alloc (.cells #[.int .i64 W, .int .i64 S, .int .i64 c] 2) = w3 at *
  have Nt := below_new w3 (.cells #[.slice none 0 0, .slice none 0 0, .slice none 0 0, .int .i64 r, .int .i64 0] 31)
  have Kt := bx_new w3 [.slice none 0 0, .slice none 0 0, .slice none 0 0, .int .i64 r, .int .i64 0] 31
  have K1 := K1.below Nt
  have B4 := below_step B3 Nt B3.size
  have t0 := Kt.cell (i := 0) rfl
  have t1 := Kt.cell (i := 1) rfl
  have t2 := Kt.cell (i := 2) rfl
  have t3 := Kt.cell (i := 3) rfl
  have t4 := Kt.cell (i := 4) rfl
  have x0 := K1.cell (i := 0) rfl
  have x1 := K1.cell (i := 1) rfl
  clear B3
  go_wp2_with (fail)
  generalize w3.alloc (.cells #[.slice none 0 0, .slice none 0 0, .slice none 0 0, .int .i64 r, .int .i64 0] 31) = w4 at *
  with_reducible refine (rc _).mono ?_
  rintro e w5 ⟨v, k, rfl, hv, hkm, hpos, hend, hb⟩
  have hlen := rcL_len S l k
  obtain ⟨vA, vc, rfl⟩ := ri_len hv
  have HLEN := Lib.hid hlen
  rw [hlen] at hv ⊢
  clear hlen
  have K1 := K1.below hb
  have Kt := Kt.below hb
  have B5 := below_step B4 hb B4.size
  have N6 := below_new w5 (.cells #[.slice vA k vc, .int .i64 (rcS S l k)] 50)
  have K6 := bx_new w5 [.slice vA k vc, .int .i64 (rcS S l k)] 50
  have K1 := K1.below N6
  have Kt := Kt.below N6
  have B6 := below_step B5 N6 B5.size
  have z0 := K6.cell (i := 0) rfl
  have z1 := K6.cell (i := 1) rfl
  have x0 := K1.cell (i := 0) rfl
  have x1 := K1.cell (i := 1) rfl
  clear B4 B5 hb rc t0 t1 t2 t3 t4 Nt
  have HV := Lib.hid (own_below hv N6)
  clear hv N6
  go_wp2_with (fail)
  generalize hw6 : w5.alloc (.cells #[.slice vA k vc, .int .i64 (rcS S l k)] 50) = w6 at *
  have hs6 : w6.heap.size = w5.heap.size + 1 := by rw [← hw6]; simp
  clear hw6
  have N7 := below_new w6 (.cells #[.int .i64 (W + S)] 2)
  have K6 := K6.below N7
  have K1 := K1.below N7
  have Kt := Kt.below N7
  have B7 := below_step B6 N7 B6.size
  have HV := Lib.hid (own_below HV.out N7)
  have z0 := K6.cell (i := 0) rfl
  have z1 := K6.cell (i := 1) rfl
  have x0 := K1.cell (i := 0) rfl
  have x1 := K1.cell (i := 1) rfl
  have t0 := Kt.cell (i := 0) rfl
  have t1 := Kt.cell (i := 1) rfl
  have t2 := Kt.cell (i := 2) rfl
  have t3 := Kt.cell (i := 3) rfl
  have t4 := Kt.cell (i := 4) rfl
  have l1' := l1 w6 _ hs6
  with_reducible refine l1'.mono ?_
  rintro e w' ⟨rfl, hw⟩
  rw [← hw] at *
  clear hw l1' l1 lr N7 B6
  generalize w6.alloc (.cells #[.int .i64 (W + S)] 2) = w7 at *
  go_wp2_with (fail)
  with_reducible refine (lm _).mono ?_
  rintro e w8 ⟨rfl, hb8⟩
  have K1 := K1.below hb8
  have K6 := K6.below hb8
  have B8 := below_step B7 hb8 B7.size
  have HV := own_below HV.out hb8
  have z0 := K6.cell (i := 0) rfl
  have z1 := K6.cell (i := 1) rfl
  have x0 := K1.cell (i := 0) rfl
  have x1 := K1.cell (i := 1) rfl
  clear lm hb8 B7 Kt t0 t1 t2 t3 t4
  have hcells : 0 < k → ∃ g, vA = some ⟨g, 0, none⟩ ∧ ∀ i, i < k → w8.cell? ⟨g, i, none⟩ = some (.int .i64 (min (rcS S l i) l)) := fun hk => by
    have hv : Ri w8 w4.heap.size (.slice vA k vc) (rcL S l k) := by exact HV
    obtain ⟨g, c', hs, _, hc⟩ := ri_cell hv (by rw [HLEN.out]; exact hk)
    simp only [Value.slice.injEq] at hs
    exact ⟨g, hs.1, fun i hi => by have := hc i (by rw [HLEN.out]; exact hi); rwa [rcL_get S l k i hi] at this⟩
  have HC := Lib.hid hcells
  have HP := Lib.hid hpos
  have hT := rcT_is S l k
  have hTb := rcT_bd (Int.le_of_lt h0) hSb.2 hlim.1
  have hR := rcS_bd (Int.le_of_lt h0) hlim.1
  have HTb := Lib.hid hTb
  have HR := Lib.hid hR
  have hTk := hTb k
  have hRk := hR k
  have HE := Lib.hid hend
  have q2 : wrap64 (rcT S l k + rcS S l k) = S := by rw [hT]; exact IntWalk.wrap64_in _ (by omega)
  have HT := Lib.hid hT
  clear hcells hpos hTb hR hT hend HV
  go_wp2
  go_loopw [125, 14] (fun j s X => ∃ i : Nat, i ≤ k ∧ j = .int .i64 i ∧ s = .int .i64 (rcT S l i) ∧ X = w8) (fun j _ _ => k - (intOf j).toNat)
  case atStart => exact ⟨0, Nat.zero_le _, rfl, rfl, rfl⟩
  case round =>
    obtain ⟨i, hi, rfl, rfl, rfl⟩ := hrel
    by_cases hlt : i < k
    · obtain ⟨g, rfl, hc⟩ := HC.out (by omega)
      have hcell := hc i hlt
      have p0 : 0 < rcS S l i := HP.out i hlt
      have b1 := HTb.out i
      have b2 := HTb.out (i + 1)
      have hs : rcT S l (i + 1) = rcT S l i + min (rcS S l i) l := rfl
      have hx : i + 1 < k → min (rcS S l i) l = l := fun h => rcS_lim (HP.out (i + 1) h)
      have hkey : (decide ((i : Int) + 1 < (k : Int)) = false) ∨ (decide ((i : Int) + 1 < (k : Int)) = true ∧ (min (rcS S l i) l != l) = false) := by
        by_cases h : i + 1 < k
        · exact .inr ⟨by simp; omega, by simpa using hx h⟩
        · exact .inl (by simp; omega)
      have HS := Lib.hid hs
      clear hc hx hs
      generalize hxx : min (rcS S l i) l = x at *
      have u1 : decide (l < x) = false := by simp; omega
      have u2 : decide (x < 0) = false := by simp; omega
      have u3 : wrap64 (rcT S l i + x) = rcT S l (i + 1) := by rw [HS.out]; exact IntWalk.wrap64_in _ (by have := HS.out; omega)
      clear hxx p0
      generalize hT2 : rcT S l (i + 1) = T2 at *
      have HT2 := Lib.hid hT2
      clear hT2
      generalize rcT S l i = T1 at *
      clear b1 b2 HS
      rcases hkey with h1 | ⟨h1, h3⟩
      all_goals
        go_wp2
        go_roundw
        case rel => exact ⟨i + 1, hlt, by go_num, by rw [HT2.out, u3], by trivial⟩
        case measure => simp [intOf]; omega
    · obtain rfl : i = k := by omega
      have HE2 := HE.out
      generalize rcS S l i = R at *
      generalize rcT S l i = T1 at *
      have v1 : (wrap64 (T1 + R) != S) = false := by rw [q2]; simp
      have v2 : decide (R < 0) = false := by simp; omega
      have v3 : decide (m < (i : Int)) = false := by simp; omega
      have key : (R == 0) = true ∨ ((R == 0) = false ∧ (((i : Int) == m) = true)) ∨ ((R == 0) = false ∧ (((i : Int) == m) = false) ∧ (l == 0) = true) := by
        by_cases e1 : R = 0
        · exact .inl (by simpa using e1)
        · by_cases e2 : (i : Int) = m
          · exact .inr (.inl ⟨by simpa using e1, by simpa using e2⟩)
          · refine .inr (.inr ⟨by simpa using e1, by simpa using e2, ?_⟩)
            rcases HE2 with h | h | h
            · omega
            · exact absurd h e2
            · simpa using h
      clear q2 HE2 hTk hRk
      rcases key with e1 | ⟨e1, e2⟩ | ⟨e1, e2, e3⟩
      all_goals
        go_wp2
        go_ret
        exact ⟨rfl, B8⟩
theorem wHoldRecoups (r W S c m : Int) (w : World) (hr : -9223372036854775808 ≤ r ∧ r ≤ 9223372036854775807) (hW : fits W) (hS : fits S) (hc : -9223372036854775808 ≤ c ∧ c ≤ 9223372036854775807) (hm : -9223372036854775808 ≤ m ∧ m ≤ 9223372036854775807) :
    Calls Try.prog 7 #[.int .i64 r, .agg #[.int .i64 W, .int .i64 S], .agg #[.int .i64 c, .int .i64 m]] w fun e w' => e = .returned (.bool true) ∧ Below w.heap.size w w' := by
  by_cases m0 : m < -1000
  · exact rcw_out_a r W S c m w m0
  · by_cases m1 : 1000 < m
    · exact rcw_out_b r W S c m w m1
    · cases hR : (amtB W && amtB S && amtB c)
      · exact rcw_no r W S c m w (by omega) (by omega) hR
      · by_cases r0 : r < 0
        · exact rcw_rate_a r W S c m w (by omega) (by omega) hR r0
        · by_cases r1 : 10000 < r
          · exact rcw_rate_b r W S c m w (by omega) (by omega) hR r1
          · by_cases n0 : m < 0
            · exact rcw_long_a r W S c m w (by omega) (by omega) (by omega) (by omega) hR n0
            · by_cases n1 : 600 < m
              · exact rcw_long_b r W S c m w (by omega) (by omega) (by omega) (by omega) hR n1
              · obtain ⟨⟨g0, g1⟩, g2⟩ : (amtB W = true ∧ amtB S = true) ∧ amtB c = true := by simpa only [Bool.and_eq_true] using hR
                cases hD : amtB (W + S)
                · exact rcw_over r W S c m w (by omega) (by omega) (by omega) (by omega) g0 g1 g2 hD
                · by_cases s0 : S ≤ 0
                  · exact rcw_none r W S c m w (by omega) (by omega) (by omega) (by omega) g0 g1 g2 hD s0
                  · exact rcw_some r W S c m w (by omega) (by omega) (by omega) (by omega) g0 g1 g2 hD (by omega)
end Go.Proofs.Ytgekojbmlppmdaa
