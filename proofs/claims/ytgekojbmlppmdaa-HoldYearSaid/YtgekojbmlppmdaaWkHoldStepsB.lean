/- The walk of the law HoldSteps: where the table's rate may be. -/
import Derived.Test.YtgekojbmlppmdaaWkHoldStepsA
namespace Go.Proofs.Ytgekojbmlppmdaa
open Go.RowKit Go.Sort
set_option linter.unusedVariables false
set_option linter.unusedSimpArgs false

theorem mixedAll : Try.prog.follows .mixedOrders = true := by kernel_rfl
theorem lim_walk {r c : Int} (r0 : 0 ≤ r) (r1 : r ≤ 10000) (hc : -100000000000 ≤ c ∧ c ≤ 100000000000) : wrap64 ((wrap64 (max 0 c * r)).tdiv 10000) = limV r c := by
  have b := limV_bd r0 r1 hc.2
  unfold limV at b ⊢
  rw [show max 0 c = max c 0 by omega]
  have hm : 0 ≤ max c 0 := by omega
  have hm2 : max c 0 ≤ 100000000000 := by omega
  have a := Int.mul_nonneg hm r0
  have d := Int.mul_le_mul_of_nonneg_left r1 hm
  generalize max c 0 = m at *
  generalize m * r = p at *
  rw [IntWalk.wrap64_in p (by omega), Int.tdiv_eq_ediv_of_nonneg a]
  exact IntWalk.wrap64_in _ (by omega)

set_option maxHeartbeats 2000000 in
theorem hs_n_a (r W S c D lim : Int) (b : Bool) (w : World) (r0 : 0 ≤ r) (r1 : r ≤ 10000) (hW : -100000000000 ≤ W ∧ W ≤ 100000000000) (hc : -100000000000 ≤ c ∧ c ≤ 100000000000) (hD : -100000000000 ≤ D ∧ D ≤ 100000000000)
    (hlw : wrap64 ((wrap64 (max 0 c * r)).tdiv 10000) = lim) (hl0 : 0 ≤ lim) (hl1 : lim ≤ 100000000000) (q1 : lim < D - W)
    (st : ∀ w, Calls Try.prog 9 #[.agg #[.slice none 0 0, .slice none 0 0, .slice none 0 0, .int .i64 r, .int .i64 0], .agg #[.int .i64 W, .int .i64 S], .int .i64 c, .int .i64 D, .bool b] w fun e w' => e = .returned (.tuple #[.int .i64 0, .agg #[.int .i64 W, .int .i64 S], .int .i64 10]) ∧ Below w.heap.size w w')
    (lr : ∀ (w : World) (n : Nat), w.heap.size = n → Calls Try.prog 10 #[.slice (some ⟨n, 0, none⟩) 4 4] (w.alloc (.cells #[.int .i64 W, .int .i64 S, .int .i64 c, .int .i64 D] 2)) fun e w' => e = .returned (.bool true) ∧ w.alloc (.cells #[.int .i64 W, .int .i64 S, .int .i64 c, .int .i64 D] 2) = w')
    (lq : ∀ (w : World) (n : Nat), w.heap.size = n → Calls Try.prog 10 #[.slice (some ⟨n, 0, none⟩) 3 3] (w.alloc (.cells #[.int .i64 (D - W), .int .i64 (W + lim), .int .i64 (D - W - lim)] 2)) fun e w' => e = .returned (.bool false) ∧ w.alloc (.cells #[.int .i64 (D - W), .int .i64 (W + lim), .int .i64 (D - W - lim)] 2) = w')
     :
    Calls Try.prog 3 #[.int .i64 r, .agg #[.int .i64 W, .int .i64 S], .agg #[.int .i64 c, .int .i64 D, .bool b]] w fun e w' => e = .returned (.bool true) ∧ Below w.heap.size w w' := by
  have t0 : ¬ r < 0 := by omega
  have t1 : ¬ 10000 < r := by omega
  have ho := holds_any
  have H0 := ab_new w W S ⟨c, D, b⟩
  have B0 : Below w.heap.size w ((w.alloc (.cells #[.int .i64 W, .int .i64 S] 23)).alloc (.cells #[.int .i64 c, .int .i64 D, .bool b] 25)) := (below_new _ _).alloc (by simp) _
  dsimp only at *
  go_enter Try.func3, Try.ntmps3
  go_wp2_with (fail)
  with_reducible refine (ho _).mono ?_
  rintro e w1 ⟨rfl, hb⟩
  have H1 := H0.below hb
  have B1 := below_step B0 hb B0.size
  clear H0 B0 hb
  have Nt := below_new w1 (.cells #[.slice none 0 0, .slice none 0 0, .slice none 0 0, .int .i64 r, .int .i64 0] 31)
  have Kt := bx_new w1 [.slice none 0 0, .slice none 0 0, .slice none 0 0, .int .i64 r, .int .i64 0] 31
  have H2 := H1.below Nt
  have B2 := below_step B1 Nt B1.size
  have t0 := Kt.cell (i := 0) rfl
  have t1 := Kt.cell (i := 1) rfl
  have t2 := Kt.cell (i := 2) rfl
  have t3 := Kt.cell (i := 3) rfl
  have t4 := Kt.cell (i := 4) rfl
  obtain ⟨A0, A1⟩ := id H2
  have x0 := A0.cell (i := 0) rfl
  have x1 := A0.cell (i := 1) rfl
  have y0 := A1.cell (i := 0) rfl
  have y1 := A1.cell (i := 1) rfl
  have y2 := A1.cell (i := 2) rfl
  clear H1 B1
  go_wp2_with (fail)
  generalize w1.alloc (.cells #[.slice none 0 0, .slice none 0 0, .slice none 0 0, .int .i64 r, .int .i64 0] 31) = wt at *
  with_reducible refine (st _).mono ?_
  rintro e w2 ⟨rfl, hb⟩
  have H3 := H2.below hb
  have B3 := below_step B2 hb B2.size
  clear A0 A1 x0 x1 y0 y1 y2
  clear H2 B2 hb t0 t1 t2 t3 t4 Nt Kt
  have Nn := below_new w2 (.cells #[.int .i64 W, .int .i64 S] 23)
  have Kn := bx_new w2 [.int .i64 W, .int .i64 S] 23
  have H4 := H3.below Nn
  have B4 := below_step B3 Nn B3.size
  have lr' := lr (w2.alloc (.cells #[.int .i64 W, .int .i64 S] 23)) (w2.heap.size + 1) (by simp)
  obtain ⟨A0, A1⟩ := id H4
  have x0 := A0.cell (i := 0) rfl
  have x1 := A0.cell (i := 1) rfl
  have y0 := A1.cell (i := 0) rfl
  have y1 := A1.cell (i := 1) rfl
  have y2 := A1.cell (i := 2) rfl
  clear H3 B3
  go_wp2_with (fail)
  with_reducible refine lr'.mono ?_
  rintro e w' ⟨rfl, hw⟩
  clear lr'
  generalize w2.alloc (.cells #[.int .i64 W, .int .i64 S] 23) = w3 at *
  have N5 := below_new w3 (.cells #[.int .i64 W, .int .i64 S, .int .i64 c, .int .i64 D] 2)
  have K5 := Kn.below N5
  have H5 := H4.below N5
  have B5 := below_step B4 N5 B4.size
  clear A0 A1 x0 x1 y0 y1 y2
  clear H4 B4 Kn N5 Nn
  rw [← hw] at *
  clear hw
  generalize w3.alloc (.cells #[.int .i64 W, .int .i64 S, .int .i64 c, .int .i64 D] 2) = w4 at *
  obtain ⟨A0, A1⟩ := id H5
  have x0 := A0.cell (i := 0) rfl
  have x1 := A0.cell (i := 1) rfl
  have y0 := A1.cell (i := 0) rfl
  have y1 := A1.cell (i := 1) rfl
  have y2 := A1.cell (i := 2) rfl
  have k0 := K5.cell (i := 0) rfl
  have k1 := K5.cell (i := 1) rfl
  go_wp2_with (fail)
  with_reducible refine (lq _ _ rfl).mono ?_
  rintro e w5 ⟨rfl, hw⟩
  have hb : Below w4.heap.size w4 w5 := by rw [← hw]; exact below_new _ _
  clear hw
  clear A0 A1 x0 x1 y0 y1 y2
  clear k0 k1
  have H6 := H5.below hb
  have K6 := K5.below hb
  have B6 := below_step B5 hb B5.size
  clear hb H5 K5 B5
  obtain ⟨A0, A1⟩ := id H6
  have x0 := A0.cell (i := 0) rfl
  have x1 := A0.cell (i := 1) rfl
  have y0 := A1.cell (i := 0) rfl
  have y1 := A1.cell (i := 1) rfl
  have y2 := A1.cell (i := 2) rfl
  have k0 := K6.cell (i := 0) rfl
  have k1 := K6.cell (i := 1) rfl
  go_wp2
  go_ret
  exact ⟨rfl, B6⟩

set_option maxHeartbeats 2000000 in
theorem hs_n_b (r W S c D lim : Int) (b : Bool) (w : World) (r0 : 0 ≤ r) (r1 : r ≤ 10000) (hW : -100000000000 ≤ W ∧ W ≤ 100000000000) (hc : -100000000000 ≤ c ∧ c ≤ 100000000000) (hD : -100000000000 ≤ D ∧ D ≤ 100000000000)
    (hlw : wrap64 ((wrap64 (max 0 c * r)).tdiv 10000) = lim) (hl0 : 0 ≤ lim) (hl1 : lim ≤ 100000000000) (q1 : D - W ≤ lim) (q2 : 0 ≤ D - W)
    (st : ∀ w, Calls Try.prog 9 #[.agg #[.slice none 0 0, .slice none 0 0, .slice none 0 0, .int .i64 r, .int .i64 0], .agg #[.int .i64 W, .int .i64 S], .int .i64 c, .int .i64 D, .bool b] w fun e w' => e = .returned (.tuple #[.int .i64 0, .agg #[.int .i64 W, .int .i64 S], .int .i64 10]) ∧ Below w.heap.size w w')
    (lr : ∀ (w : World) (n : Nat), w.heap.size = n → Calls Try.prog 10 #[.slice (some ⟨n, 0, none⟩) 4 4] (w.alloc (.cells #[.int .i64 W, .int .i64 S, .int .i64 c, .int .i64 D] 2)) fun e w' => e = .returned (.bool true) ∧ w.alloc (.cells #[.int .i64 W, .int .i64 S, .int .i64 c, .int .i64 D] 2) = w')
    (lq : ∀ (w : World) (n : Nat), w.heap.size = n → Calls Try.prog 10 #[.slice (some ⟨n, 0, none⟩) 3 3] (w.alloc (.cells #[.int .i64 (D - W), .int .i64 (W + (D - W)), .int .i64 0] 2)) fun e w' => e = .returned (.bool false) ∧ w.alloc (.cells #[.int .i64 (D - W), .int .i64 (W + (D - W)), .int .i64 0] 2) = w')
     :
    Calls Try.prog 3 #[.int .i64 r, .agg #[.int .i64 W, .int .i64 S], .agg #[.int .i64 c, .int .i64 D, .bool b]] w fun e w' => e = .returned (.bool true) ∧ Below w.heap.size w w' := by
  have t0 : ¬ r < 0 := by omega
  have t1 : ¬ 10000 < r := by omega
  have ho := holds_any
  have H0 := ab_new w W S ⟨c, D, b⟩
  have B0 : Below w.heap.size w ((w.alloc (.cells #[.int .i64 W, .int .i64 S] 23)).alloc (.cells #[.int .i64 c, .int .i64 D, .bool b] 25)) := (below_new _ _).alloc (by simp) _
  dsimp only at *
  go_enter Try.func3, Try.ntmps3
  go_wp2_with (fail)
  with_reducible refine (ho _).mono ?_
  rintro e w1 ⟨rfl, hb⟩
  have H1 := H0.below hb
  have B1 := below_step B0 hb B0.size
  clear H0 B0 hb
  have Nt := below_new w1 (.cells #[.slice none 0 0, .slice none 0 0, .slice none 0 0, .int .i64 r, .int .i64 0] 31)
  have Kt := bx_new w1 [.slice none 0 0, .slice none 0 0, .slice none 0 0, .int .i64 r, .int .i64 0] 31
  have H2 := H1.below Nt
  have B2 := below_step B1 Nt B1.size
  have t0 := Kt.cell (i := 0) rfl
  have t1 := Kt.cell (i := 1) rfl
  have t2 := Kt.cell (i := 2) rfl
  have t3 := Kt.cell (i := 3) rfl
  have t4 := Kt.cell (i := 4) rfl
  obtain ⟨A0, A1⟩ := id H2
  have x0 := A0.cell (i := 0) rfl
  have x1 := A0.cell (i := 1) rfl
  have y0 := A1.cell (i := 0) rfl
  have y1 := A1.cell (i := 1) rfl
  have y2 := A1.cell (i := 2) rfl
  clear H1 B1
  go_wp2_with (fail)
  generalize w1.alloc (.cells #[.slice none 0 0, .slice none 0 0, .slice none 0 0, .int .i64 r, .int .i64 0] 31) = wt at *
  with_reducible refine (st _).mono ?_
  rintro e w2 ⟨rfl, hb⟩
  have H3 := H2.below hb
  have B3 := below_step B2 hb B2.size
  clear A0 A1 x0 x1 y0 y1 y2
  clear H2 B2 hb t0 t1 t2 t3 t4 Nt Kt
  have Nn := below_new w2 (.cells #[.int .i64 W, .int .i64 S] 23)
  have Kn := bx_new w2 [.int .i64 W, .int .i64 S] 23
  have H4 := H3.below Nn
  have B4 := below_step B3 Nn B3.size
  have lr' := lr (w2.alloc (.cells #[.int .i64 W, .int .i64 S] 23)) (w2.heap.size + 1) (by simp)
  obtain ⟨A0, A1⟩ := id H4
  have x0 := A0.cell (i := 0) rfl
  have x1 := A0.cell (i := 1) rfl
  have y0 := A1.cell (i := 0) rfl
  have y1 := A1.cell (i := 1) rfl
  have y2 := A1.cell (i := 2) rfl
  clear H3 B3
  go_wp2_with (fail)
  with_reducible refine lr'.mono ?_
  rintro e w' ⟨rfl, hw⟩
  clear lr'
  generalize w2.alloc (.cells #[.int .i64 W, .int .i64 S] 23) = w3 at *
  have N5 := below_new w3 (.cells #[.int .i64 W, .int .i64 S, .int .i64 c, .int .i64 D] 2)
  have K5 := Kn.below N5
  have H5 := H4.below N5
  have B5 := below_step B4 N5 B4.size
  clear A0 A1 x0 x1 y0 y1 y2
  clear H4 B4 Kn N5 Nn
  rw [← hw] at *
  clear hw
  generalize w3.alloc (.cells #[.int .i64 W, .int .i64 S, .int .i64 c, .int .i64 D] 2) = w4 at *
  obtain ⟨A0, A1⟩ := id H5
  have x0 := A0.cell (i := 0) rfl
  have x1 := A0.cell (i := 1) rfl
  have y0 := A1.cell (i := 0) rfl
  have y1 := A1.cell (i := 1) rfl
  have y2 := A1.cell (i := 2) rfl
  have k0 := K5.cell (i := 0) rfl
  have k1 := K5.cell (i := 1) rfl
  go_wp2_with (fail)
  with_reducible refine (lq _ _ rfl).mono ?_
  rintro e w5 ⟨rfl, hw⟩
  have hb : Below w4.heap.size w4 w5 := by rw [← hw]; exact below_new _ _
  clear hw
  clear A0 A1 x0 x1 y0 y1 y2
  clear k0 k1
  have H6 := H5.below hb
  have K6 := K5.below hb
  have B6 := below_step B5 hb B5.size
  clear hb H5 K5 B5
  obtain ⟨A0, A1⟩ := id H6
  have x0 := A0.cell (i := 0) rfl
  have x1 := A0.cell (i := 1) rfl
  have y0 := A1.cell (i := 0) rfl
  have y1 := A1.cell (i := 1) rfl
  have y2 := A1.cell (i := 2) rfl
  have k0 := K6.cell (i := 0) rfl
  have k1 := K6.cell (i := 1) rfl
  go_wp2
  go_ret
  exact ⟨rfl, B6⟩

set_option maxHeartbeats 2000000 in
theorem hs_n_c (r W S c D lim : Int) (w : World) (r0 : 0 ≤ r) (r1 : r ≤ 10000) (hW : -100000000000 ≤ W ∧ W ≤ 100000000000) (hc : -100000000000 ≤ c ∧ c ≤ 100000000000) (hD : -100000000000 ≤ D ∧ D ≤ 100000000000)
    (hlw : wrap64 ((wrap64 (max 0 c * r)).tdiv 10000) = lim) (hl0 : 0 ≤ lim) (hl1 : lim ≤ 100000000000) (q1 : D - W ≤ lim) (q2 : D - W < 0)
    (st : ∀ w, Calls Try.prog 9 #[.agg #[.slice none 0 0, .slice none 0 0, .slice none 0 0, .int .i64 r, .int .i64 0], .agg #[.int .i64 W, .int .i64 S], .int .i64 c, .int .i64 D, .bool true] w fun e w' => e = .returned (.tuple #[.int .i64 0, .agg #[.int .i64 W, .int .i64 S], .int .i64 10]) ∧ Below w.heap.size w w')
    (lr : ∀ (w : World) (n : Nat), w.heap.size = n → Calls Try.prog 10 #[.slice (some ⟨n, 0, none⟩) 4 4] (w.alloc (.cells #[.int .i64 W, .int .i64 S, .int .i64 c, .int .i64 D] 2)) fun e w' => e = .returned (.bool true) ∧ w.alloc (.cells #[.int .i64 W, .int .i64 S, .int .i64 c, .int .i64 D] 2) = w')
    (lq : ∀ (w : World) (n : Nat), w.heap.size = n → Calls Try.prog 10 #[.slice (some ⟨n, 0, none⟩) 3 3] (w.alloc (.cells #[.int .i64 (D - W), .int .i64 (W + (D - W)), .int .i64 0] 2)) fun e w' => e = .returned (.bool false) ∧ w.alloc (.cells #[.int .i64 (D - W), .int .i64 (W + (D - W)), .int .i64 0] 2) = w')
     :
    Calls Try.prog 3 #[.int .i64 r, .agg #[.int .i64 W, .int .i64 S], .agg #[.int .i64 c, .int .i64 D, .bool true]] w fun e w' => e = .returned (.bool true) ∧ Below w.heap.size w w' := by
  have t0 : ¬ r < 0 := by omega
  have t1 : ¬ 10000 < r := by omega
  have ho := holds_any
  have H0 := ab_new w W S ⟨c, D, true⟩
  have B0 : Below w.heap.size w ((w.alloc (.cells #[.int .i64 W, .int .i64 S] 23)).alloc (.cells #[.int .i64 c, .int .i64 D, .bool true] 25)) := (below_new _ _).alloc (by simp) _
  dsimp only at *
  go_enter Try.func3, Try.ntmps3
  go_wp2_with (fail)
  with_reducible refine (ho _).mono ?_
  rintro e w1 ⟨rfl, hb⟩
  have H1 := H0.below hb
  have B1 := below_step B0 hb B0.size
  clear H0 B0 hb
  have Nt := below_new w1 (.cells #[.slice none 0 0, .slice none 0 0, .slice none 0 0, .int .i64 r, .int .i64 0] 31)
  have Kt := bx_new w1 [.slice none 0 0, .slice none 0 0, .slice none 0 0, .int .i64 r, .int .i64 0] 31
  have H2 := H1.below Nt
  have B2 := below_step B1 Nt B1.size
  have t0 := Kt.cell (i := 0) rfl
  have t1 := Kt.cell (i := 1) rfl
  have t2 := Kt.cell (i := 2) rfl
  have t3 := Kt.cell (i := 3) rfl
  have t4 := Kt.cell (i := 4) rfl
  obtain ⟨A0, A1⟩ := id H2
  have x0 := A0.cell (i := 0) rfl
  have x1 := A0.cell (i := 1) rfl
  have y0 := A1.cell (i := 0) rfl
  have y1 := A1.cell (i := 1) rfl
  have y2 := A1.cell (i := 2) rfl
  clear H1 B1
  go_wp2_with (fail)
  generalize w1.alloc (.cells #[.slice none 0 0, .slice none 0 0, .slice none 0 0, .int .i64 r, .int .i64 0] 31) = wt at *
  with_reducible refine (st _).mono ?_
  rintro e w2 ⟨rfl, hb⟩
  have H3 := H2.below hb
  have B3 := below_step B2 hb B2.size
  clear A0 A1 x0 x1 y0 y1 y2
  clear H2 B2 hb t0 t1 t2 t3 t4 Nt Kt
  have Nn := below_new w2 (.cells #[.int .i64 W, .int .i64 S] 23)
  have Kn := bx_new w2 [.int .i64 W, .int .i64 S] 23
  have H4 := H3.below Nn
  have B4 := below_step B3 Nn B3.size
  have lr' := lr (w2.alloc (.cells #[.int .i64 W, .int .i64 S] 23)) (w2.heap.size + 1) (by simp)
  obtain ⟨A0, A1⟩ := id H4
  have x0 := A0.cell (i := 0) rfl
  have x1 := A0.cell (i := 1) rfl
  have y0 := A1.cell (i := 0) rfl
  have y1 := A1.cell (i := 1) rfl
  have y2 := A1.cell (i := 2) rfl
  clear H3 B3
  go_wp2_with (fail)
  with_reducible refine lr'.mono ?_
  rintro e w' ⟨rfl, hw⟩
  clear lr'
  generalize w2.alloc (.cells #[.int .i64 W, .int .i64 S] 23) = w3 at *
  have N5 := below_new w3 (.cells #[.int .i64 W, .int .i64 S, .int .i64 c, .int .i64 D] 2)
  have K5 := Kn.below N5
  have H5 := H4.below N5
  have B5 := below_step B4 N5 B4.size
  clear A0 A1 x0 x1 y0 y1 y2
  clear H4 B4 Kn N5 Nn
  rw [← hw] at *
  clear hw
  generalize w3.alloc (.cells #[.int .i64 W, .int .i64 S, .int .i64 c, .int .i64 D] 2) = w4 at *
  obtain ⟨A0, A1⟩ := id H5
  have x0 := A0.cell (i := 0) rfl
  have x1 := A0.cell (i := 1) rfl
  have y0 := A1.cell (i := 0) rfl
  have y1 := A1.cell (i := 1) rfl
  have y2 := A1.cell (i := 2) rfl
  have k0 := K5.cell (i := 0) rfl
  have k1 := K5.cell (i := 1) rfl
  go_wp2_with (fail)
  with_reducible refine (lq _ _ rfl).mono ?_
  rintro e w5 ⟨rfl, hw⟩
  have hb : Below w4.heap.size w4 w5 := by rw [← hw]; exact below_new _ _
  clear hw
  clear A0 A1 x0 x1 y0 y1 y2
  clear k0 k1
  have H6 := H5.below hb
  have K6 := K5.below hb
  have B6 := below_step B5 hb B5.size
  clear hb H5 K5 B5
  obtain ⟨A0, A1⟩ := id H6
  have x0 := A0.cell (i := 0) rfl
  have x1 := A0.cell (i := 1) rfl
  have y0 := A1.cell (i := 0) rfl
  have y1 := A1.cell (i := 1) rfl
  have y2 := A1.cell (i := 2) rfl
  have k0 := K6.cell (i := 0) rfl
  have k1 := K6.cell (i := 1) rfl
  go_wp2
  go_ret
  exact ⟨rfl, B6⟩

set_option maxHeartbeats 2000000 in
theorem hs_n_d (r W S c D lim : Int) (w : World) (r0 : 0 ≤ r) (r1 : r ≤ 10000) (hW : -100000000000 ≤ W ∧ W ≤ 100000000000) (hc : -100000000000 ≤ c ∧ c ≤ 100000000000) (hD : -100000000000 ≤ D ∧ D ≤ 100000000000)
    (hlw : wrap64 ((wrap64 (max 0 c * r)).tdiv 10000) = lim) (hl0 : 0 ≤ lim) (hl1 : lim ≤ 100000000000) (q1 : D - W ≤ lim) (q2 : D - W < 0)
    (st : ∀ w, Calls Try.prog 9 #[.agg #[.slice none 0 0, .slice none 0 0, .slice none 0 0, .int .i64 r, .int .i64 0], .agg #[.int .i64 W, .int .i64 S], .int .i64 c, .int .i64 D, .bool false] w fun e w' => e = .returned (.tuple #[.int .i64 0, .agg #[.int .i64 W, .int .i64 S], .int .i64 10]) ∧ Below w.heap.size w w')
    (lr : ∀ (w : World) (n : Nat), w.heap.size = n → Calls Try.prog 10 #[.slice (some ⟨n, 0, none⟩) 4 4] (w.alloc (.cells #[.int .i64 W, .int .i64 S, .int .i64 c, .int .i64 D] 2)) fun e w' => e = .returned (.bool true) ∧ w.alloc (.cells #[.int .i64 W, .int .i64 S, .int .i64 c, .int .i64 D] 2) = w')
    (lq : ∀ (w : World) (n : Nat), w.heap.size = n → Calls Try.prog 10 #[.slice (some ⟨n, 0, none⟩) 3 3] (w.alloc (.cells #[.int .i64 (D - W), .int .i64 W, .int .i64 (D - W)] 2)) fun e w' => e = .returned (.bool false) ∧ w.alloc (.cells #[.int .i64 (D - W), .int .i64 W, .int .i64 (D - W)] 2) = w')
     :
    Calls Try.prog 3 #[.int .i64 r, .agg #[.int .i64 W, .int .i64 S], .agg #[.int .i64 c, .int .i64 D, .bool false]] w fun e w' => e = .returned (.bool true) ∧ Below w.heap.size w w' := by
  have t0 : ¬ r < 0 := by omega
  have t1 : ¬ 10000 < r := by omega
  have ho := holds_any
  have H0 := ab_new w W S ⟨c, D, false⟩
  have B0 : Below w.heap.size w ((w.alloc (.cells #[.int .i64 W, .int .i64 S] 23)).alloc (.cells #[.int .i64 c, .int .i64 D, .bool false] 25)) := (below_new _ _).alloc (by simp) _
  dsimp only at *
  go_enter Try.func3, Try.ntmps3
  go_wp2_with (fail)
  with_reducible refine (ho _).mono ?_
  rintro e w1 ⟨rfl, hb⟩
  have H1 := H0.below hb
  have B1 := below_step B0 hb B0.size
  clear H0 B0 hb
  have Nt := below_new w1 (.cells #[.slice none 0 0, .slice none 0 0, .slice none 0 0, .int .i64 r, .int .i64 0] 31)
  have Kt := bx_new w1 [.slice none 0 0, .slice none 0 0, .slice none 0 0, .int .i64 r, .int .i64 0] 31
  have H2 := H1.below Nt
  have B2 := below_step B1 Nt B1.size
  have t0 := Kt.cell (i := 0) rfl
  have t1 := Kt.cell (i := 1) rfl
  have t2 := Kt.cell (i := 2) rfl
  have t3 := Kt.cell (i := 3) rfl
  have t4 := Kt.cell (i := 4) rfl
  obtain ⟨A0, A1⟩ := id H2
  have x0 := A0.cell (i := 0) rfl
  have x1 := A0.cell (i := 1) rfl
  have y0 := A1.cell (i := 0) rfl
  have y1 := A1.cell (i := 1) rfl
  have y2 := A1.cell (i := 2) rfl
  clear H1 B1
  go_wp2_with (fail)
  generalize w1.alloc (.cells #[.slice none 0 0, .slice none 0 0, .slice none 0 0, .int .i64 r, .int .i64 0] 31) = wt at *
  with_reducible refine (st _).mono ?_
  rintro e w2 ⟨rfl, hb⟩
  have H3 := H2.below hb
  have B3 := below_step B2 hb B2.size
  clear A0 A1 x0 x1 y0 y1 y2
  clear H2 B2 hb t0 t1 t2 t3 t4 Nt Kt
  have Nn := below_new w2 (.cells #[.int .i64 W, .int .i64 S] 23)
  have Kn := bx_new w2 [.int .i64 W, .int .i64 S] 23
  have H4 := H3.below Nn
  have B4 := below_step B3 Nn B3.size
  have lr' := lr (w2.alloc (.cells #[.int .i64 W, .int .i64 S] 23)) (w2.heap.size + 1) (by simp)
  obtain ⟨A0, A1⟩ := id H4
  have x0 := A0.cell (i := 0) rfl
  have x1 := A0.cell (i := 1) rfl
  have y0 := A1.cell (i := 0) rfl
  have y1 := A1.cell (i := 1) rfl
  have y2 := A1.cell (i := 2) rfl
  clear H3 B3
  go_wp2_with (fail)
  with_reducible refine lr'.mono ?_
  rintro e w' ⟨rfl, hw⟩
  clear lr'
  generalize w2.alloc (.cells #[.int .i64 W, .int .i64 S] 23) = w3 at *
  have N5 := below_new w3 (.cells #[.int .i64 W, .int .i64 S, .int .i64 c, .int .i64 D] 2)
  have K5 := Kn.below N5
  have H5 := H4.below N5
  have B5 := below_step B4 N5 B4.size
  clear A0 A1 x0 x1 y0 y1 y2
  clear H4 B4 Kn N5 Nn
  rw [← hw] at *
  clear hw
  generalize w3.alloc (.cells #[.int .i64 W, .int .i64 S, .int .i64 c, .int .i64 D] 2) = w4 at *
  obtain ⟨A0, A1⟩ := id H5
  have x0 := A0.cell (i := 0) rfl
  have x1 := A0.cell (i := 1) rfl
  have y0 := A1.cell (i := 0) rfl
  have y1 := A1.cell (i := 1) rfl
  have y2 := A1.cell (i := 2) rfl
  have k0 := K5.cell (i := 0) rfl
  have k1 := K5.cell (i := 1) rfl
  go_wp2_with (fail)
  with_reducible refine (lq _ _ rfl).mono ?_
  rintro e w5 ⟨rfl, hw⟩
  have hb : Below w4.heap.size w4 w5 := by rw [← hw]; exact below_new _ _
  clear hw
  clear A0 A1 x0 x1 y0 y1 y2
  clear k0 k1
  have H6 := H5.below hb
  have K6 := K5.below hb
  have B6 := below_step B5 hb B5.size
  clear hb H5 K5 B5
  obtain ⟨A0, A1⟩ := id H6
  have x0 := A0.cell (i := 0) rfl
  have x1 := A0.cell (i := 1) rfl
  have y0 := A1.cell (i := 0) rfl
  have y1 := A1.cell (i := 1) rfl
  have y2 := A1.cell (i := 2) rfl
  have k0 := K6.cell (i := 0) rfl
  have k1 := K6.cell (i := 1) rfl
  go_wp2
  go_ret
  exact ⟨rfl, B6⟩
end Go.Proofs.Ytgekojbmlppmdaa
