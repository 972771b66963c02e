/- The walk of the law HoldSteps. -/
import Derived.Test.YtgekojbmlppmdaaHldD
namespace Go.Proofs.Ytgekojbmlppmdaa
open Go.RowKit Go.Sort
set_option linter.unusedVariables false
set_option linter.unusedSimpArgs false
def fitsI (x : Int) : Prop := -9223372036854775808 ≤ x ∧ x ≤ 9223372036854775807
/-- the two boxes of the law's arguments -/
def Ab (X : World) (n : Nat) (W S : Int) (f : Py) : Prop := Bx X n 23 [.int .i64 W, .int .i64 S] ∧ Bx X (n + 1) 25 [.int .i64 f.c, .int .i64 f.D, .bool f.b]
theorem Ab.below {X Y : World} {n : Nat} {W S : Int} {f : Py} (h : Ab X n W S f) (hb : Below X.heap.size X Y) : Ab Y n W S f := ⟨h.1.below hb, h.2.below hb⟩
theorem ab_new (w : World) (W S : Int) (f : Py) : Ab ((w.alloc (.cells #[.int .i64 W, .int .i64 S] 23)).alloc (.cells #[.int .i64 f.c, .int .i64 f.D, .bool f.b] 25)) w.heap.size W S f :=
  ⟨(bx_new w [.int .i64 W, .int .i64 S] 23).alloc _, bx_at _ [.int .i64 f.c, .int .i64 f.D, .bool f.b] 25 (by simp)⟩

set_option maxHeartbeats 1000000 in
theorem hs_10 (r W S : Int) (f : Py) (w : World) (hr : fitsI r) (hW : fitsI W) (hS : fitsI S) (hc : fitsI f.c) (hD : fitsI f.D) (h : (amtB W && amtB S && amtB f.c && amtB f.D) = false) :
    Calls Try.prog 3 #[.int .i64 r, .agg #[.int .i64 W, .int .i64 S], .agg #[.int .i64 f.c, .int .i64 f.D, .bool f.b]] w fun e w' => e = .returned (.bool true) ∧ Below w.heap.size w w' := by

  have st := fun w => step_10 none none none 0 0 0 0 0 0 r 0 W S f.c f.D f.b w h
  have lr := fun w n hn => lright4 W S f.c f.D w 2 false h n hn
  clear h
  have ho := holds_any
  have H0 := ab_new w W S f
  have B0 : Below w.heap.size w ((w.alloc (.cells #[.int .i64 W, .int .i64 S] 23)).alloc (.cells #[.int .i64 f.c, .int .i64 f.D, .bool f.b] 25)) := (below_new _ _).alloc (by simp) _
  obtain ⟨c, D, b⟩ := f
  dsimp only at *
  go_enter Try.func3, Try.ntmps3
  go_wp2_with (fail)
  with_reducible refine (ho _).mono ?_
  rintro e w1 ⟨rfl, hb⟩
  have H1 := H0.below hb
  have B1 := below_step B0 hb B0.size
  clear H0 B0 hb
  have Nt := below_new w1 (.cells #[.slice none 0 0, .slice none 0 0, .slice none 0 0, .int .i64 r, .int .i64 0] 31)
  have Kt := bx_new w1 [.slice none 0 0, .slice none 0 0, .slice none 0 0, .int .i64 r, .int .i64 0] 31
  have H2 := H1.below Nt
  have B2 := below_step B1 Nt B1.size
  have t0 := Kt.cell (i := 0) rfl
  have t1 := Kt.cell (i := 1) rfl
  have t2 := Kt.cell (i := 2) rfl
  have t3 := Kt.cell (i := 3) rfl
  have t4 := Kt.cell (i := 4) rfl
  obtain ⟨A0, A1⟩ := id H2
  have x0 := A0.cell (i := 0) rfl
  have x1 := A0.cell (i := 1) rfl
  have y0 := A1.cell (i := 0) rfl
  have y1 := A1.cell (i := 1) rfl
  have y2 := A1.cell (i := 2) rfl
  clear H1 B1
  go_wp2_with (fail)
  generalize w1.alloc (.cells #[.slice none 0 0, .slice none 0 0, .slice none 0 0, .int .i64 r, .int .i64 0] 31) = wt at *
  with_reducible refine (st _).mono ?_
  rintro e w2 ⟨rfl, hb⟩
  have H3 := H2.below hb
  have B3 := below_step B2 hb B2.size
  clear A0 A1 x0 x1 y0 y1 y2
  clear H2 B2 hb t0 t1 t2 t3 t4 Nt Kt
  have Nn := below_new w2 (.cells #[.int .i64 W, .int .i64 S] 23)
  have Kn := bx_new w2 [.int .i64 W, .int .i64 S] 23
  have H4 := H3.below Nn
  have B4 := below_step B3 Nn B3.size
  have lr' := lr (w2.alloc (.cells #[.int .i64 W, .int .i64 S] 23)) (w2.heap.size + 1) (by simp)
  obtain ⟨A0, A1⟩ := id H4
  have x0 := A0.cell (i := 0) rfl
  have x1 := A0.cell (i := 1) rfl
  have y0 := A1.cell (i := 0) rfl
  have y1 := A1.cell (i := 1) rfl
  have y2 := A1.cell (i := 2) rfl
  clear H3 B3
  go_wp2_with (fail)
  with_reducible refine lr'.mono ?_
  rintro e w' ⟨rfl, hw⟩
  clear lr'
  generalize w2.alloc (.cells #[.int .i64 W, .int .i64 S] 23) = w3 at *
  have N5 := below_new w3 (.cells #[.int .i64 W, .int .i64 S, .int .i64 c, .int .i64 D] 2)
  have K5 := Kn.below N5
  have H5 := H4.below N5
  have B5 := below_step B4 N5 B4.size
  clear A0 A1 x0 x1 y0 y1 y2
  clear H4 B4 Kn N5 Nn
  rw [← hw] at *
  clear hw
  generalize w3.alloc (.cells #[.int .i64 W, .int .i64 S, .int .i64 c, .int .i64 D] 2) = w4 at *
  obtain ⟨A0, A1⟩ := id H5
  have x0 := A0.cell (i := 0) rfl
  have x1 := A0.cell (i := 1) rfl
  have y0 := A1.cell (i := 0) rfl
  have y1 := A1.cell (i := 1) rfl
  have y2 := A1.cell (i := 2) rfl
  have k0 := K5.cell (i := 0) rfl
  have k1 := K5.cell (i := 1) rfl
  go_wp2
  go_ret
  exact ⟨rfl, B5⟩

set_option maxHeartbeats 1000000 in
theorem hs_50a (r W S : Int) (f : Py) (w : World) (hr : fitsI r) (hW : fitsI W) (hS : fitsI S) (hc : fitsI f.c) (hD : fitsI f.D) (h : (amtB W && amtB S && amtB f.c && amtB f.D) = true) (h2 : r < 0) :
    Calls Try.prog 3 #[.int .i64 r, .agg #[.int .i64 W, .int .i64 S], .agg #[.int .i64 f.c, .int .i64 f.D, .bool f.b]] w fun e w' => e = .returned (.bool true) ∧ Below w.heap.size w w' := by

  have hR : rateB r = false := by simp only [rateB, decide_eq_false_iff_not]; omega
  have st := fun w => step_50 none none none 0 0 0 0 0 0 r 0 W S f.c f.D f.b w h hR
  have lr := fun w n hn => lright4 W S f.c f.D w 2 true h n hn
  clear h hR
  have ho := holds_any
  have H0 := ab_new w W S f
  have B0 : Below w.heap.size w ((w.alloc (.cells #[.int .i64 W, .int .i64 S] 23)).alloc (.cells #[.int .i64 f.c, .int .i64 f.D, .bool f.b] 25)) := (below_new _ _).alloc (by simp) _
  obtain ⟨c, D, b⟩ := f
  dsimp only at *
  go_enter Try.func3, Try.ntmps3
  go_wp2_with (fail)
  with_reducible refine (ho _).mono ?_
  rintro e w1 ⟨rfl, hb⟩
  have H1 := H0.below hb
  have B1 := below_step B0 hb B0.size
  clear H0 B0 hb
  have Nt := below_new w1 (.cells #[.slice none 0 0, .slice none 0 0, .slice none 0 0, .int .i64 r, .int .i64 0] 31)
  have Kt := bx_new w1 [.slice none 0 0, .slice none 0 0, .slice none 0 0, .int .i64 r, .int .i64 0] 31
  have H2 := H1.below Nt
  have B2 := below_step B1 Nt B1.size
  have t0 := Kt.cell (i := 0) rfl
  have t1 := Kt.cell (i := 1) rfl
  have t2 := Kt.cell (i := 2) rfl
  have t3 := Kt.cell (i := 3) rfl
  have t4 := Kt.cell (i := 4) rfl
  obtain ⟨A0, A1⟩ := id H2
  have x0 := A0.cell (i := 0) rfl
  have x1 := A0.cell (i := 1) rfl
  have y0 := A1.cell (i := 0) rfl
  have y1 := A1.cell (i := 1) rfl
  have y2 := A1.cell (i := 2) rfl
  clear H1 B1
  go_wp2_with (fail)
  generalize w1.alloc (.cells #[.slice none 0 0, .slice none 0 0, .slice none 0 0, .int .i64 r, .int .i64 0] 31) = wt at *
  with_reducible refine (st _).mono ?_
  rintro e w2 ⟨rfl, hb⟩
  have H3 := H2.below hb
  have B3 := below_step B2 hb B2.size
  clear A0 A1 x0 x1 y0 y1 y2
  clear H2 B2 hb t0 t1 t2 t3 t4 Nt Kt
  have Nn := below_new w2 (.cells #[.int .i64 W, .int .i64 S] 23)
  have Kn := bx_new w2 [.int .i64 W, .int .i64 S] 23
  have H4 := H3.below Nn
  have B4 := below_step B3 Nn B3.size
  have lr' := lr (w2.alloc (.cells #[.int .i64 W, .int .i64 S] 23)) (w2.heap.size + 1) (by simp)
  obtain ⟨A0, A1⟩ := id H4
  have x0 := A0.cell (i := 0) rfl
  have x1 := A0.cell (i := 1) rfl
  have y0 := A1.cell (i := 0) rfl
  have y1 := A1.cell (i := 1) rfl
  have y2 := A1.cell (i := 2) rfl
  clear H3 B3
  go_wp2_with (fail)
  with_reducible refine lr'.mono ?_
  rintro e w' ⟨rfl, hw⟩
  clear lr'
  generalize w2.alloc (.cells #[.int .i64 W, .int .i64 S] 23) = w3 at *
  have N5 := below_new w3 (.cells #[.int .i64 W, .int .i64 S, .int .i64 c, .int .i64 D] 2)
  have K5 := Kn.below N5
  have H5 := H4.below N5
  have B5 := below_step B4 N5 B4.size
  clear A0 A1 x0 x1 y0 y1 y2
  clear H4 B4 Kn N5 Nn
  rw [← hw] at *
  clear hw
  generalize w3.alloc (.cells #[.int .i64 W, .int .i64 S, .int .i64 c, .int .i64 D] 2) = w4 at *
  obtain ⟨A0, A1⟩ := id H5
  have x0 := A0.cell (i := 0) rfl
  have x1 := A0.cell (i := 1) rfl
  have y0 := A1.cell (i := 0) rfl
  have y1 := A1.cell (i := 1) rfl
  have y2 := A1.cell (i := 2) rfl
  have k0 := K5.cell (i := 0) rfl
  have k1 := K5.cell (i := 1) rfl
  go_wp2
  go_ret
  exact ⟨rfl, B5⟩

set_option maxHeartbeats 1000000 in
theorem hs_50b (r W S : Int) (f : Py) (w : World) (hr : fitsI r) (hW : fitsI W) (hS : fitsI S) (hc : fitsI f.c) (hD : fitsI f.D) (h : (amtB W && amtB S && amtB f.c && amtB f.D) = true) (h2 : 10000 < r) :
    Calls Try.prog 3 #[.int .i64 r, .agg #[.int .i64 W, .int .i64 S], .agg #[.int .i64 f.c, .int .i64 f.D, .bool f.b]] w fun e w' => e = .returned (.bool true) ∧ Below w.heap.size w w' := by

  have hR : rateB r = false := by simp only [rateB, decide_eq_false_iff_not]; omega
  have st := fun w => step_50 none none none 0 0 0 0 0 0 r 0 W S f.c f.D f.b w h hR
  have lr := fun w n hn => lright4 W S f.c f.D w 2 true h n hn
  have h3 : ¬ r < 0 := by omega
  clear h hR
  have ho := holds_any
  have H0 := ab_new w W S f
  have B0 : Below w.heap.size w ((w.alloc (.cells #[.int .i64 W, .int .i64 S] 23)).alloc (.cells #[.int .i64 f.c, .int .i64 f.D, .bool f.b] 25)) := (below_new _ _).alloc (by simp) _
  obtain ⟨c, D, b⟩ := f
  dsimp only at *
  go_enter Try.func3, Try.ntmps3
  go_wp2_with (fail)
  with_reducible refine (ho _).mono ?_
  rintro e w1 ⟨rfl, hb⟩
  have H1 := H0.below hb
  have B1 := below_step B0 hb B0.size
  clear H0 B0 hb
  have Nt := below_new w1 (.cells #[.slice none 0 0, .slice none 0 0, .slice none 0 0, .int .i64 r, .int .i64 0] 31)
  have Kt := bx_new w1 [.slice none 0 0, .slice none 0 0, .slice none 0 0, .int .i64 r, .int .i64 0] 31
  have H2 := H1.below Nt
  have B2 := below_step B1 Nt B1.size
  have t0 := Kt.cell (i := 0) rfl
  have t1 := Kt.cell (i := 1) rfl
  have t2 := Kt.cell (i := 2) rfl
  have t3 := Kt.cell (i := 3) rfl
  have t4 := Kt.cell (i := 4) rfl
  obtain ⟨A0, A1⟩ := id H2
  have x0 := A0.cell (i := 0) rfl
  have x1 := A0.cell (i := 1) rfl
  have y0 := A1.cell (i := 0) rfl
  have y1 := A1.cell (i := 1) rfl
  have y2 := A1.cell (i := 2) rfl
  clear H1 B1
  go_wp2_with (fail)
  generalize w1.alloc (.cells #[.slice none 0 0, .slice none 0 0, .slice none 0 0, .int .i64 r, .int .i64 0] 31) = wt at *
  with_reducible refine (st _).mono ?_
  rintro e w2 ⟨rfl, hb⟩
  have H3 := H2.below hb
  have B3 := below_step B2 hb B2.size
  clear A0 A1 x0 x1 y0 y1 y2
  clear H2 B2 hb t0 t1 t2 t3 t4 Nt Kt
  have Nn := below_new w2 (.cells #[.int .i64 W, .int .i64 S] 23)
  have Kn := bx_new w2 [.int .i64 W, .int .i64 S] 23
  have H4 := H3.below Nn
  have B4 := below_step B3 Nn B3.size
  have lr' := lr (w2.alloc (.cells #[.int .i64 W, .int .i64 S] 23)) (w2.heap.size + 1) (by simp)
  obtain ⟨A0, A1⟩ := id H4
  have x0 := A0.cell (i := 0) rfl
  have x1 := A0.cell (i := 1) rfl
  have y0 := A1.cell (i := 0) rfl
  have y1 := A1.cell (i := 1) rfl
  have y2 := A1.cell (i := 2) rfl
  clear H3 B3
  go_wp2_with (fail)
  with_reducible refine lr'.mono ?_
  rintro e w' ⟨rfl, hw⟩
  clear lr'
  generalize w2.alloc (.cells #[.int .i64 W, .int .i64 S] 23) = w3 at *
  have N5 := below_new w3 (.cells #[.int .i64 W, .int .i64 S, .int .i64 c, .int .i64 D] 2)
  have K5 := Kn.below N5
  have H5 := H4.below N5
  have B5 := below_step B4 N5 B4.size
  clear A0 A1 x0 x1 y0 y1 y2
  clear H4 B4 Kn N5 Nn
  rw [← hw] at *
  clear hw
  generalize w3.alloc (.cells #[.int .i64 W, .int .i64 S, .int .i64 c, .int .i64 D] 2) = w4 at *
  obtain ⟨A0, A1⟩ := id H5
  have x0 := A0.cell (i := 0) rfl
  have x1 := A0.cell (i := 1) rfl
  have y0 := A1.cell (i := 0) rfl
  have y1 := A1.cell (i := 1) rfl
  have y2 := A1.cell (i := 2) rfl
  have k0 := K5.cell (i := 0) rfl
  have k1 := K5.cell (i := 1) rfl
  go_wp2
  go_ret
  exact ⟨rfl, B5⟩
end Go.Proofs.Ytgekojbmlppmdaa
