/- What a step of hold answers. -/
import Derived.Test.YtffihnbpjcgicaaDoorHldA
import Derived.Test.YtffihnbpjcgicaaDoorBox
import Derived.Deep.RegionWith
namespace Go.Proofs.YtffihnbpjcgicaaDoor.Hd
open Go.RowKit
set_option linter.unusedVariables false
set_option linter.unusedSimpArgs false

section
variable (a1 a2 a3 : Option Addr) (n1 n2 n3 c1 c2 c3 : Nat)
/-- the three boxes of a step: its table, its state, and its result's place -/
def Hb (X : World) (n : Nat) (L R W S p q : Int) : Prop :=
  Bx X n 71 [.slice a1 n1 c1, .slice a2 n2 c2, .slice a3 n3 c3, .int .i64 L, .int .i64 R] ∧ Bx X (n + 1) 93 [.int .i64 W, .int .i64 S] ∧ Bx X (n + 1 + 1) 93 [.int .i64 p, .int .i64 q]
theorem Hb.below {X Y : World} {n : Nat} {L R W S p q : Int} (h : Hb a1 a2 a3 n1 n2 n3 c1 c2 c3 X n L R W S p q) (hb : Below X.heap.size X Y) : Hb a1 a2 a3 n1 n2 n3 c1 c2 c3 Y n L R W S p q :=
  ⟨h.1.below hb, h.2.1.below hb, h.2.2.below hb⟩
theorem hb_new (w : World) (L R W S : Int) :
    Hb a1 a2 a3 n1 n2 n3 c1 c2 c3 (((w.alloc (.cells #[.slice a1 n1 c1, .slice a2 n2 c2, .slice a3 n3 c3, .int .i64 L, .int .i64 R] 71)).alloc (.cells #[.int .i64 W, .int .i64 S] 93)).alloc (.cells #[.int .i64 0, .int .i64 0] 93)) w.heap.size L R W S 0 0 := by
  refine ⟨((bx_new w [.slice a1 n1 c1, .slice a2 n2 c2, .slice a3 n3 c3, .int .i64 L, .int .i64 R] 71).alloc _).alloc _, Bx.alloc (bx_at _ [.int .i64 W, .int .i64 S] 93 (by simp)) _, bx_at _ [.int .i64 0, .int .i64 0] 93 (by simp)⟩
theorem step_10 (L R W S c D : Int) (b : Bool) (w : World) (h : (amtB W && amtB S && amtB c && amtB D) = false) :
    Calls Tryd.prog 77 #[.agg #[.slice a1 n1 c1, .slice a2 n2 c2, .slice a3 n3 c3, .int .i64 L, .int .i64 R], .agg #[.int .i64 W, .int .i64 S], .int .i64 c, .int .i64 D, .bool b] w fun e w' =>
      e = .returned (.tuple #[.int .i64 0, .agg #[.int .i64 W, .int .i64 S], .int .i64 10]) ∧ Below w.heap.size w w' := by
  have H0 := hb_new a1 a2 a3 n1 n2 n3 c1 c2 c3 w L R W S
  have B0 : Below w.heap.size w (((w.alloc (.cells #[.slice a1 n1 c1, .slice a2 n2 c2, .slice a3 n3 c3, .int .i64 L, .int .i64 R] 71)).alloc (.cells #[.int .i64 W, .int .i64 S] 93)).alloc (.cells #[.int .i64 0, .int .i64 0] 93)) := ((below_new _ _).alloc (by simp) _).alloc (by simp; omega) _
  have hc := right4 W S c D (((w.alloc (.cells #[.slice a1 n1 c1, .slice a2 n2 c2, .slice a3 n3 c3, .int .i64 L, .int .i64 R] 71)).alloc (.cells #[.int .i64 W, .int .i64 S] 93)).alloc (.cells #[.int .i64 0, .int .i64 0] 93)) 2 false h (w.heap.size + 1 + 1 + 1) (by simp)
  have H1 := H0.below _ _ _ _ _ _ _ _ _ (below_new _ (.cells #[.int .i64 W, .int .i64 S, .int .i64 c, .int .i64 D] 2))
  have B1 := below_step B0 (below_new _ (.cells #[.int .i64 W, .int .i64 S, .int .i64 c, .int .i64 D] 2)) B0.size
  clear h H0
  go_enter Tryd.func77, Tryd.ntmps77
  go_wp2_with (fail)
  with_reducible refine hc.mono ?_
  rintro e w' ⟨rfl, hw⟩
  rw [← hw] at *
  clear hw
  generalize (((w.alloc (.cells #[.slice a1 n1 c1, .slice a2 n2 c2, .slice a3 n3 c3, .int .i64 L, .int .i64 R] 71)).alloc (.cells #[.int .i64 W, .int .i64 S] 93)).alloc (.cells #[.int .i64 0, .int .i64 0] 93)).alloc (.cells #[.int .i64 W, .int .i64 S, .int .i64 c, .int .i64 D] 2) = w1 at *
  clear B0 hc
  obtain ⟨K0, K1, K2⟩ := id H1
  have x0 := K0.cell (i := 0) rfl
  have x1 := K0.cell (i := 1) rfl
  have x2 := K0.cell (i := 2) rfl
  have x3 := K0.cell (i := 3) rfl
  have x4 := K0.cell (i := 4) rfl
  have s0 := K1.cell (i := 0) rfl
  have s1 := K1.cell (i := 1) rfl
  have r0 := K2.cell (i := 0) rfl
  have r1 := K2.cell (i := 1) rfl
  have f0 := K2.fr 0
  have f1 := K2.fr 1
  go_wp2
  go_region
  go_wp2
  have Z := (K2.set 0 (.int .i64 W)).set 1 (.int .i64 S)
  have z0 := Z.cell (i := 0) rfl
  have z1 := Z.cell (i := 1) rfl
  exact bodyPost_ret (v := .tuple #[.int .i64 0, .agg #[.int .i64 W, .int .i64 S], .int .i64 10]) (by simp [results, Tryd.results77, go_sem, z0, z1]) rfl ⟨rfl, ((B1.setCell (by show w.heap.size ≤ w.heap.size + 1 + 1; omega) _).setCell (by show w.heap.size ≤ w.heap.size + 1 + 1; omega) _).drew⟩
theorem step_50 (L R W S c D : Int) (b : Bool) (w : World) (h : (amtB W && amtB S && amtB c && amtB D) = true) (hr : rateB L = false) :
    Calls Tryd.prog 77 #[.agg #[.slice a1 n1 c1, .slice a2 n2 c2, .slice a3 n3 c3, .int .i64 L, .int .i64 R], .agg #[.int .i64 W, .int .i64 S], .int .i64 c, .int .i64 D, .bool b] w fun e w' =>
      e = .returned (.tuple #[.int .i64 0, .agg #[.int .i64 W, .int .i64 S], .int .i64 50]) ∧ Below w.heap.size w w' := by
  have H0 := hb_new a1 a2 a3 n1 n2 n3 c1 c2 c3 w L R W S
  have B0 : Below w.heap.size w (((w.alloc (.cells #[.slice a1 n1 c1, .slice a2 n2 c2, .slice a3 n3 c3, .int .i64 L, .int .i64 R] 71)).alloc (.cells #[.int .i64 W, .int .i64 S] 93)).alloc (.cells #[.int .i64 0, .int .i64 0] 93)) := ((below_new _ _).alloc (by simp) _).alloc (by simp; omega) _
  have hc := right4 W S c D (((w.alloc (.cells #[.slice a1 n1 c1, .slice a2 n2 c2, .slice a3 n3 c3, .int .i64 L, .int .i64 R] 71)).alloc (.cells #[.int .i64 W, .int .i64 S] 93)).alloc (.cells #[.int .i64 0, .int .i64 0] 93)) 2 true h (w.heap.size + 1 + 1 + 1) (by simp)
  obtain ⟨⟨⟨hW, hS⟩, hcc⟩, hD⟩ : ((amtB W = true ∧ amtB S = true) ∧ amtB c = true) ∧ amtB D = true := by simpa only [Bool.and_eq_true] using h
  have hcb := amtB_yes hcc
  have hl := fun w => limit_rate a1 a2 a3 n1 n2 n3 c1 c2 c3 L R c w hcb.2 hr
  clear hW hS hcc hD hcb hr
  have H1 := H0.below _ _ _ _ _ _ _ _ _ (below_new _ (.cells #[.int .i64 W, .int .i64 S, .int .i64 c, .int .i64 D] 2))
  have B1 := below_step B0 (below_new _ (.cells #[.int .i64 W, .int .i64 S, .int .i64 c, .int .i64 D] 2)) B0.size
  clear h H0
  go_enter Tryd.func77, Tryd.ntmps77
  go_wp2_with (fail)
  with_reducible refine hc.mono ?_
  rintro e w' ⟨rfl, hw⟩
  rw [← hw] at *
  clear hw
  generalize (((w.alloc (.cells #[.slice a1 n1 c1, .slice a2 n2 c2, .slice a3 n3 c3, .int .i64 L, .int .i64 R] 71)).alloc (.cells #[.int .i64 W, .int .i64 S] 93)).alloc (.cells #[.int .i64 0, .int .i64 0] 93)).alloc (.cells #[.int .i64 W, .int .i64 S, .int .i64 c, .int .i64 D] 2) = w1 at *
  clear B0 hc
  obtain ⟨K0, K1, K2⟩ := id H1
  have x0 := K0.cell (i := 0) rfl
  have x1 := K0.cell (i := 1) rfl
  have x2 := K0.cell (i := 2) rfl
  have x3 := K0.cell (i := 3) rfl
  have x4 := K0.cell (i := 4) rfl
  have s0 := K1.cell (i := 0) rfl
  have s1 := K1.cell (i := 1) rfl
  have r0 := K2.cell (i := 0) rfl
  have r1 := K2.cell (i := 1) rfl
  have f0 := K2.fr 0
  have f1 := K2.fr 1
  go_wp2_with (fail)
  with_reducible refine (hl _).mono ?_
  rintro e w2 ⟨rfl, hb⟩
  have H2 := H1.below _ _ _ _ _ _ _ _ _ hb
  have B2 := below_step B1 hb B1.size
  clear hb K0 K1 K2 x0 x1 x2 x3 x4 s0 s1 r0 r1 f0 f1 H1 B1 hl
  obtain ⟨K0, K1, K2⟩ := id H2
  have x0 := K0.cell (i := 0) rfl
  have x1 := K0.cell (i := 1) rfl
  have x2 := K0.cell (i := 2) rfl
  have x3 := K0.cell (i := 3) rfl
  have x4 := K0.cell (i := 4) rfl
  have s0 := K1.cell (i := 0) rfl
  have s1 := K1.cell (i := 1) rfl
  have r0 := K2.cell (i := 0) rfl
  have r1 := K2.cell (i := 1) rfl
  have f0 := K2.fr 0
  have f1 := K2.fr 1
  go_wp2
  go_region
  go_wp2
  have Z := (K2.set 0 (.int .i64 W)).set 1 (.int .i64 S)
  have z0 := Z.cell (i := 0) rfl
  have z1 := Z.cell (i := 1) rfl
  exact bodyPost_ret (v := .tuple #[.int .i64 0, .agg #[.int .i64 W, .int .i64 S], .int .i64 50]) (by simp [results, Tryd.results77, go_sem, z0, z1]) rfl ⟨rfl, ((B2.setCell (by show w.heap.size ≤ w.heap.size + 1 + 1; omega) _).setCell (by show w.heap.size ≤ w.heap.size + 1 + 1; omega) _).drew⟩
theorem step_n (L R W S c D : Int) (b : Bool) (w : World) (h : (amtB W && amtB S && amtB c && amtB D) = true) (hr : rateB L = true) (hn : amtB (D - W) = false) :
    Calls Tryd.prog 77 #[.agg #[.slice a1 n1 c1, .slice a2 n2 c2, .slice a3 n3 c3, .int .i64 L, .int .i64 R], .agg #[.int .i64 W, .int .i64 S], .int .i64 c, .int .i64 D, .bool b] w fun e w' =>
      e = .returned (.tuple #[.int .i64 0, .agg #[.int .i64 W, .int .i64 S], .int .i64 10]) ∧ Below w.heap.size w w' := by
  have H0 := hb_new a1 a2 a3 n1 n2 n3 c1 c2 c3 w L R W S
  have B0 : Below w.heap.size w (((w.alloc (.cells #[.slice a1 n1 c1, .slice a2 n2 c2, .slice a3 n3 c3, .int .i64 L, .int .i64 R] 71)).alloc (.cells #[.int .i64 W, .int .i64 S] 93)).alloc (.cells #[.int .i64 0, .int .i64 0] 93)) := ((below_new _ _).alloc (by simp) _).alloc (by simp; omega) _
  have hc := right4 W S c D (((w.alloc (.cells #[.slice a1 n1 c1, .slice a2 n2 c2, .slice a3 n3 c3, .int .i64 L, .int .i64 R] 71)).alloc (.cells #[.int .i64 W, .int .i64 S] 93)).alloc (.cells #[.int .i64 0, .int .i64 0] 93)) 2 true h (w.heap.size + 1 + 1 + 1) (by simp)
  obtain ⟨⟨⟨hW, hS⟩, hcc⟩, hD⟩ : ((amtB W = true ∧ amtB S = true) ∧ amtB c = true) ∧ amtB D = true := by simpa only [Bool.and_eq_true] using h
  have hcb := amtB_yes hcc
  have hl := fun w => limit_ok a1 a2 a3 n1 n2 n3 c1 c2 c3 L R c w hcb.2 hr
  have hs := fun w => sub_less D W w (by rw [hD, hW]; rfl) hn
  clear hW hS hcc hD hcb hr hn
  have H1 := H0.below _ _ _ _ _ _ _ _ _ (below_new _ (.cells #[.int .i64 W, .int .i64 S, .int .i64 c, .int .i64 D] 2))
  have B1 := below_step B0 (below_new _ (.cells #[.int .i64 W, .int .i64 S, .int .i64 c, .int .i64 D] 2)) B0.size
  clear h H0
  go_enter Tryd.func77, Tryd.ntmps77
  go_wp2_with (fail)
  with_reducible refine hc.mono ?_
  rintro e w' ⟨rfl, hw⟩
  rw [← hw] at *
  clear hw
  generalize (((w.alloc (.cells #[.slice a1 n1 c1, .slice a2 n2 c2, .slice a3 n3 c3, .int .i64 L, .int .i64 R] 71)).alloc (.cells #[.int .i64 W, .int .i64 S] 93)).alloc (.cells #[.int .i64 0, .int .i64 0] 93)).alloc (.cells #[.int .i64 W, .int .i64 S, .int .i64 c, .int .i64 D] 2) = w1 at *
  clear B0 hc
  obtain ⟨K0, K1, K2⟩ := id H1
  have x0 := K0.cell (i := 0) rfl
  have x1 := K0.cell (i := 1) rfl
  have x2 := K0.cell (i := 2) rfl
  have x3 := K0.cell (i := 3) rfl
  have x4 := K0.cell (i := 4) rfl
  have s0 := K1.cell (i := 0) rfl
  have s1 := K1.cell (i := 1) rfl
  have r0 := K2.cell (i := 0) rfl
  have r1 := K2.cell (i := 1) rfl
  have f0 := K2.fr 0
  have f1 := K2.fr 1
  go_wp2_with (fail)
  with_reducible refine (hl _).mono ?_
  rintro e w2 ⟨rfl, hb⟩
  have H2 := H1.below _ _ _ _ _ _ _ _ _ hb
  have B2 := below_step B1 hb B1.size
  clear hb K0 K1 K2 x0 x1 x2 x3 x4 s0 s1 r0 r1 f0 f1 H1 B1 hl
  obtain ⟨K0, K1, K2⟩ := id H2
  have x0 := K0.cell (i := 0) rfl
  have x1 := K0.cell (i := 1) rfl
  have x2 := K0.cell (i := 2) rfl
  have x3 := K0.cell (i := 3) rfl
  have x4 := K0.cell (i := 4) rfl
  have s0 := K1.cell (i := 0) rfl
  have s1 := K1.cell (i := 1) rfl
  have r0 := K2.cell (i := 0) rfl
  have r1 := K2.cell (i := 1) rfl
  have f0 := K2.fr 0
  have f1 := K2.fr 1
  go_wp2_with (fail)
  with_reducible refine (hs _).mono ?_
  rintro e w3 ⟨rfl, hb⟩
  have H3 := H2.below _ _ _ _ _ _ _ _ _ hb
  have B3 := below_step B2 hb B2.size
  clear hb K0 K1 K2 x0 x1 x2 x3 x4 s0 s1 r0 r1 f0 f1 H2 B2 hs
  obtain ⟨K0, K1, K2⟩ := id H3
  have x0 := K0.cell (i := 0) rfl
  have x1 := K0.cell (i := 1) rfl
  have x2 := K0.cell (i := 2) rfl
  have x3 := K0.cell (i := 3) rfl
  have x4 := K0.cell (i := 4) rfl
  have s0 := K1.cell (i := 0) rfl
  have s1 := K1.cell (i := 1) rfl
  have r0 := K2.cell (i := 0) rfl
  have r1 := K2.cell (i := 1) rfl
  have f0 := K2.fr 0
  have f1 := K2.fr 1
  go_wp2
  go_region
  go_wp2
  have Z := (K2.set 0 (.int .i64 W)).set 1 (.int .i64 S)
  have z0 := Z.cell (i := 0) rfl
  have z1 := Z.cell (i := 1) rfl
  exact bodyPost_ret (v := .tuple #[.int .i64 0, .agg #[.int .i64 W, .int .i64 S], .int .i64 10]) (by simp [results, Tryd.results77, go_sem, z0, z1]) rfl ⟨rfl, ((B3.setCell (by show w.heap.size ≤ w.heap.size + 1 + 1; omega) _).setCell (by show w.heap.size ≤ w.heap.size + 1 + 1; omega) _).drew⟩
set_option maxHeartbeats 1000000 in
theorem step_ok (L R W S c D : Int) (b : Bool) (w : World) (h : (amtB W && amtB S && amtB c && amtB D) = true) (hr : rateB L = true) (hn : amtB (D - W) = true) :
    Calls Tryd.prog 77 #[.agg #[.slice a1 n1 c1, .slice a2 n2 c2, .slice a3 n3 c3, .int .i64 L, .int .i64 R], .agg #[.int .i64 W, .int .i64 S], .int .i64 c, .int .i64 D, .bool b] w fun e w' =>
      e = .returned (.tuple #[.int .i64 (stepH L W c D b), .agg #[.int .i64 (W + stepH L W c D b), .int .i64 (D - W - stepH L W c D b)], .int .i64 0]) ∧ Below w.heap.size w w' := by
  have H0 := hb_new a1 a2 a3 n1 n2 n3 c1 c2 c3 w L R W S
  have B0 : Below w.heap.size w (((w.alloc (.cells #[.slice a1 n1 c1, .slice a2 n2 c2, .slice a3 n3 c3, .int .i64 L, .int .i64 R] 71)).alloc (.cells #[.int .i64 W, .int .i64 S] 93)).alloc (.cells #[.int .i64 0, .int .i64 0] 93)) := ((below_new _ _).alloc (by simp) _).alloc (by simp; omega) _
  have hc := right4 W S c D (((w.alloc (.cells #[.slice a1 n1 c1, .slice a2 n2 c2, .slice a3 n3 c3, .int .i64 L, .int .i64 R] 71)).alloc (.cells #[.int .i64 W, .int .i64 S] 93)).alloc (.cells #[.int .i64 0, .int .i64 0] 93)) 2 true h (w.heap.size + 1 + 1 + 1) (by simp)
  obtain ⟨⟨⟨hW, hS⟩, hcc⟩, hD⟩ : ((amtB W = true ∧ amtB S = true) ∧ amtB c = true) ∧ amtB D = true := by simpa only [Bool.and_eq_true] using h
  have hcb := amtB_yes hcc
  have hl := fun w => limit_ok a1 a2 a3 n1 n2 n3 c1 c2 c3 L R c w hcb.2 hr
  have hs := fun w => sub_ok D W w (by rw [hD, hW]; rfl) hn
  have hp := part_hold (D - W) (limV L c) b
  have hbd := step_bd (back := b) (stepE_mk h hr hn)
  have hnb := amtB_yes hn
  have hWb := amtB_yes hW
  unfold stepH at hbd ⊢
  generalize partV (D - W) (limV L c) b = x at *
  generalize limV L c = lim at *
  have e1 : IntKind.i64.wrap (W + x) = W + x := IntWalk.i64_in _ (by omega)
  clear hW hS hcc hD hcb hr hn
  have H1 := H0.below _ _ _ _ _ _ _ _ _ (below_new _ (.cells #[.int .i64 W, .int .i64 S, .int .i64 c, .int .i64 D] 2))
  have B1 := below_step B0 (below_new _ (.cells #[.int .i64 W, .int .i64 S, .int .i64 c, .int .i64 D] 2)) B0.size
  clear h H0
  go_enter Tryd.func77, Tryd.ntmps77
  go_wp2_with (fail)
  with_reducible refine hc.mono ?_
  rintro e w' ⟨rfl, hw⟩
  rw [← hw] at *
  clear hw
  generalize (((w.alloc (.cells #[.slice a1 n1 c1, .slice a2 n2 c2, .slice a3 n3 c3, .int .i64 L, .int .i64 R] 71)).alloc (.cells #[.int .i64 W, .int .i64 S] 93)).alloc (.cells #[.int .i64 0, .int .i64 0] 93)).alloc (.cells #[.int .i64 W, .int .i64 S, .int .i64 c, .int .i64 D] 2) = w1 at *
  clear B0 hc
  obtain ⟨K0, K1, K2⟩ := id H1
  have x0 := K0.cell (i := 0) rfl
  have x1 := K0.cell (i := 1) rfl
  have x2 := K0.cell (i := 2) rfl
  have x3 := K0.cell (i := 3) rfl
  have x4 := K0.cell (i := 4) rfl
  have s0 := K1.cell (i := 0) rfl
  have s1 := K1.cell (i := 1) rfl
  have r0 := K2.cell (i := 0) rfl
  have r1 := K2.cell (i := 1) rfl
  have f0 := K2.fr 0
  have f1 := K2.fr 1
  go_wp2_with (fail)
  with_reducible refine (hl _).mono ?_
  rintro e w2 ⟨rfl, hb⟩
  have H2 := H1.below _ _ _ _ _ _ _ _ _ hb
  have B2 := below_step B1 hb B1.size
  clear hb K0 K1 K2 x0 x1 x2 x3 x4 s0 s1 r0 r1 f0 f1 H1 B1 hl
  obtain ⟨K0, K1, K2⟩ := id H2
  have x0 := K0.cell (i := 0) rfl
  have x1 := K0.cell (i := 1) rfl
  have x2 := K0.cell (i := 2) rfl
  have x3 := K0.cell (i := 3) rfl
  have x4 := K0.cell (i := 4) rfl
  have s0 := K1.cell (i := 0) rfl
  have s1 := K1.cell (i := 1) rfl
  have r0 := K2.cell (i := 0) rfl
  have r1 := K2.cell (i := 1) rfl
  have f0 := K2.fr 0
  have f1 := K2.fr 1
  go_wp2_with (fail)
  with_reducible refine (hs _).mono ?_
  rintro e w3 ⟨rfl, hb⟩
  have H3 := H2.below _ _ _ _ _ _ _ _ _ hb
  have B3 := below_step B2 hb B2.size
  clear hb K0 K1 K2 x0 x1 x2 x3 x4 s0 s1 r0 r1 f0 f1 H2 B2 hs
  obtain ⟨K0, K1, K2⟩ := id H3
  have x0 := K0.cell (i := 0) rfl
  have x1 := K0.cell (i := 1) rfl
  have x2 := K0.cell (i := 2) rfl
  have x3 := K0.cell (i := 3) rfl
  have x4 := K0.cell (i := 4) rfl
  have s0 := K1.cell (i := 0) rfl
  have s1 := K1.cell (i := 1) rfl
  have r0 := K2.cell (i := 0) rfl
  have r1 := K2.cell (i := 1) rfl
  have f0 := K2.fr 0
  have f1 := K2.fr 1
  go_wp2_with (fail)
  with_reducible refine (hp _).mono ?_
  rintro e w' ⟨rfl, rfl⟩
  go_wp2
  go_region
  go_wp2
  have Z := (K2.set 0 (.int .i64 (W + x))).set 1 (.int .i64 (D - W - x))
  have z0 := Z.cell (i := 0) rfl
  have z1 := Z.cell (i := 1) rfl
  exact bodyPost_ret (v := .tuple #[.int .i64 x, .agg #[.int .i64 (W + x), .int .i64 (D - W - x)], .int .i64 0]) (by simp [results, Tryd.results77, go_sem, z0, z1]) rfl ⟨rfl, ((B3.setCell (by show w.heap.size ≤ w.heap.size + 1 + 1; omega) _).setCell (by show w.heap.size ≤ w.heap.size + 1 + 1; omega) _).drew⟩
theorem step_err (L R W S c D : Int) (b : Bool) (w : World) (h : stepE L W S c D ≠ 0) :
    Calls Tryd.prog 77 #[.agg #[.slice a1 n1 c1, .slice a2 n2 c2, .slice a3 n3 c3, .int .i64 L, .int .i64 R], .agg #[.int .i64 W, .int .i64 S], .int .i64 c, .int .i64 D, .bool b] w fun e w' =>
      e = .returned (.tuple #[.int .i64 0, .agg #[.int .i64 W, .int .i64 S], .int .i64 (stepE L W S c D)]) ∧ Below w.heap.size w w' := by
  cases h1 : amtB W && amtB S && amtB c && amtB D
  · rw [stepE_10 h1]
    exact step_10 a1 a2 a3 n1 n2 n3 c1 c2 c3 L R W S c D b w h1
  · cases h2 : rateB L
    · rw [stepE_50 h1 h2]
      exact step_50 a1 a2 a3 n1 n2 n3 c1 c2 c3 L R W S c D b w h1 h2
    · cases h3 : amtB (D - W)
      · rw [stepE_n h1 h2 h3]
        exact step_n a1 a2 a3 n1 n2 n3 c1 c2 c3 L R W S c D b w h1 h2 h3
      · exact absurd (stepE_mk h1 h2 h3) h
theorem step_yes (L R W S c D : Int) (b : Bool) (w : World) (h : stepE L W S c D = 0) :
    Calls Tryd.prog 77 #[.agg #[.slice a1 n1 c1, .slice a2 n2 c2, .slice a3 n3 c3, .int .i64 L, .int .i64 R], .agg #[.int .i64 W, .int .i64 S], .int .i64 c, .int .i64 D, .bool b] w fun e w' =>
      e = .returned (.tuple #[.int .i64 (stepH L W c D b), .agg #[.int .i64 (W + stepH L W c D b), .int .i64 (D - W - stepH L W c D b)], .int .i64 0]) ∧ Below w.heap.size w w' := by
  obtain ⟨hW, hS, hc, hD, hr, hn⟩ := stepE_ok h
  exact step_ok a1 a2 a3 n1 n2 n3 c1 c2 c3 L R W S c D b w (by rw [hW, hS, hc, hD]; rfl) hr hn
end
end Go.Proofs.YtffihnbpjcgicaaDoor.Hd
