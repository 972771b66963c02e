/- The walk of the law TaxDue. -/
import Derived.Test.YtgekojbmlppmdaaDoorTaxD
import Derived.Test.YtgekojbmlppmdaaDoorTaxG
import Derived.Test.YtgekojbmlppmdaaDoorTaxH
import Derived.Test.YtgekojbmlppmdaaDoorOpenX
namespace Go.Proofs.YtgekojbmlppmdaaDoor
open Go.RowKit Go.Sort
set_option linter.unusedVariables false
set_option linter.unusedSimpArgs false

theorem lfit_yes {T : TB} {s k a f n d : Int} (h : lfitB T s k a f n d = true) : TG T ∧ Fit3 T s k a f ∧ fitsV T s k a f = 0 ∧ 0 ≤ n ∧ 1 ≤ d ∧ n ≤ d ∧ d ≤ 1048576 := by
  unfold lfitB at h
  simp only [Bool.and_eq_true, beq_iff_eq, decide_eq_true_eq] at h
  obtain ⟨⟨⟨⟨⟨⟨⟨⟨_, _⟩, _⟩, h4⟩, h5⟩, h6⟩, h7⟩, h8⟩, h9⟩ := h
  exact ⟨tg_of h4, fitsV_zero h5, h5, h6, h7, h8, h9⟩
set_option maxRecDepth 100000 in
set_option maxHeartbeats 1000000 in
theorem td_no (T : TB) (s k a f : Int) (x : Bool) (y n d : Int) (w : World) (h : Tm w T) (hF : TFits T) (hK : Kinds w) (ha : -9223372036854775808 ≤ a) (ha2 : a ≤ 9223372036854775807) (g : lfitB T s k a f n d = false) :
    Calls Tryd.prog 3 #[.agg #[.slice T.AS T.nS T.cS, .slice T.AC T.nC T.cC, .slice T.AK T.nK T.cK, .int .i64 T.L, .int .i64 T.W], .agg #[.int .i64 s, .int .i64 k, .int .i64 a, .int .i64 f, .bool x], .agg #[.int .i64 y, .int .i64 n, .int .i64 d]] w fun e w' => e = .returned (.bool true) ∧ Below w.heap.size w w' := by
  have lf := fun w h => lfit_any T s k a f x n d w h hF ha ha2
  rw [g] at lf
  clear hF g
  have K0 : Bx (((w.alloc (.cells #[.slice T.AS T.nS T.cS, .slice T.AC T.nC T.cC, .slice T.AK T.nK T.cK, .int .i64 T.L, .int .i64 T.W] 26)).alloc (.cells #[.int .i64 s, .int .i64 k, .int .i64 a, .int .i64 f, .bool x] 28)).alloc (.cells #[.int .i64 y, .int .i64 n, .int .i64 d] 30)) (w.heap.size) 26 [.slice T.AS T.nS T.cS, .slice T.AC T.nC T.cC, .slice T.AK T.nK T.cK, .int .i64 T.L, .int .i64 T.W] := ((bx_new w [.slice T.AS T.nS T.cS, .slice T.AC T.nC T.cC, .slice T.AK T.nK T.cK, .int .i64 T.L, .int .i64 T.W] 26).alloc _).alloc _
  have K1 : Bx (((w.alloc (.cells #[.slice T.AS T.nS T.cS, .slice T.AC T.nC T.cC, .slice T.AK T.nK T.cK, .int .i64 T.L, .int .i64 T.W] 26)).alloc (.cells #[.int .i64 s, .int .i64 k, .int .i64 a, .int .i64 f, .bool x] 28)).alloc (.cells #[.int .i64 y, .int .i64 n, .int .i64 d] 30)) (w.heap.size + 1) 28 [.int .i64 s, .int .i64 k, .int .i64 a, .int .i64 f, .bool x] := (bx_at _ [.int .i64 s, .int .i64 k, .int .i64 a, .int .i64 f, .bool x] 28 (by simp)).alloc _
  have K2 : Bx (((w.alloc (.cells #[.slice T.AS T.nS T.cS, .slice T.AC T.nC T.cC, .slice T.AK T.nK T.cK, .int .i64 T.L, .int .i64 T.W] 26)).alloc (.cells #[.int .i64 s, .int .i64 k, .int .i64 a, .int .i64 f, .bool x] 28)).alloc (.cells #[.int .i64 y, .int .i64 n, .int .i64 d] 30)) (w.heap.size + 1 + 1) 30 [.int .i64 y, .int .i64 n, .int .i64 d] := bx_at _ [.int .i64 y, .int .i64 n, .int .i64 d] 30 (by simp)
  have B : Below w.heap.size w (((w.alloc (.cells #[.slice T.AS T.nS T.cS, .slice T.AC T.nC T.cC, .slice T.AK T.nK T.cK, .int .i64 T.L, .int .i64 T.W] 26)).alloc (.cells #[.int .i64 s, .int .i64 k, .int .i64 a, .int .i64 f, .bool x] 28)).alloc (.cells #[.int .i64 y, .int .i64 n, .int .i64 d] 30)) := ((((Below.refl _ _).alloc (Nat.le_refl _) _).alloc (by simp) _).alloc (by simp; omega) _)
  have h := h.below (show Below w.heap.size w (((w.alloc (.cells #[.slice T.AS T.nS T.cS, .slice T.AC T.nC T.cC, .slice T.AK T.nK T.cK, .int .i64 T.L, .int .i64 T.W] 26)).alloc (.cells #[.int .i64 s, .int .i64 k, .int .i64 a, .int .i64 f, .bool x] 28)).alloc (.cells #[.int .i64 y, .int .i64 n, .int .i64 d] 30)) from B)
  have k0_0 := K0.cell (i := 0) rfl
  have k0_1 := K0.cell (i := 1) rfl
  have k0_2 := K0.cell (i := 2) rfl
  have k0_3 := K0.cell (i := 3) rfl
  have k0_4 := K0.cell (i := 4) rfl
  have k1_0 := K1.cell (i := 0) rfl
  have k1_1 := K1.cell (i := 1) rfl
  have k1_2 := K1.cell (i := 2) rfl
  have k1_3 := K1.cell (i := 3) rfl
  have k1_4 := K1.cell (i := 4) rfl
  have k2_0 := K2.cell (i := 0) rfl
  have k2_1 := K2.cell (i := 1) rfl
  have k2_2 := K2.cell (i := 2) rfl
  have du := dues_any (((w.alloc (.cells #[.slice T.AS T.nS T.cS, .slice T.AC T.nC T.cC, .slice T.AK T.nK T.cK, .int .i64 T.L, .int .i64 T.W] 26)).alloc (.cells #[.int .i64 s, .int .i64 k, .int .i64 a, .int .i64 f, .bool x] 28)).alloc (.cells #[.int .i64 y, .int .i64 n, .int .i64 d] 30)) (hK.below B)
  clear hK
  go_enter Tryd.func3, Tryd.ntmps3
  go_wp2_with (fail)
  with_reducible refine (du).mono ?_
  rintro e w1 ⟨rfl, hb⟩
  clear k0_0 k0_1 k0_2 k0_3 k0_4 k1_0 k1_1 k1_2 k1_3 k1_4 k2_0 k2_1 k2_2
  have K0 := K0.below hb
  have K1 := K1.below hb
  have K2 := K2.below hb
  have h := h.below hb
  have B := below_step B hb B.size
  clear hb
  have k0_0 := K0.cell (i := 0) rfl
  have k0_1 := K0.cell (i := 1) rfl
  have k0_2 := K0.cell (i := 2) rfl
  have k0_3 := K0.cell (i := 3) rfl
  have k0_4 := K0.cell (i := 4) rfl
  have k1_0 := K1.cell (i := 0) rfl
  have k1_1 := K1.cell (i := 1) rfl
  have k1_2 := K1.cell (i := 2) rfl
  have k1_3 := K1.cell (i := 3) rfl
  have k1_4 := K1.cell (i := 4) rfl
  have k2_0 := K2.cell (i := 0) rfl
  have k2_1 := K2.cell (i := 1) rfl
  have k2_2 := K2.cell (i := 2) rfl
  go_wp2_with (fail)
  with_reducible refine (lf _ h).mono ?_
  rintro e w2 ⟨rfl, hb⟩
  clear k0_0 k0_1 k0_2 k0_3 k0_4 k1_0 k1_1 k1_2 k1_3 k1_4 k2_0 k2_1 k2_2
  have K0 := K0.below hb
  have K1 := K1.below hb
  have K2 := K2.below hb
  have h := h.below hb
  have B := below_step B hb B.size
  clear hb
  have k0_0 := K0.cell (i := 0) rfl
  have k0_1 := K0.cell (i := 1) rfl
  have k0_2 := K0.cell (i := 2) rfl
  have k0_3 := K0.cell (i := 3) rfl
  have k0_4 := K0.cell (i := 4) rfl
  have k1_0 := K1.cell (i := 0) rfl
  have k1_1 := K1.cell (i := 1) rfl
  have k1_2 := K1.cell (i := 2) rfl
  have k1_3 := K1.cell (i := 3) rfl
  have k1_4 := K1.cell (i := 4) rfl
  have k2_0 := K2.cell (i := 0) rfl
  have k2_1 := K2.cell (i := 1) rfl
  have k2_2 := K2.cell (i := 2) rfl
  go_wp2
  go_ret
  exact ⟨rfl, B⟩
set_option maxRecDepth 100000 in
set_option maxHeartbeats 1000000 in
theorem td_err (T : TB) (s k a f : Int) (x : Bool) (y n d : Int) (w : World) (h : Tm w T) (hF : TFits T) (hK : Kinds w) (ha : -9223372036854775808 ≤ a) (ha2 : a ≤ 9223372036854775807) (g : lfitB T s k a f n d = true) (g2 : ((chargeV s k a f y n d).2 != 0) = true) :
    Calls Tryd.prog 3 #[.agg #[.slice T.AS T.nS T.cS, .slice T.AC T.nC T.cC, .slice T.AK T.nK T.cK, .int .i64 T.L, .int .i64 T.W], .agg #[.int .i64 s, .int .i64 k, .int .i64 a, .int .i64 f, .bool x], .agg #[.int .i64 y, .int .i64 n, .int .i64 d]] w fun e w' => e = .returned (.bool true) ∧ Below w.heap.size w w' := by
  have lf := fun w h => lfit_any T s k a f x n d w h hF ha ha2
  rw [g] at lf
  obtain ⟨tg, f3, fz, r0, r1, r2, r3⟩ := lfit_yes g
  have ex := fun w h => exact_tab T s k a f x y n d w h tg.z tg.ok ha ha2
  have du2 := fun w h => due_tab T s k a f x y n d w h tg ha ha2
  have cg := fun w => charge_any s k a f y n d x w ha ha2
  have e1 : exactT T s k a f y n d = (0, (chargeV s k a f y n d).2) := by unfold exactT; rw [if_neg (by simpa using fz), if_pos (by simpa using g2)]
  have e2 : dueT T s k a f y n d = (0, (chargeV s k a f y n d).2) := by unfold dueT; rw [e1, if_pos (by simpa using g2)]
  rw [e1] at ex
  rw [e2] at du2
  clear e1 e2 tg f3 fz r0 r1 r2 r3 g hF
  generalize (chargeV s k a f y n d).1 = V at *
  generalize (chargeV s k a f y n d).2 = E at *
  have gE : (E == E) = true := by simp
  have K0 : Bx (((w.alloc (.cells #[.slice T.AS T.nS T.cS, .slice T.AC T.nC T.cC, .slice T.AK T.nK T.cK, .int .i64 T.L, .int .i64 T.W] 26)).alloc (.cells #[.int .i64 s, .int .i64 k, .int .i64 a, .int .i64 f, .bool x] 28)).alloc (.cells #[.int .i64 y, .int .i64 n, .int .i64 d] 30)) (w.heap.size) 26 [.slice T.AS T.nS T.cS, .slice T.AC T.nC T.cC, .slice T.AK T.nK T.cK, .int .i64 T.L, .int .i64 T.W] := ((bx_new w [.slice T.AS T.nS T.cS, .slice T.AC T.nC T.cC, .slice T.AK T.nK T.cK, .int .i64 T.L, .int .i64 T.W] 26).alloc _).alloc _
  have K1 : Bx (((w.alloc (.cells #[.slice T.AS T.nS T.cS, .slice T.AC T.nC T.cC, .slice T.AK T.nK T.cK, .int .i64 T.L, .int .i64 T.W] 26)).alloc (.cells #[.int .i64 s, .int .i64 k, .int .i64 a, .int .i64 f, .bool x] 28)).alloc (.cells #[.int .i64 y, .int .i64 n, .int .i64 d] 30)) (w.heap.size + 1) 28 [.int .i64 s, .int .i64 k, .int .i64 a, .int .i64 f, .bool x] := (bx_at _ [.int .i64 s, .int .i64 k, .int .i64 a, .int .i64 f, .bool x] 28 (by simp)).alloc _
  have K2 : Bx (((w.alloc (.cells #[.slice T.AS T.nS T.cS, .slice T.AC T.nC T.cC, .slice T.AK T.nK T.cK, .int .i64 T.L, .int .i64 T.W] 26)).alloc (.cells #[.int .i64 s, .int .i64 k, .int .i64 a, .int .i64 f, .bool x] 28)).alloc (.cells #[.int .i64 y, .int .i64 n, .int .i64 d] 30)) (w.heap.size + 1 + 1) 30 [.int .i64 y, .int .i64 n, .int .i64 d] := bx_at _ [.int .i64 y, .int .i64 n, .int .i64 d] 30 (by simp)
  have B : Below w.heap.size w (((w.alloc (.cells #[.slice T.AS T.nS T.cS, .slice T.AC T.nC T.cC, .slice T.AK T.nK T.cK, .int .i64 T.L, .int .i64 T.W] 26)).alloc (.cells #[.int .i64 s, .int .i64 k, .int .i64 a, .int .i64 f, .bool x] 28)).alloc (.cells #[.int .i64 y, .int .i64 n, .int .i64 d] 30)) := ((((Below.refl _ _).alloc (Nat.le_refl _) _).alloc (by simp) _).alloc (by simp; omega) _)
  have h := h.below (show Below w.heap.size w (((w.alloc (.cells #[.slice T.AS T.nS T.cS, .slice T.AC T.nC T.cC, .slice T.AK T.nK T.cK, .int .i64 T.L, .int .i64 T.W] 26)).alloc (.cells #[.int .i64 s, .int .i64 k, .int .i64 a, .int .i64 f, .bool x] 28)).alloc (.cells #[.int .i64 y, .int .i64 n, .int .i64 d] 30)) from B)
  have k0_0 := K0.cell (i := 0) rfl
  have k0_1 := K0.cell (i := 1) rfl
  have k0_2 := K0.cell (i := 2) rfl
  have k0_3 := K0.cell (i := 3) rfl
  have k0_4 := K0.cell (i := 4) rfl
  have k1_0 := K1.cell (i := 0) rfl
  have k1_1 := K1.cell (i := 1) rfl
  have k1_2 := K1.cell (i := 2) rfl
  have k1_3 := K1.cell (i := 3) rfl
  have k1_4 := K1.cell (i := 4) rfl
  have k2_0 := K2.cell (i := 0) rfl
  have k2_1 := K2.cell (i := 1) rfl
  have k2_2 := K2.cell (i := 2) rfl
  have du := dues_any (((w.alloc (.cells #[.slice T.AS T.nS T.cS, .slice T.AC T.nC T.cC, .slice T.AK T.nK T.cK, .int .i64 T.L, .int .i64 T.W] 26)).alloc (.cells #[.int .i64 s, .int .i64 k, .int .i64 a, .int .i64 f, .bool x] 28)).alloc (.cells #[.int .i64 y, .int .i64 n, .int .i64 d] 30)) (hK.below B)
  clear hK
  go_enter Tryd.func3, Tryd.ntmps3
  go_wp2_with (fail)
  with_reducible refine (du).mono ?_
  rintro e w1 ⟨rfl, hb⟩
  clear k0_0 k0_1 k0_2 k0_3 k0_4 k1_0 k1_1 k1_2 k1_3 k1_4 k2_0 k2_1 k2_2
  have K0 := K0.below hb
  have K1 := K1.below hb
  have K2 := K2.below hb
  have h := h.below hb
  have B := below_step B hb B.size
  clear hb
  have k0_0 := K0.cell (i := 0) rfl
  have k0_1 := K0.cell (i := 1) rfl
  have k0_2 := K0.cell (i := 2) rfl
  have k0_3 := K0.cell (i := 3) rfl
  have k0_4 := K0.cell (i := 4) rfl
  have k1_0 := K1.cell (i := 0) rfl
  have k1_1 := K1.cell (i := 1) rfl
  have k1_2 := K1.cell (i := 2) rfl
  have k1_3 := K1.cell (i := 3) rfl
  have k1_4 := K1.cell (i := 4) rfl
  have k2_0 := K2.cell (i := 0) rfl
  have k2_1 := K2.cell (i := 1) rfl
  have k2_2 := K2.cell (i := 2) rfl
  go_wp2_with (fail)
  with_reducible refine (lf _ h).mono ?_
  rintro e w2 ⟨rfl, hb⟩
  clear k0_0 k0_1 k0_2 k0_3 k0_4 k1_0 k1_1 k1_2 k1_3 k1_4 k2_0 k2_1 k2_2
  have K0 := K0.below hb
  have K1 := K1.below hb
  have K2 := K2.below hb
  have h := h.below hb
  have B := below_step B hb B.size
  clear hb
  have k0_0 := K0.cell (i := 0) rfl
  have k0_1 := K0.cell (i := 1) rfl
  have k0_2 := K0.cell (i := 2) rfl
  have k0_3 := K0.cell (i := 3) rfl
  have k0_4 := K0.cell (i := 4) rfl
  have k1_0 := K1.cell (i := 0) rfl
  have k1_1 := K1.cell (i := 1) rfl
  have k1_2 := K1.cell (i := 2) rfl
  have k1_3 := K1.cell (i := 3) rfl
  have k1_4 := K1.cell (i := 4) rfl
  have k2_0 := K2.cell (i := 0) rfl
  have k2_1 := K2.cell (i := 1) rfl
  have k2_2 := K2.cell (i := 2) rfl
  go_wp2_with (fail)
  with_reducible refine (ex _ h.s).mono ?_
  rintro e w3 ⟨rfl, hb⟩
  clear k0_0 k0_1 k0_2 k0_3 k0_4 k1_0 k1_1 k1_2 k1_3 k1_4 k2_0 k2_1 k2_2
  have K0 := K0.below hb
  have K1 := K1.below hb
  have K2 := K2.below hb
  have h := h.below hb
  have B := below_step B hb B.size
  clear hb
  have k0_0 := K0.cell (i := 0) rfl
  have k0_1 := K0.cell (i := 1) rfl
  have k0_2 := K0.cell (i := 2) rfl
  have k0_3 := K0.cell (i := 3) rfl
  have k0_4 := K0.cell (i := 4) rfl
  have k1_0 := K1.cell (i := 0) rfl
  have k1_1 := K1.cell (i := 1) rfl
  have k1_2 := K1.cell (i := 2) rfl
  have k1_3 := K1.cell (i := 3) rfl
  have k1_4 := K1.cell (i := 4) rfl
  have k2_0 := K2.cell (i := 0) rfl
  have k2_1 := K2.cell (i := 1) rfl
  have k2_2 := K2.cell (i := 2) rfl
  go_wp2_with (fail)
  with_reducible refine (du2 _ h.s).mono ?_
  rintro e w4 ⟨rfl, hb⟩
  clear k0_0 k0_1 k0_2 k0_3 k0_4 k1_0 k1_1 k1_2 k1_3 k1_4 k2_0 k2_1 k2_2
  have K0 := K0.below hb
  have K1 := K1.below hb
  have K2 := K2.below hb
  have h := h.below hb
  have B := below_step B hb B.size
  clear hb
  have k0_0 := K0.cell (i := 0) rfl
  have k0_1 := K0.cell (i := 1) rfl
  have k0_2 := K0.cell (i := 2) rfl
  have k0_3 := K0.cell (i := 3) rfl
  have k0_4 := K0.cell (i := 4) rfl
  have k1_0 := K1.cell (i := 0) rfl
  have k1_1 := K1.cell (i := 1) rfl
  have k1_2 := K1.cell (i := 2) rfl
  have k1_3 := K1.cell (i := 3) rfl
  have k1_4 := K1.cell (i := 4) rfl
  have k2_0 := K2.cell (i := 0) rfl
  have k2_1 := K2.cell (i := 1) rfl
  have k2_2 := K2.cell (i := 2) rfl
  go_wp2_with (fail)
  with_reducible refine (cg _).mono ?_
  rintro e w5 ⟨rfl, hb⟩
  clear k0_0 k0_1 k0_2 k0_3 k0_4 k1_0 k1_1 k1_2 k1_3 k1_4 k2_0 k2_1 k2_2
  have K0 := K0.below hb
  have K1 := K1.below hb
  have K2 := K2.below hb
  have h := h.below hb
  have B := below_step B hb B.size
  clear hb
  have k0_0 := K0.cell (i := 0) rfl
  have k0_1 := K0.cell (i := 1) rfl
  have k0_2 := K0.cell (i := 2) rfl
  have k0_3 := K0.cell (i := 3) rfl
  have k0_4 := K0.cell (i := 4) rfl
  have k1_0 := K1.cell (i := 0) rfl
  have k1_1 := K1.cell (i := 1) rfl
  have k1_2 := K1.cell (i := 2) rfl
  have k1_3 := K1.cell (i := 3) rfl
  have k1_4 := K1.cell (i := 4) rfl
  have k2_0 := K2.cell (i := 0) rfl
  have k2_1 := K2.cell (i := 1) rfl
  have k2_2 := K2.cell (i := 2) rfl
  go_wp2
  go_ret
  exact ⟨rfl, B⟩
set_option maxRecDepth 100000 in
set_option maxHeartbeats 1000000 in
theorem td_ok (T : TB) (s k a f : Int) (x : Bool) (y n d : Int) (w : World) (h : Tm w T) (hF : TFits T) (hK : Kinds w) (ha : -9223372036854775808 ≤ a) (ha2 : a ≤ 9223372036854775807) (g : lfitB T s k a f n d = true) (g2 : (chargeV s k a f y n d).2 = 0) :
    Calls Tryd.prog 3 #[.agg #[.slice T.AS T.nS T.cS, .slice T.AC T.nC T.cC, .slice T.AK T.nK T.cK, .int .i64 T.L, .int .i64 T.W], .agg #[.int .i64 s, .int .i64 k, .int .i64 a, .int .i64 f, .bool x], .agg #[.int .i64 y, .int .i64 n, .int .i64 d]] w fun e w' => e = .returned (.bool true) ∧ Below w.heap.size w w' := by
  have lf := fun w h => lfit_any T s k a f x n d w h hF ha ha2
  rw [g] at lf
  obtain ⟨tg, f3, fz, r0, r1, r2, r3⟩ := lfit_yes g
  have ex := fun w h => exact_tab T s k a f x y n d w h tg.z tg.ok ha ha2
  have du2 := fun w h => due_tab T s k a f x y n d w h tg ha ha2
  have cg := fun w => charge_any s k a f y n d x w ha ha2
  have e1 : exactT T s k a f y n d = (refE (T.S s.toNat) k f n d (chargeV s k a f y n d).1, 0) := by unfold exactT; rw [if_neg (by simpa using fz), if_neg (by simpa using g2)]
  have e2 : dueT T s k a f y n d = (rnd (refE (T.S s.toNat) k f n d (chargeV s k a f y n d).1) 10000 T.W, 0) := by unfold dueT; rw [e1, if_neg (by simp)]
  have re := fun w h => rexact_any T s k a f x y n d w h tg.ok f3 g2
  have bd := refE_bd tg.ok f3 r0 r1 r2 (chargeV_bd (s := s) (k := k) (a := a) (f := f) (x := y) (n := n) (d := d)).1 chargeV_bd.2
  have rr := fun w => rround_any (refE (T.S s.toNat) k f n d (chargeV s k a f y n d).1) T.W w bd.1 bd.2 tg.w
  rw [e1] at ex
  rw [e2] at du2
  rw [g2] at cg
  clear e1 e2 tg f3 fz r0 r1 r2 r3 g hF g2 bd
  generalize refE (T.S s.toNat) k f n d (chargeV s k a f y n d).1 = R at *
  generalize rnd R 10000 T.W = Q at *
  generalize (chargeV s k a f y n d).1 = V at *
  have gR : (R == R) = true := by simp
  have gQ : (Q == Q) = true := by simp
  have K0 : Bx (((w.alloc (.cells #[.slice T.AS T.nS T.cS, .slice T.AC T.nC T.cC, .slice T.AK T.nK T.cK, .int .i64 T.L, .int .i64 T.W] 26)).alloc (.cells #[.int .i64 s, .int .i64 k, .int .i64 a, .int .i64 f, .bool x] 28)).alloc (.cells #[.int .i64 y, .int .i64 n, .int .i64 d] 30)) (w.heap.size) 26 [.slice T.AS T.nS T.cS, .slice T.AC T.nC T.cC, .slice T.AK T.nK T.cK, .int .i64 T.L, .int .i64 T.W] := ((bx_new w [.slice T.AS T.nS T.cS, .slice T.AC T.nC T.cC, .slice T.AK T.nK T.cK, .int .i64 T.L, .int .i64 T.W] 26).alloc _).alloc _
  have K1 : Bx (((w.alloc (.cells #[.slice T.AS T.nS T.cS, .slice T.AC T.nC T.cC, .slice T.AK T.nK T.cK, .int .i64 T.L, .int .i64 T.W] 26)).alloc (.cells #[.int .i64 s, .int .i64 k, .int .i64 a, .int .i64 f, .bool x] 28)).alloc (.cells #[.int .i64 y, .int .i64 n, .int .i64 d] 30)) (w.heap.size + 1) 28 [.int .i64 s, .int .i64 k, .int .i64 a, .int .i64 f, .bool x] := (bx_at _ [.int .i64 s, .int .i64 k, .int .i64 a, .int .i64 f, .bool x] 28 (by simp)).alloc _
  have K2 : Bx (((w.alloc (.cells #[.slice T.AS T.nS T.cS, .slice T.AC T.nC T.cC, .slice T.AK T.nK T.cK, .int .i64 T.L, .int .i64 T.W] 26)).alloc (.cells #[.int .i64 s, .int .i64 k, .int .i64 a, .int .i64 f, .bool x] 28)).alloc (.cells #[.int .i64 y, .int .i64 n, .int .i64 d] 30)) (w.heap.size + 1 + 1) 30 [.int .i64 y, .int .i64 n, .int .i64 d] := bx_at _ [.int .i64 y, .int .i64 n, .int .i64 d] 30 (by simp)
  have B : Below w.heap.size w (((w.alloc (.cells #[.slice T.AS T.nS T.cS, .slice T.AC T.nC T.cC, .slice T.AK T.nK T.cK, .int .i64 T.L, .int .i64 T.W] 26)).alloc (.cells #[.int .i64 s, .int .i64 k, .int .i64 a, .int .i64 f, .bool x] 28)).alloc (.cells #[.int .i64 y, .int .i64 n, .int .i64 d] 30)) := ((((Below.refl _ _).alloc (Nat.le_refl _) _).alloc (by simp) _).alloc (by simp; omega) _)
  have h := h.below (show Below w.heap.size w (((w.alloc (.cells #[.slice T.AS T.nS T.cS, .slice T.AC T.nC T.cC, .slice T.AK T.nK T.cK, .int .i64 T.L, .int .i64 T.W] 26)).alloc (.cells #[.int .i64 s, .int .i64 k, .int .i64 a, .int .i64 f, .bool x] 28)).alloc (.cells #[.int .i64 y, .int .i64 n, .int .i64 d] 30)) from B)
  have k0_0 := K0.cell (i := 0) rfl
  have k0_1 := K0.cell (i := 1) rfl
  have k0_2 := K0.cell (i := 2) rfl
  have k0_3 := K0.cell (i := 3) rfl
  have k0_4 := K0.cell (i := 4) rfl
  have k1_0 := K1.cell (i := 0) rfl
  have k1_1 := K1.cell (i := 1) rfl
  have k1_2 := K1.cell (i := 2) rfl
  have k1_3 := K1.cell (i := 3) rfl
  have k1_4 := K1.cell (i := 4) rfl
  have k2_0 := K2.cell (i := 0) rfl
  have k2_1 := K2.cell (i := 1) rfl
  have k2_2 := K2.cell (i := 2) rfl
  have du := dues_any (((w.alloc (.cells #[.slice T.AS T.nS T.cS, .slice T.AC T.nC T.cC, .slice T.AK T.nK T.cK, .int .i64 T.L, .int .i64 T.W] 26)).alloc (.cells #[.int .i64 s, .int .i64 k, .int .i64 a, .int .i64 f, .bool x] 28)).alloc (.cells #[.int .i64 y, .int .i64 n, .int .i64 d] 30)) (hK.below B)
  clear hK
  go_enter Tryd.func3, Tryd.ntmps3
  go_wp2_with (fail)
  with_reducible refine (du).mono ?_
  rintro e w1 ⟨rfl, hb⟩
  clear k0_0 k0_1 k0_2 k0_3 k0_4 k1_0 k1_1 k1_2 k1_3 k1_4 k2_0 k2_1 k2_2
  have K0 := K0.below hb
  have K1 := K1.below hb
  have K2 := K2.below hb
  have h := h.below hb
  have B := below_step B hb B.size
  clear hb
  have k0_0 := K0.cell (i := 0) rfl
  have k0_1 := K0.cell (i := 1) rfl
  have k0_2 := K0.cell (i := 2) rfl
  have k0_3 := K0.cell (i := 3) rfl
  have k0_4 := K0.cell (i := 4) rfl
  have k1_0 := K1.cell (i := 0) rfl
  have k1_1 := K1.cell (i := 1) rfl
  have k1_2 := K1.cell (i := 2) rfl
  have k1_3 := K1.cell (i := 3) rfl
  have k1_4 := K1.cell (i := 4) rfl
  have k2_0 := K2.cell (i := 0) rfl
  have k2_1 := K2.cell (i := 1) rfl
  have k2_2 := K2.cell (i := 2) rfl
  go_wp2_with (fail)
  with_reducible refine (lf _ h).mono ?_
  rintro e w2 ⟨rfl, hb⟩
  clear k0_0 k0_1 k0_2 k0_3 k0_4 k1_0 k1_1 k1_2 k1_3 k1_4 k2_0 k2_1 k2_2
  have K0 := K0.below hb
  have K1 := K1.below hb
  have K2 := K2.below hb
  have h := h.below hb
  have B := below_step B hb B.size
  clear hb
  have k0_0 := K0.cell (i := 0) rfl
  have k0_1 := K0.cell (i := 1) rfl
  have k0_2 := K0.cell (i := 2) rfl
  have k0_3 := K0.cell (i := 3) rfl
  have k0_4 := K0.cell (i := 4) rfl
  have k1_0 := K1.cell (i := 0) rfl
  have k1_1 := K1.cell (i := 1) rfl
  have k1_2 := K1.cell (i := 2) rfl
  have k1_3 := K1.cell (i := 3) rfl
  have k1_4 := K1.cell (i := 4) rfl
  have k2_0 := K2.cell (i := 0) rfl
  have k2_1 := K2.cell (i := 1) rfl
  have k2_2 := K2.cell (i := 2) rfl
  go_wp2_with (fail)
  with_reducible refine (ex _ h.s).mono ?_
  rintro e w3 ⟨rfl, hb⟩
  clear k0_0 k0_1 k0_2 k0_3 k0_4 k1_0 k1_1 k1_2 k1_3 k1_4 k2_0 k2_1 k2_2
  have K0 := K0.below hb
  have K1 := K1.below hb
  have K2 := K2.below hb
  have h := h.below hb
  have B := below_step B hb B.size
  clear hb
  have k0_0 := K0.cell (i := 0) rfl
  have k0_1 := K0.cell (i := 1) rfl
  have k0_2 := K0.cell (i := 2) rfl
  have k0_3 := K0.cell (i := 3) rfl
  have k0_4 := K0.cell (i := 4) rfl
  have k1_0 := K1.cell (i := 0) rfl
  have k1_1 := K1.cell (i := 1) rfl
  have k1_2 := K1.cell (i := 2) rfl
  have k1_3 := K1.cell (i := 3) rfl
  have k1_4 := K1.cell (i := 4) rfl
  have k2_0 := K2.cell (i := 0) rfl
  have k2_1 := K2.cell (i := 1) rfl
  have k2_2 := K2.cell (i := 2) rfl
  go_wp2_with (fail)
  with_reducible refine (du2 _ h.s).mono ?_
  rintro e w4 ⟨rfl, hb⟩
  clear k0_0 k0_1 k0_2 k0_3 k0_4 k1_0 k1_1 k1_2 k1_3 k1_4 k2_0 k2_1 k2_2
  have K0 := K0.below hb
  have K1 := K1.below hb
  have K2 := K2.below hb
  have h := h.below hb
  have B := below_step B hb B.size
  clear hb
  have k0_0 := K0.cell (i := 0) rfl
  have k0_1 := K0.cell (i := 1) rfl
  have k0_2 := K0.cell (i := 2) rfl
  have k0_3 := K0.cell (i := 3) rfl
  have k0_4 := K0.cell (i := 4) rfl
  have k1_0 := K1.cell (i := 0) rfl
  have k1_1 := K1.cell (i := 1) rfl
  have k1_2 := K1.cell (i := 2) rfl
  have k1_3 := K1.cell (i := 3) rfl
  have k1_4 := K1.cell (i := 4) rfl
  have k2_0 := K2.cell (i := 0) rfl
  have k2_1 := K2.cell (i := 1) rfl
  have k2_2 := K2.cell (i := 2) rfl
  go_wp2_with (fail)
  with_reducible refine (cg _).mono ?_
  rintro e w5 ⟨rfl, hb⟩
  clear k0_0 k0_1 k0_2 k0_3 k0_4 k1_0 k1_1 k1_2 k1_3 k1_4 k2_0 k2_1 k2_2
  have K0 := K0.below hb
  have K1 := K1.below hb
  have K2 := K2.below hb
  have h := h.below hb
  have B := below_step B hb B.size
  clear hb
  have k0_0 := K0.cell (i := 0) rfl
  have k0_1 := K0.cell (i := 1) rfl
  have k0_2 := K0.cell (i := 2) rfl
  have k0_3 := K0.cell (i := 3) rfl
  have k0_4 := K0.cell (i := 4) rfl
  have k1_0 := K1.cell (i := 0) rfl
  have k1_1 := K1.cell (i := 1) rfl
  have k1_2 := K1.cell (i := 2) rfl
  have k1_3 := K1.cell (i := 3) rfl
  have k1_4 := K1.cell (i := 4) rfl
  have k2_0 := K2.cell (i := 0) rfl
  have k2_1 := K2.cell (i := 1) rfl
  have k2_2 := K2.cell (i := 2) rfl
  go_wp2_with (fail)
  with_reducible refine (re _ h.s).mono ?_
  rintro e w6 ⟨rfl, hb⟩
  clear k0_0 k0_1 k0_2 k0_3 k0_4 k1_0 k1_1 k1_2 k1_3 k1_4 k2_0 k2_1 k2_2
  have K0 := K0.below hb
  have K1 := K1.below hb
  have K2 := K2.below hb
  have h := h.below hb
  have B := below_step B hb B.size
  clear hb
  have k0_0 := K0.cell (i := 0) rfl
  have k0_1 := K0.cell (i := 1) rfl
  have k0_2 := K0.cell (i := 2) rfl
  have k0_3 := K0.cell (i := 3) rfl
  have k0_4 := K0.cell (i := 4) rfl
  have k1_0 := K1.cell (i := 0) rfl
  have k1_1 := K1.cell (i := 1) rfl
  have k1_2 := K1.cell (i := 2) rfl
  have k1_3 := K1.cell (i := 3) rfl
  have k1_4 := K1.cell (i := 4) rfl
  have k2_0 := K2.cell (i := 0) rfl
  have k2_1 := K2.cell (i := 1) rfl
  have k2_2 := K2.cell (i := 2) rfl
  go_wp2_with (fail)
  with_reducible refine (rr _).mono ?_
  rintro e w' ⟨rfl, rfl⟩
  go_wp2
  go_ret
  exact ⟨rfl, B⟩
theorem wTaxDue (T : TB) (s k a f : Int) (x : Bool) (y n d : Int) (w : World) (hK : Kinds w) (h : Tm w T) (hF : TFits T) (hc : cF s k a f) (hy : (-9223372036854775808 ≤ y ∧ y ≤ 9223372036854775807)) (hn : (-9223372036854775808 ≤ n ∧ n ≤ 9223372036854775807)) (hd : (-9223372036854775808 ≤ d ∧ d ≤ 9223372036854775807)) :
    Calls Tryd.prog 3 #[.agg #[.slice T.AS T.nS T.cS, .slice T.AC T.nC T.cC, .slice T.AK T.nK T.cK, .int .i64 T.L, .int .i64 T.W], .agg #[.int .i64 s, .int .i64 k, .int .i64 a, .int .i64 f, .bool x], .agg #[.int .i64 y, .int .i64 n, .int .i64 d]] w fun e w' => e = .returned (.bool true) ∧ Below w.heap.size w w' := by
  have ha := hc.2.2.1.1
  have ha2 := hc.2.2.1.2
  cases g : lfitB T s k a f n d
  · exact td_no T s k a f x y n d w h hF hK ha ha2 g
  · by_cases g2 : (chargeV s k a f y n d).2 = 0
    · exact td_ok T s k a f x y n d w h hF hK ha ha2 g g2
    · exact td_err T s k a f x y n d w h hF hK ha ha2 g (by simpa using g2)
end Go.Proofs.YtgekojbmlppmdaaDoor
