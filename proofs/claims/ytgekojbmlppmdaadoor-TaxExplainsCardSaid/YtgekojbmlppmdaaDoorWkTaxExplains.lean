/- The walk of the law TaxExplains. -/
import Derived.Test.YtgekojbmlppmdaaDoorTaxD
import Derived.Test.YtgekojbmlppmdaaDoorTaxH
import Derived.Test.YtgekojbmlppmdaaDoorTaxQ
import Derived.Test.YtgekojbmlppmdaaDoorOpenX
namespace Go.Proofs.YtgekojbmlppmdaaDoor
open Go.RowKit Go.Sort
set_option linter.unusedVariables false
set_option linter.unusedSimpArgs false

theorem lfit_yes {T : TB} {s k a f n d : Int} (h : lfitB T s k a f n d = true) : TG T ∧ Fit3 T s k a f ∧ fitsV T s k a f = 0 ∧ 0 ≤ n ∧ 1 ≤ d ∧ n ≤ d ∧ d ≤ 1048576 := by
  unfold lfitB at h
  simp only [Bool.and_eq_true, beq_iff_eq, decide_eq_true_eq] at h
  obtain ⟨⟨⟨⟨⟨⟨⟨⟨_, _⟩, _⟩, h4⟩, h5⟩, h6⟩, h7⟩, h8⟩, h9⟩ := h
  exact ⟨tg_of h4, fitsV_zero h5, h5, h6, h7, h8, h9⟩
set_option maxRecDepth 100000 in
set_option maxHeartbeats 4000000 in
theorem te_no (T : TB) (s k a f : Int) (x : Bool) (y n d : Int) (w : World) (h : Tm w T) (hF : TFits T) (hK : Kinds w) (ha : -9223372036854775808 ≤ a) (ha2 : a ≤ 9223372036854775807) (g : lfitB T s k a f n d = false) :
    Calls Tryd.prog 8 #[.agg #[.slice T.AS T.nS T.cS, .slice T.AC T.nC T.cC, .slice T.AK T.nK T.cK, .int .i64 T.L, .int .i64 T.W], .agg #[.int .i64 s, .int .i64 k, .int .i64 a, .int .i64 f, .bool x], .agg #[.int .i64 y, .int .i64 n, .int .i64 d]] w fun e w' => e = .returned (.bool true) ∧ Below w.heap.size w w' := by
  have lf := fun w h => lfit_any T s k a f x n d w h hF ha ha2
  rw [g] at lf
  clear hF g
  have K0 : Bx (((w.alloc (.cells #[.slice T.AS T.nS T.cS, .slice T.AC T.nC T.cC, .slice T.AK T.nK T.cK, .int .i64 T.L, .int .i64 T.W] 26)).alloc (.cells #[.int .i64 s, .int .i64 k, .int .i64 a, .int .i64 f, .bool x] 28)).alloc (.cells #[.int .i64 y, .int .i64 n, .int .i64 d] 30)) (w.heap.size) 26 [.slice T.AS T.nS T.cS, .slice T.AC T.nC T.cC, .slice T.AK T.nK T.cK, .int .i64 T.L, .int .i64 T.W] := ((bx_new w [.slice T.AS T.nS T.cS, .slice T.AC T.nC T.cC, .slice T.AK T.nK T.cK, .int .i64 T.L, .int .i64 T.W] 26).alloc _).alloc _
  have K1 : Bx (((w.alloc (.cells #[.slice T.AS T.nS T.cS, .slice T.AC T.nC T.cC, .slice T.AK T.nK T.cK, .int .i64 T.L, .int .i64 T.W] 26)).alloc (.cells #[.int .i64 s, .int .i64 k, .int .i64 a, .int .i64 f, .bool x] 28)).alloc (.cells #[.int .i64 y, .int .i64 n, .int .i64 d] 30)) (w.heap.size + 1) 28 [.int .i64 s, .int .i64 k, .int .i64 a, .int .i64 f, .bool x] := (bx_at _ [.int .i64 s, .int .i64 k, .int .i64 a, .int .i64 f, .bool x] 28 (by simp)).alloc _
  have K2 : Bx (((w.alloc (.cells #[.slice T.AS T.nS T.cS, .slice T.AC T.nC T.cC, .slice T.AK T.nK T.cK, .int .i64 T.L, .int .i64 T.W] 26)).alloc (.cells #[.int .i64 s, .int .i64 k, .int .i64 a, .int .i64 f, .bool x] 28)).alloc (.cells #[.int .i64 y, .int .i64 n, .int .i64 d] 30)) (w.heap.size + 1 + 1) 30 [.int .i64 y, .int .i64 n, .int .i64 d] := bx_at _ [.int .i64 y, .int .i64 n, .int .i64 d] 30 (by simp)
  have B : Below w.heap.size w (((w.alloc (.cells #[.slice T.AS T.nS T.cS, .slice T.AC T.nC T.cC, .slice T.AK T.nK T.cK, .int .i64 T.L, .int .i64 T.W] 26)).alloc (.cells #[.int .i64 s, .int .i64 k, .int .i64 a, .int .i64 f, .bool x] 28)).alloc (.cells #[.int .i64 y, .int .i64 n, .int .i64 d] 30)) := ((((Below.refl _ _).alloc (Nat.le_refl _) _).alloc (by simp) _).alloc (by simp; omega) _)
  replace h := h.below (show Below w.heap.size w (((w.alloc (.cells #[.slice T.AS T.nS T.cS, .slice T.AC T.nC T.cC, .slice T.AK T.nK T.cK, .int .i64 T.L, .int .i64 T.W] 26)).alloc (.cells #[.int .i64 s, .int .i64 k, .int .i64 a, .int .i64 f, .bool x] 28)).alloc (.cells #[.int .i64 y, .int .i64 n, .int .i64 d] 30)) from B)
  have k0_0 := K0.cell (i := 0) rfl
  have k0_1 := K0.cell (i := 1) rfl
  have k0_2 := K0.cell (i := 2) rfl
  have k0_3 := K0.cell (i := 3) rfl
  have k0_4 := K0.cell (i := 4) rfl
  have k1_0 := K1.cell (i := 0) rfl
  have k1_1 := K1.cell (i := 1) rfl
  have k1_2 := K1.cell (i := 2) rfl
  have k1_3 := K1.cell (i := 3) rfl
  have k1_4 := K1.cell (i := 4) rfl
  have k2_0 := K2.cell (i := 0) rfl
  have k2_1 := K2.cell (i := 1) rfl
  have k2_2 := K2.cell (i := 2) rfl
  have du := dues_any (((w.alloc (.cells #[.slice T.AS T.nS T.cS, .slice T.AC T.nC T.cC, .slice T.AK T.nK T.cK, .int .i64 T.L, .int .i64 T.W] 26)).alloc (.cells #[.int .i64 s, .int .i64 k, .int .i64 a, .int .i64 f, .bool x] 28)).alloc (.cells #[.int .i64 y, .int .i64 n, .int .i64 d] 30)) (hK.below B)
  clear hK
  go_enter Tryd.func8, Tryd.ntmps8
  go_wp2_with (fail)
  with_reducible refine (du).mono ?_
  rintro e w1 ⟨rfl, hb⟩
  clear k0_0 k0_1 k0_2 k0_3 k0_4 k1_0 k1_1 k1_2 k1_3 k1_4 k2_0 k2_1 k2_2
  replace K0 := K0.below hb
  replace K1 := K1.below hb
  replace K2 := K2.below hb
  replace h := h.below hb
  replace B := below_step B hb B.size
  clear hb
  have k0_0 := K0.cell (i := 0) rfl
  have k0_1 := K0.cell (i := 1) rfl
  have k0_2 := K0.cell (i := 2) rfl
  have k0_3 := K0.cell (i := 3) rfl
  have k0_4 := K0.cell (i := 4) rfl
  have k1_0 := K1.cell (i := 0) rfl
  have k1_1 := K1.cell (i := 1) rfl
  have k1_2 := K1.cell (i := 2) rfl
  have k1_3 := K1.cell (i := 3) rfl
  have k1_4 := K1.cell (i := 4) rfl
  have k2_0 := K2.cell (i := 0) rfl
  have k2_1 := K2.cell (i := 1) rfl
  have k2_2 := K2.cell (i := 2) rfl
  go_wp2_with (fail)
  with_reducible refine (lf _ h).mono ?_
  rintro e w2 ⟨rfl, hb⟩
  clear k0_0 k0_1 k0_2 k0_3 k0_4 k1_0 k1_1 k1_2 k1_3 k1_4 k2_0 k2_1 k2_2
  replace K0 := K0.below hb
  replace K1 := K1.below hb
  replace K2 := K2.below hb
  replace h := h.below hb
  replace B := below_step B hb B.size
  clear hb
  have k0_0 := K0.cell (i := 0) rfl
  have k0_1 := K0.cell (i := 1) rfl
  have k0_2 := K0.cell (i := 2) rfl
  have k0_3 := K0.cell (i := 3) rfl
  have k0_4 := K0.cell (i := 4) rfl
  have k1_0 := K1.cell (i := 0) rfl
  have k1_1 := K1.cell (i := 1) rfl
  have k1_2 := K1.cell (i := 2) rfl
  have k1_3 := K1.cell (i := 3) rfl
  have k1_4 := K1.cell (i := 4) rfl
  have k2_0 := K2.cell (i := 0) rfl
  have k2_1 := K2.cell (i := 1) rfl
  have k2_2 := K2.cell (i := 2) rfl
  go_wp2
  go_ret
  exact ⟨rfl, B⟩
set_option maxRecDepth 100000 in
set_option maxHeartbeats 4000000 in
theorem te_err (T : TB) (s k a f : Int) (x : Bool) (y n d : Int) (w : World) (h : Tm w T) (hF : TFits T) (hK : Kinds w) (ha : -9223372036854775808 ≤ a) (ha2 : a ≤ 9223372036854775807) (g : lfitB T s k a f n d = true) (g2 : ((chargeV s k a f y n d).2 != 0) = true) :
    Calls Tryd.prog 8 #[.agg #[.slice T.AS T.nS T.cS, .slice T.AC T.nC T.cC, .slice T.AK T.nK T.cK, .int .i64 T.L, .int .i64 T.W], .agg #[.int .i64 s, .int .i64 k, .int .i64 a, .int .i64 f, .bool x], .agg #[.int .i64 y, .int .i64 n, .int .i64 d]] w fun e w' => e = .returned (.bool true) ∧ Below w.heap.size w w' := by
  have lf := fun w h => lfit_any T s k a f x n d w h hF ha ha2
  rw [g] at lf
  obtain ⟨tg, f3, fz, r0, r1, r2, r3⟩ := lfit_yes g
  have av := fun w h => average_tab T s k a f x y n d w h tg ha ha2
  have cg := fun w => charge_any s k a f y n d x w ha ha2
  have e1 : exactT T s k a f y n d = (0, (chargeV s k a f y n d).2) := by unfold exactT; rw [if_neg (by simpa using fz), if_pos (by simpa using g2)]
  have e2 : avgT T s k a f y n d = (0, (chargeV s k a f y n d).2) := by unfold avgT; rw [e1, if_pos (by simpa using g2)]
  have ex := fun w h => explain_bad T s k a f x y n d _ g2 w h (fun w h => charge_bad T s k a f x y n d _ fz rfl g2 w h tg.z ha ha2)
  rw [e2] at av
  clear e1 e2 tg f3 fz r0 r1 r2 r3 g hF
  generalize (chargeV s k a f y n d).1 = V at *
  generalize (chargeV s k a f y n d).2 = E at *
  have gE : (E == E) = true := by simp
  have K0 : Bx (((w.alloc (.cells #[.slice T.AS T.nS T.cS, .slice T.AC T.nC T.cC, .slice T.AK T.nK T.cK, .int .i64 T.L, .int .i64 T.W] 26)).alloc (.cells #[.int .i64 s, .int .i64 k, .int .i64 a, .int .i64 f, .bool x] 28)).alloc (.cells #[.int .i64 y, .int .i64 n, .int .i64 d] 30)) (w.heap.size) 26 [.slice T.AS T.nS T.cS, .slice T.AC T.nC T.cC, .slice T.AK T.nK T.cK, .int .i64 T.L, .int .i64 T.W] := ((bx_new w [.slice T.AS T.nS T.cS, .slice T.AC T.nC T.cC, .slice T.AK T.nK T.cK, .int .i64 T.L, .int .i64 T.W] 26).alloc _).alloc _
  have K1 : Bx (((w.alloc (.cells #[.slice T.AS T.nS T.cS, .slice T.AC T.nC T.cC, .slice T.AK T.nK T.cK, .int .i64 T.L, .int .i64 T.W] 26)).alloc (.cells #[.int .i64 s, .int .i64 k, .int .i64 a, .int .i64 f, .bool x] 28)).alloc (.cells #[.int .i64 y, .int .i64 n, .int .i64 d] 30)) (w.heap.size + 1) 28 [.int .i64 s, .int .i64 k, .int .i64 a, .int .i64 f, .bool x] := (bx_at _ [.int .i64 s, .int .i64 k, .int .i64 a, .int .i64 f, .bool x] 28 (by simp)).alloc _
  have K2 : Bx (((w.alloc (.cells #[.slice T.AS T.nS T.cS, .slice T.AC T.nC T.cC, .slice T.AK T.nK T.cK, .int .i64 T.L, .int .i64 T.W] 26)).alloc (.cells #[.int .i64 s, .int .i64 k, .int .i64 a, .int .i64 f, .bool x] 28)).alloc (.cells #[.int .i64 y, .int .i64 n, .int .i64 d] 30)) (w.heap.size + 1 + 1) 30 [.int .i64 y, .int .i64 n, .int .i64 d] := bx_at _ [.int .i64 y, .int .i64 n, .int .i64 d] 30 (by simp)
  have B : Below w.heap.size w (((w.alloc (.cells #[.slice T.AS T.nS T.cS, .slice T.AC T.nC T.cC, .slice T.AK T.nK T.cK, .int .i64 T.L, .int .i64 T.W] 26)).alloc (.cells #[.int .i64 s, .int .i64 k, .int .i64 a, .int .i64 f, .bool x] 28)).alloc (.cells #[.int .i64 y, .int .i64 n, .int .i64 d] 30)) := ((((Below.refl _ _).alloc (Nat.le_refl _) _).alloc (by simp) _).alloc (by simp; omega) _)
  replace h := h.below (show Below w.heap.size w (((w.alloc (.cells #[.slice T.AS T.nS T.cS, .slice T.AC T.nC T.cC, .slice T.AK T.nK T.cK, .int .i64 T.L, .int .i64 T.W] 26)).alloc (.cells #[.int .i64 s, .int .i64 k, .int .i64 a, .int .i64 f, .bool x] 28)).alloc (.cells #[.int .i64 y, .int .i64 n, .int .i64 d] 30)) from B)
  have k0_0 := K0.cell (i := 0) rfl
  have k0_1 := K0.cell (i := 1) rfl
  have k0_2 := K0.cell (i := 2) rfl
  have k0_3 := K0.cell (i := 3) rfl
  have k0_4 := K0.cell (i := 4) rfl
  have k1_0 := K1.cell (i := 0) rfl
  have k1_1 := K1.cell (i := 1) rfl
  have k1_2 := K1.cell (i := 2) rfl
  have k1_3 := K1.cell (i := 3) rfl
  have k1_4 := K1.cell (i := 4) rfl
  have k2_0 := K2.cell (i := 0) rfl
  have k2_1 := K2.cell (i := 1) rfl
  have k2_2 := K2.cell (i := 2) rfl
  have du := dues_any (((w.alloc (.cells #[.slice T.AS T.nS T.cS, .slice T.AC T.nC T.cC, .slice T.AK T.nK T.cK, .int .i64 T.L, .int .i64 T.W] 26)).alloc (.cells #[.int .i64 s, .int .i64 k, .int .i64 a, .int .i64 f, .bool x] 28)).alloc (.cells #[.int .i64 y, .int .i64 n, .int .i64 d] 30)) (hK.below B)
  clear hK
  go_enter Tryd.func8, Tryd.ntmps8
  go_wp2_with (fail)
  with_reducible refine (du).mono ?_
  rintro e w1 ⟨rfl, hb⟩
  clear k0_0 k0_1 k0_2 k0_3 k0_4 k1_0 k1_1 k1_2 k1_3 k1_4 k2_0 k2_1 k2_2
  replace K0 := K0.below hb
  replace K1 := K1.below hb
  replace K2 := K2.below hb
  replace h := h.below hb
  replace B := below_step B hb B.size
  clear hb
  have k0_0 := K0.cell (i := 0) rfl
  have k0_1 := K0.cell (i := 1) rfl
  have k0_2 := K0.cell (i := 2) rfl
  have k0_3 := K0.cell (i := 3) rfl
  have k0_4 := K0.cell (i := 4) rfl
  have k1_0 := K1.cell (i := 0) rfl
  have k1_1 := K1.cell (i := 1) rfl
  have k1_2 := K1.cell (i := 2) rfl
  have k1_3 := K1.cell (i := 3) rfl
  have k1_4 := K1.cell (i := 4) rfl
  have k2_0 := K2.cell (i := 0) rfl
  have k2_1 := K2.cell (i := 1) rfl
  have k2_2 := K2.cell (i := 2) rfl
  go_wp2_with (fail)
  with_reducible refine (lf _ h).mono ?_
  rintro e w2 ⟨rfl, hb⟩
  clear k0_0 k0_1 k0_2 k0_3 k0_4 k1_0 k1_1 k1_2 k1_3 k1_4 k2_0 k2_1 k2_2
  replace K0 := K0.below hb
  replace K1 := K1.below hb
  replace K2 := K2.below hb
  replace h := h.below hb
  replace B := below_step B hb B.size
  clear hb
  have k0_0 := K0.cell (i := 0) rfl
  have k0_1 := K0.cell (i := 1) rfl
  have k0_2 := K0.cell (i := 2) rfl
  have k0_3 := K0.cell (i := 3) rfl
  have k0_4 := K0.cell (i := 4) rfl
  have k1_0 := K1.cell (i := 0) rfl
  have k1_1 := K1.cell (i := 1) rfl
  have k1_2 := K1.cell (i := 2) rfl
  have k1_3 := K1.cell (i := 3) rfl
  have k1_4 := K1.cell (i := 4) rfl
  have k2_0 := K2.cell (i := 0) rfl
  have k2_1 := K2.cell (i := 1) rfl
  have k2_2 := K2.cell (i := 2) rfl
  go_wp2_with (fail)
  with_reducible refine (ex _ h.s).mono ?_
  rintro e w3 ⟨rfl, hb⟩
  clear k0_0 k0_1 k0_2 k0_3 k0_4 k1_0 k1_1 k1_2 k1_3 k1_4 k2_0 k2_1 k2_2
  replace K0 := K0.below hb
  replace K1 := K1.below hb
  replace K2 := K2.below hb
  replace h := h.below hb
  replace B := below_step B hb B.size
  clear hb
  have k0_0 := K0.cell (i := 0) rfl
  have k0_1 := K0.cell (i := 1) rfl
  have k0_2 := K0.cell (i := 2) rfl
  have k0_3 := K0.cell (i := 3) rfl
  have k0_4 := K0.cell (i := 4) rfl
  have k1_0 := K1.cell (i := 0) rfl
  have k1_1 := K1.cell (i := 1) rfl
  have k1_2 := K1.cell (i := 2) rfl
  have k1_3 := K1.cell (i := 3) rfl
  have k1_4 := K1.cell (i := 4) rfl
  have k2_0 := K2.cell (i := 0) rfl
  have k2_1 := K2.cell (i := 1) rfl
  have k2_2 := K2.cell (i := 2) rfl
  go_wp2_with (fail)
  with_reducible refine (av _ h.s).mono ?_
  rintro e w4 ⟨rfl, hb⟩
  clear k0_0 k0_1 k0_2 k0_3 k0_4 k1_0 k1_1 k1_2 k1_3 k1_4 k2_0 k2_1 k2_2
  replace K0 := K0.below hb
  replace K1 := K1.below hb
  replace K2 := K2.below hb
  replace h := h.below hb
  replace B := below_step B hb B.size
  clear hb
  have k0_0 := K0.cell (i := 0) rfl
  have k0_1 := K0.cell (i := 1) rfl
  have k0_2 := K0.cell (i := 2) rfl
  have k0_3 := K0.cell (i := 3) rfl
  have k0_4 := K0.cell (i := 4) rfl
  have k1_0 := K1.cell (i := 0) rfl
  have k1_1 := K1.cell (i := 1) rfl
  have k1_2 := K1.cell (i := 2) rfl
  have k1_3 := K1.cell (i := 3) rfl
  have k1_4 := K1.cell (i := 4) rfl
  have k2_0 := K2.cell (i := 0) rfl
  have k2_1 := K2.cell (i := 1) rfl
  have k2_2 := K2.cell (i := 2) rfl
  go_wp2_with (fail)
  with_reducible refine (cg _).mono ?_
  rintro e w5 ⟨rfl, hb⟩
  clear k0_0 k0_1 k0_2 k0_3 k0_4 k1_0 k1_1 k1_2 k1_3 k1_4 k2_0 k2_1 k2_2
  replace K0 := K0.below hb
  replace K1 := K1.below hb
  replace K2 := K2.below hb
  replace h := h.below hb
  replace B := below_step B hb B.size
  clear hb
  have k0_0 := K0.cell (i := 0) rfl
  have k0_1 := K0.cell (i := 1) rfl
  have k0_2 := K0.cell (i := 2) rfl
  have k0_3 := K0.cell (i := 3) rfl
  have k0_4 := K0.cell (i := 4) rfl
  have k1_0 := K1.cell (i := 0) rfl
  have k1_1 := K1.cell (i := 1) rfl
  have k1_2 := K1.cell (i := 2) rfl
  have k1_3 := K1.cell (i := 3) rfl
  have k1_4 := K1.cell (i := 4) rfl
  have k2_0 := K2.cell (i := 0) rfl
  have k2_1 := K2.cell (i := 1) rfl
  have k2_2 := K2.cell (i := 2) rfl
  go_wp2
  go_ret
  exact ⟨rfl, B⟩
set_option maxRecDepth 100000 in
set_option maxHeartbeats 4000000 in
theorem te_ok (T : TB) (s k a f : Int) (x : Bool) (y n d : Int) (w : World) (h : Tm w T) (hF : TFits T) (hK : Kinds w) (ha : -9223372036854775808 ≤ a) (ha2 : a ≤ 9223372036854775807) (g : lfitB T s k a f n d = true) (g2 : (chargeV s k a f y n d).2 = 0) :
    Calls Tryd.prog 8 #[.agg #[.slice T.AS T.nS T.cS, .slice T.AC T.nC T.cC, .slice T.AK T.nK T.cK, .int .i64 T.L, .int .i64 T.W], .agg #[.int .i64 s, .int .i64 k, .int .i64 a, .int .i64 f, .bool x], .agg #[.int .i64 y, .int .i64 n, .int .i64 d]] w fun e w' => e = .returned (.bool true) ∧ Below w.heap.size w w' := by
  have lf := fun w h => lfit_any T s k a f x n d w h hF ha ha2
  rw [g] at lf
  obtain ⟨tg, f3, fz, r0, r1, r2, r3⟩ := lfit_yes g
  have av := fun w h => average_tab T s k a f x y n d w h tg ha ha2
  have cg := fun w => charge_any s k a f y n d x w ha ha2
  obtain ⟨f0, finc, ff, fr, f8, fn, f4⟩ := taxL_all tg.ok f3 r0 r1 r2
  have ex := fun w h => explain_ok T s k a f x y n d w h f8 ff fr (fun w h => charge_tab T s k a f x y n d fz g2 w h tg.z tg.ok ha ha2)
  have re := fun w h => rexact_any T s k a f x y n d w h tg.ok f3 g2
  have e1 : exactT T s k a f y n d = (refE (T.S s.toNat) k f n d (chargeV s k a f y n d).1, 0) := by unfold exactT; rw [if_neg (by simpa using fz), if_neg (by simpa using g2)]
  have e2 : avgT T s k a f y n d = (if y ≤ 0 then 0 else refE (T.S s.toNat) k f n d (chargeV s k a f y n d).1 / y, 0) := by unfold avgT; rw [e1, if_neg (by simp)]; split <;> rfl
  obtain ⟨avg, hav⟩ : ∃ avg : Int, avg = if y ≤ 0 then 0 else refE (T.S s.toNat) k f n d (chargeV s k a f y n d).1 / y := ⟨_, rfl⟩
  rw [← hav] at e2
  have hav1 : y ≤ 0 → avg = 0 := fun h => by rw [hav, if_pos h]
  have hav2 : ¬ y ≤ 0 → avg = refE (T.S s.toNat) k f n d (chargeV s k a f y n d).1 / y := fun h => by rw [hav, if_neg h]
  have HA1 := Lib.hid hav1
  have HA2 := Lib.hid hav2
  clear hav hav1 hav2
  have EF := Lib.hid (fun m => exf_of (m := m) tg.ok f3 g2)
  have hs8 := tg.ok.s8
  have hsn := f3.sn
  have hok := tg.ok.s s.toNat (by have := f3.sn; have := f3.s0; omega)
  have hn8 := hok.2.1
  have hs0 := f3.s0
  have bd := refE_bd tg.ok f3 r0 r1 r2 (chargeV_bd (s := s) (k := k) (a := a) (f := f) (x := y) (n := n) (d := d)).1 chargeV_bd.2
  obtain ⟨jj, hjj⟩ : ∃ j : Nat, s = (j : Int) := ⟨s.toNat, by omega⟩
  have hjn : s.toNat = jj := by omega
  rw [hjn] at hn8
  have HJ := Lib.hid hjj
  have HJN := Lib.hid hjn
  rw [e2] at av
  rw [g2] at cg
  clear e1 e2 tg f3 fz r0 r1 r2 r3 g hF g2 hok hjj hjn hs0 f0 finc ff fr f8 fn f4
  have K0 : Bx (((w.alloc (.cells #[.slice T.AS T.nS T.cS, .slice T.AC T.nC T.cC, .slice T.AK T.nK T.cK, .int .i64 T.L, .int .i64 T.W] 26)).alloc (.cells #[.int .i64 s, .int .i64 k, .int .i64 a, .int .i64 f, .bool x] 28)).alloc (.cells #[.int .i64 y, .int .i64 n, .int .i64 d] 30)) (w.heap.size) 26 [.slice T.AS T.nS T.cS, .slice T.AC T.nC T.cC, .slice T.AK T.nK T.cK, .int .i64 T.L, .int .i64 T.W] := ((bx_new w [.slice T.AS T.nS T.cS, .slice T.AC T.nC T.cC, .slice T.AK T.nK T.cK, .int .i64 T.L, .int .i64 T.W] 26).alloc _).alloc _
  have K1 : Bx (((w.alloc (.cells #[.slice T.AS T.nS T.cS, .slice T.AC T.nC T.cC, .slice T.AK T.nK T.cK, .int .i64 T.L, .int .i64 T.W] 26)).alloc (.cells #[.int .i64 s, .int .i64 k, .int .i64 a, .int .i64 f, .bool x] 28)).alloc (.cells #[.int .i64 y, .int .i64 n, .int .i64 d] 30)) (w.heap.size + 1) 28 [.int .i64 s, .int .i64 k, .int .i64 a, .int .i64 f, .bool x] := (bx_at _ [.int .i64 s, .int .i64 k, .int .i64 a, .int .i64 f, .bool x] 28 (by simp)).alloc _
  have K2 : Bx (((w.alloc (.cells #[.slice T.AS T.nS T.cS, .slice T.AC T.nC T.cC, .slice T.AK T.nK T.cK, .int .i64 T.L, .int .i64 T.W] 26)).alloc (.cells #[.int .i64 s, .int .i64 k, .int .i64 a, .int .i64 f, .bool x] 28)).alloc (.cells #[.int .i64 y, .int .i64 n, .int .i64 d] 30)) (w.heap.size + 1 + 1) 30 [.int .i64 y, .int .i64 n, .int .i64 d] := bx_at _ [.int .i64 y, .int .i64 n, .int .i64 d] 30 (by simp)
  have B : Below w.heap.size w (((w.alloc (.cells #[.slice T.AS T.nS T.cS, .slice T.AC T.nC T.cC, .slice T.AK T.nK T.cK, .int .i64 T.L, .int .i64 T.W] 26)).alloc (.cells #[.int .i64 s, .int .i64 k, .int .i64 a, .int .i64 f, .bool x] 28)).alloc (.cells #[.int .i64 y, .int .i64 n, .int .i64 d] 30)) := ((((Below.refl _ _).alloc (Nat.le_refl _) _).alloc (by simp) _).alloc (by simp; omega) _)
  replace h := h.below (show Below w.heap.size w (((w.alloc (.cells #[.slice T.AS T.nS T.cS, .slice T.AC T.nC T.cC, .slice T.AK T.nK T.cK, .int .i64 T.L, .int .i64 T.W] 26)).alloc (.cells #[.int .i64 s, .int .i64 k, .int .i64 a, .int .i64 f, .bool x] 28)).alloc (.cells #[.int .i64 y, .int .i64 n, .int .i64 d] 30)) from B)
  have k0_0 := K0.cell (i := 0) rfl
  have k0_1 := K0.cell (i := 1) rfl
  have k0_2 := K0.cell (i := 2) rfl
  have k0_3 := K0.cell (i := 3) rfl
  have k0_4 := K0.cell (i := 4) rfl
  have k1_0 := K1.cell (i := 0) rfl
  have k1_1 := K1.cell (i := 1) rfl
  have k1_2 := K1.cell (i := 2) rfl
  have k1_3 := K1.cell (i := 3) rfl
  have k1_4 := K1.cell (i := 4) rfl
  have k2_0 := K2.cell (i := 0) rfl
  have k2_1 := K2.cell (i := 1) rfl
  have k2_2 := K2.cell (i := 2) rfl
  have du := dues_any (((w.alloc (.cells #[.slice T.AS T.nS T.cS, .slice T.AC T.nC T.cC, .slice T.AK T.nK T.cK, .int .i64 T.L, .int .i64 T.W] 26)).alloc (.cells #[.int .i64 s, .int .i64 k, .int .i64 a, .int .i64 f, .bool x] 28)).alloc (.cells #[.int .i64 y, .int .i64 n, .int .i64 d] 30)) (hK.below B)
  clear hK
  go_enter Tryd.func8, Tryd.ntmps8
  go_wp2_with (fail)
  with_reducible refine (du).mono ?_
  rintro e w1 ⟨rfl, hb⟩
  clear k0_0 k0_1 k0_2 k0_3 k0_4 k1_0 k1_1 k1_2 k1_3 k1_4 k2_0 k2_1 k2_2
  replace K0 := K0.below hb
  replace K1 := K1.below hb
  replace K2 := K2.below hb
  replace h := h.below hb
  replace B := below_step B hb B.size
  clear hb
  have k0_0 := K0.cell (i := 0) rfl
  have k0_1 := K0.cell (i := 1) rfl
  have k0_2 := K0.cell (i := 2) rfl
  have k0_3 := K0.cell (i := 3) rfl
  have k0_4 := K0.cell (i := 4) rfl
  have k1_0 := K1.cell (i := 0) rfl
  have k1_1 := K1.cell (i := 1) rfl
  have k1_2 := K1.cell (i := 2) rfl
  have k1_3 := K1.cell (i := 3) rfl
  have k1_4 := K1.cell (i := 4) rfl
  have k2_0 := K2.cell (i := 0) rfl
  have k2_1 := K2.cell (i := 1) rfl
  have k2_2 := K2.cell (i := 2) rfl
  go_wp2_with (fail)
  with_reducible refine (lf _ h).mono ?_
  rintro e w2 ⟨rfl, hb⟩
  clear k0_0 k0_1 k0_2 k0_3 k0_4 k1_0 k1_1 k1_2 k1_3 k1_4 k2_0 k2_1 k2_2
  replace K0 := K0.below hb
  replace K1 := K1.below hb
  replace K2 := K2.below hb
  replace h := h.below hb
  replace B := below_step B hb B.size
  clear hb
  have k0_0 := K0.cell (i := 0) rfl
  have k0_1 := K0.cell (i := 1) rfl
  have k0_2 := K0.cell (i := 2) rfl
  have k0_3 := K0.cell (i := 3) rfl
  have k0_4 := K0.cell (i := 4) rfl
  have k1_0 := K1.cell (i := 0) rfl
  have k1_1 := K1.cell (i := 1) rfl
  have k1_2 := K1.cell (i := 2) rfl
  have k1_3 := K1.cell (i := 3) rfl
  have k1_4 := K1.cell (i := 4) rfl
  have k2_0 := K2.cell (i := 0) rfl
  have k2_1 := K2.cell (i := 1) rfl
  have k2_2 := K2.cell (i := 2) rfl
  go_wp2_with (fail)
  with_reducible refine (ex _ h.s).mono ?_
  rintro e w3 ⟨v, m, rfl, hv, hml, hmp, hme, hb⟩
  clear k0_0 k0_1 k0_2 k0_3 k0_4 k1_0 k1_1 k1_2 k1_3 k1_4 k2_0 k2_1 k2_2
  replace K0 := K0.below hb
  replace K1 := K1.below hb
  replace K2 := K2.below hb
  replace h := h.below hb
  replace B := below_step B hb B.size
  clear hb
  have k0_0 := K0.cell (i := 0) rfl
  have k0_1 := K0.cell (i := 1) rfl
  have k0_2 := K0.cell (i := 2) rfl
  have k0_3 := K0.cell (i := 3) rfl
  have k0_4 := K0.cell (i := 4) rfl
  have k1_0 := K1.cell (i := 0) rfl
  have k1_1 := K1.cell (i := 1) rfl
  have k1_2 := K1.cell (i := 2) rfl
  have k1_3 := K1.cell (i := 3) rfl
  have k1_4 := K1.cell (i := 4) rfl
  have k2_0 := K2.cell (i := 0) rfl
  have k2_1 := K2.cell (i := 1) rfl
  have k2_2 := K2.cell (i := 2) rfl
  obtain ⟨vA, vc, rfl, hcs⟩ := sw_any hv
  have hvl := shrL_len (taxL (T.S s.toNat) k f n d) (chargeV s k a f y n d).1 m
  have ef := EF.out m hml hmp hme
  have HS : Hid (∀ i, i < m → ∃ g, vA = some ⟨g, 0, none⟩ ∧ w3.cell? ⟨g, i * 3, none⟩ = some (.int .i64 (gR (taxL (T.S s.toNat) k f n d) i)) ∧ w3.cell? ⟨g, i * 3 + 1, none⟩ = some (.int .i64 (amt (taxL (T.S s.toNat) k f n d) (chargeV s k a f y n d).1 i)) ∧ w3.cell? ⟨g, i * 3 + 2, none⟩ = some (.int .i64 (amt (taxL (T.S s.toNat) k f n d) (chargeV s k a f y n d).1 i * gR (taxL (T.S s.toNat) k f n d) i))) := Lib.hid fun i hi => by
    have := hcs i (by rw [hvl]; exact hi)
    rw [shrL_get hi] at this
    exact this
  rw [hvl]
  clear hcs hv hml hmp hme hvl EF
  obtain ⟨qa, qt, ql, qg, qb, qp⟩ := ef
  rw [HJN.out] at ql
  have QB := Lib.hid qb
  have QP := Lib.hid qp
  clear qb qp
  generalize refE (T.S s.toNat) k f n d (chargeV s k a f y n d).1 = R at *
  generalize taxL (T.S s.toNat) k f n d = L at *
  generalize (chargeV s k a f y n d).1 = c at *
  have hS := h.s
  clear h lf du ex
  go_wp2_with (fail)
  with_reducible refine (av _ hS).mono ?_
  rintro e w4 ⟨rfl, hb⟩
  clear k0_0 k0_1 k0_2 k0_3 k0_4 k1_0 k1_1 k1_2 k1_3 k1_4 k2_0 k2_1 k2_2
  replace K0 := K0.below hb
  replace K1 := K1.below hb
  replace K2 := K2.below hb
  replace hS := hS.below hb
  replace HS : Hid (∀ i, i < m → ∃ g, vA = some ⟨g, 0, none⟩ ∧ w4.cell? ⟨g, i * 3, none⟩ = some (.int .i64 (gR L i)) ∧ w4.cell? ⟨g, i * 3 + 1, none⟩ = some (.int .i64 (amt L c i)) ∧ w4.cell? ⟨g, i * 3 + 2, none⟩ = some (.int .i64 (amt L c i * gR L i))) := Lib.hid fun i hi => by
    obtain ⟨g, h1, h2, h3, h4⟩ := HS.out i hi
    exact ⟨g, h1, cell_later hb h2, cell_later hb h3, cell_later hb h4⟩
  replace B := below_step B hb B.size
  clear hb
  have k0_0 := K0.cell (i := 0) rfl
  have k0_1 := K0.cell (i := 1) rfl
  have k0_2 := K0.cell (i := 2) rfl
  have k0_3 := K0.cell (i := 3) rfl
  have k0_4 := K0.cell (i := 4) rfl
  have k1_0 := K1.cell (i := 0) rfl
  have k1_1 := K1.cell (i := 1) rfl
  have k1_2 := K1.cell (i := 2) rfl
  have k1_3 := K1.cell (i := 3) rfl
  have k1_4 := K1.cell (i := 4) rfl
  have k2_0 := K2.cell (i := 0) rfl
  have k2_1 := K2.cell (i := 1) rfl
  have k2_2 := K2.cell (i := 2) rfl
  go_wp2_with (fail)
  with_reducible refine (cg _).mono ?_
  rintro e w5 ⟨rfl, hb⟩
  clear k0_0 k0_1 k0_2 k0_3 k0_4 k1_0 k1_1 k1_2 k1_3 k1_4 k2_0 k2_1 k2_2
  replace K0 := K0.below hb
  replace K1 := K1.below hb
  replace K2 := K2.below hb
  replace hS := hS.below hb
  replace HS : Hid (∀ i, i < m → ∃ g, vA = some ⟨g, 0, none⟩ ∧ w5.cell? ⟨g, i * 3, none⟩ = some (.int .i64 (gR L i)) ∧ w5.cell? ⟨g, i * 3 + 1, none⟩ = some (.int .i64 (amt L c i)) ∧ w5.cell? ⟨g, i * 3 + 2, none⟩ = some (.int .i64 (amt L c i * gR L i))) := Lib.hid fun i hi => by
    obtain ⟨g, h1, h2, h3, h4⟩ := HS.out i hi
    exact ⟨g, h1, cell_later hb h2, cell_later hb h3, cell_later hb h4⟩
  replace B := below_step B hb B.size
  clear hb
  have k0_0 := K0.cell (i := 0) rfl
  have k0_1 := K0.cell (i := 1) rfl
  have k0_2 := K0.cell (i := 2) rfl
  have k0_3 := K0.cell (i := 3) rfl
  have k0_4 := K0.cell (i := 4) rfl
  have k1_0 := K1.cell (i := 0) rfl
  have k1_1 := K1.cell (i := 1) rfl
  have k1_2 := K1.cell (i := 2) rfl
  have k1_3 := K1.cell (i := 3) rfl
  have k1_4 := K1.cell (i := 4) rfl
  have k2_0 := K2.cell (i := 0) rfl
  have k2_1 := K2.cell (i := 1) rfl
  have k2_2 := K2.cell (i := 2) rfl
  clear av cg
  have Bw := Below.refl w5.heap.size w5
  have hm8 : m ≤ 8 := by omega
  go_wp2
  go_loopw [13, 14, 15, 86] (fun u1 u2 u3 j X => ∃ i : Nat, i ≤ m ∧ j = .int .i64 i ∧ u1 = .int .i64 (aS L c i) ∧ u2 = .int .i64 (tS L c i) ∧ u3 = .int .i64 (topb (gR L) i) ∧ Below w5.heap.size w5 X) (fun _ _ _ j _ => m - (intOf j).toNat)
  case atStart => exact ⟨0, Nat.zero_le _, rfl, rfl, rfl, rfl, Bw⟩
  case round =>
    clear Bw
    obtain ⟨i, hi, rfl, rfl, rfl, rfl, hbX⟩ := hrel
    by_cases hlt : i < m
    · obtain ⟨gg, rfl, z0, z1, z2⟩ := HS.out i hlt
      replace z0 := cell_later hbX z0
      replace z1 := cell_later hbX z1
      replace z2 := cell_later hbX z2
      obtain ⟨b1, b2⟩ := QB.out (i + 1) (by omega)
      obtain ⟨p1, p2⟩ := QP.out i hlt
      have H1 : Hid (aS L c (i + 1) = aS L c i + amt L c i) := Lib.hid rfl
      have H2 : Hid (tS L c (i + 1) = tS L c i + amt L c i * gR L i) := Lib.hid rfl
      have H3 : Hid (topb (gR L) (i + 1) = max (topb (gR L) i) (gR L i)) := Lib.hid rfl
      have hm0 := Int.mul_nonneg (Int.le_of_lt p1.1) p2.1
      have hm1 := Int.mul_le_mul p1.2 p2.2 p2.1 (show (0 : Int) ≤ 100000000000 by omega)
      generalize topb (gR L) i = t3 at *
      generalize hA : amt L c i = aa at *
      generalize gR L i = rr at *
      have u1 : wrap64 (aa * rr) = aa * rr := IntWalk.wrap64_in _ (by omega)
      have u2 : wrap64 (aS L c i + aa) = aS L c (i + 1) := by rw [H1.out]; exact IntWalk.wrap64_in _ (by have := H1.out; omega)
      have u3 : wrap64 (tS L c i + aa * rr) = tS L c (i + 1) := by rw [H2.out]; exact IntWalk.wrap64_in _ (by have := H2.out; omega)
      have u4 : decide (aa ≤ 0) = false := decide_eq_false (by omega)
      have hb2 := hbX.alloc hbX.size (.cells #[.int .i64 rr, .int .i64 aa, .int .i64 (aa * rr)] 76)
      clear hm0 hm1 hA H1 H2
      go_wp2
      refine ⟨⟨i + 1, by omega, by go_num, by rw [u2], by rw [u3], by rw [H3.out], hb2⟩, ?_⟩
      simp [intOf]; omega
    · obtain rfl : i = m := by omega
      rw [qa, qt]
      have hb := hbX
      have q5 : decide (((T.S jj).n : Int) < (i : Int)) = false := decide_eq_false (by omega)
      have q6 : decide ((T.S jj).n < i) = false := decide_eq_false (by omega)
      have q7 : ¬ (T.S jj).n < i := by omega
      have HQG := Lib.hid qg
      clear hbX HS QB QP qa qt ql qg hm8
      generalize topb (gR L) i = tp at *
      clear k0_0 k0_1 k0_2 k0_3 k0_4 k1_0 k1_1 k1_2 k1_3 k1_4 k2_0 k2_1 k2_2
      replace K0 := K0.below hb
      replace K1 := K1.below hb
      replace K2 := K2.below hb
      replace hS := hS.below hb
      replace B := below_step B hb B.size
      clear hb
      have k0_0 := K0.cell (i := 0) rfl
      have k0_1 := K0.cell (i := 1) rfl
      have k0_2 := K0.cell (i := 2) rfl
      have k0_3 := K0.cell (i := 3) rfl
      have k0_4 := K0.cell (i := 4) rfl
      have k1_0 := K1.cell (i := 0) rfl
      have k1_1 := K1.cell (i := 1) rfl
      have k1_2 := K1.cell (i := 2) rfl
      have k1_3 := K1.cell (i := 3) rfl
      have k1_4 := K1.cell (i := 4) rfl
      have k2_0 := K2.cell (i := 0) rfl
      have k2_1 := K2.cell (i := 1) rfl
      have k2_2 := K2.cell (i := 2) rfl
      go_wp2_with (fail)
      with_reducible refine (re _ hS).mono ?_
      rintro e w6 ⟨rfl, hb⟩
      clear k0_0 k0_1 k0_2 k0_3 k0_4 k1_0 k1_1 k1_2 k1_3 k1_4 k2_0 k2_1 k2_2
      replace K0 := K0.below hb
      replace K1 := K1.below hb
      replace K2 := K2.below hb
      replace hS := hS.below hb
      replace B := below_step B hb B.size
      clear hb
      have k0_0 := K0.cell (i := 0) rfl
      have k0_1 := K0.cell (i := 1) rfl
      have k0_2 := K0.cell (i := 2) rfl
      have k0_3 := K0.cell (i := 3) rfl
      have k0_4 := K0.cell (i := 4) rfl
      have k1_0 := K1.cell (i := 0) rfl
      have k1_1 := K1.cell (i := 1) rfl
      have k1_2 := K1.cell (i := 2) rfl
      have k1_3 := K1.cell (i := 3) rfl
      have k1_4 := K1.cell (i := 4) rfl
      have k2_0 := K2.cell (i := 0) rfl
      have k2_1 := K2.cell (i := 1) rfl
      have k2_2 := K2.cell (i := 2) rfl
      clear re
      obtain ⟨b, o, hA, hSc⟩ := id (hS (by have := HJ.out; omega))
      obtain ⟨hcell, _⟩ := hSc jj (by have := HJ.out; omega)
      clear hSc hS
      have hjn2 : (jj : Int) < T.nS := by have := HJ.out; omega
      have hsj := HJ.out
      clear HJ HJN
      clear k0_0 k0_1 k0_2 k0_3 k0_4 k1_0 k1_1 k1_2 k1_3 k1_4 k2_0 k2_1 k2_2
      subst hsj
      generalize T.AS = A0 at *
      subst hA
      have k0_0 := K0.cell (i := 0) rfl
      have k0_1 := K0.cell (i := 1) rfl
      have k0_2 := K0.cell (i := 2) rfl
      have k0_3 := K0.cell (i := 3) rfl
      have k0_4 := K0.cell (i := 4) rfl
      have k1_0 := K1.cell (i := 0) rfl
      have k1_1 := K1.cell (i := 1) rfl
      have k1_2 := K1.cell (i := 2) rfl
      have k1_3 := K1.cell (i := 3) rfl
      have k1_4 := K1.cell (i := 4) rfl
      have k2_0 := K2.cell (i := 0) rfl
      have k2_1 := K2.cell (i := 1) rfl
      have k2_2 := K2.cell (i := 2) rfl
      have gC : (c != c) = false := by simp
      have gR' : (R != R) = false := by simp
      have gA : (avg == avg) = true := by simp
      by_cases hy : y ≤ 0
      · have g0 := HA1.out hy
        have l0 : decide (y ≤ 0) = true := decide_eq_true hy
        subst g0
        clear hy
        go_wp2
        go_ret
        exact ⟨rfl, B⟩
      · have g0 := HA2.out (by omega)
        have hq0 : R.tdiv y = avg := by rw [g0]; exact Int.tdiv_eq_ediv_of_nonneg bd.1
        have l0 : decide (y ≤ 0) = false := decide_eq_false hy
        have hy2 : 0 < y := by omega
        have hy3 : ¬ y = 0 := by omega
        have hb0 := Int.ediv_nonneg bd.1 (show 0 ≤ y by omega)
        have hb1 := Int.ediv_le_self y bd.1
        have ha0 : 0 ≤ avg ∧ avg ≤ 1000000000000000 := by rw [g0]; omega
        have key : (k == 2) = true ∨ ((k == 2) = false ∧ decide (avg ≤ tp) = true) := by
          rcases HQG.out with h | h | h
          · exact .inl (by simpa using h)
          · exact absurd h hy
          · by_cases hk : k = 2
            · exact .inl (by simpa using hk)
            · exact .inr ⟨by simpa using hk, decide_eq_true (by rw [g0]; exact h)⟩
        have hw : wrap64 avg = avg := IntWalk.wrap64_in _ (by omega)
        clear g0 hb0 hb1 bd
        rcases key with k1 | ⟨k1, k2⟩
        all_goals
          go_wp2
          go_ret
          exact ⟨rfl, B⟩
theorem wTaxExplains (T : TB) (s k a f : Int) (x : Bool) (y n d : Int) (w : World) (hK : Kinds w) (h : Tm w T) (hF : TFits T) (hc : cF s k a f) (hy : (-9223372036854775808 ≤ y ∧ y ≤ 9223372036854775807)) (hn : (-9223372036854775808 ≤ n ∧ n ≤ 9223372036854775807)) (hd : (-9223372036854775808 ≤ d ∧ d ≤ 9223372036854775807)) :
    Calls Tryd.prog 8 #[.agg #[.slice T.AS T.nS T.cS, .slice T.AC T.nC T.cC, .slice T.AK T.nK T.cK, .int .i64 T.L, .int .i64 T.W], .agg #[.int .i64 s, .int .i64 k, .int .i64 a, .int .i64 f, .bool x], .agg #[.int .i64 y, .int .i64 n, .int .i64 d]] w fun e w' => e = .returned (.bool true) ∧ Below w.heap.size w w' := by
  have ha := hc.2.2.1.1
  have ha2 := hc.2.2.1.2
  cases g : lfitB T s k a f n d
  · exact te_no T s k a f x y n d w h hF hK ha ha2 g
  · by_cases g2 : (chargeV s k a f y n d).2 = 0
    · exact te_ok T s k a f x y n d w h hF hK ha ha2 g g2
    · exact te_err T s k a f x y n d w h hF hK ha ha2 g (by simpa using g2)
end Go.Proofs.YtgekojbmlppmdaaDoor
