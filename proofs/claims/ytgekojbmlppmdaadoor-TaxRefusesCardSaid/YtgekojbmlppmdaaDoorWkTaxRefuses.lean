/- The walk of the law TaxRefuses. -/
import Derived.Test.YtgekojbmlppmdaaDoorTaxD
import Derived.Test.YtgekojbmlppmdaaDoorTaxH
import Derived.Test.YtgekojbmlppmdaaDoorOpenX
namespace Go.Proofs.YtgekojbmlppmdaaDoor
open Go.RowKit Go.Sort
set_option linter.unusedVariables false
set_option linter.unusedSimpArgs false

set_option maxRecDepth 100000 in
set_option maxHeartbeats 1000000 in
theorem tr_many (T : TB) (s k a f : Int) (x : Bool) (y n d : Int) (w : World) (h : Tm w T) (hF : TFits T) (hK : Kinds w) (ha : -9223372036854775808 ≤ a) (ha2 : a ≤ 9223372036854775807) (g : decide (20 < (T.nS : Int)) = true) :
    Calls Tryd.prog 4 #[.agg #[.slice T.AS T.nS T.cS, .slice T.AC T.nC T.cC, .slice T.AK T.nK T.cK, .int .i64 T.L, .int .i64 T.W], .agg #[.int .i64 s, .int .i64 k, .int .i64 a, .int .i64 f, .bool x], .agg #[.int .i64 y, .int .i64 n, .int .i64 d]] w fun e w' => e = .returned (.bool true) ∧ Below w.heap.size w w' := by
  have hfs := hF.1.1
  clear hF
  have K0 : Bx (((w.alloc (.cells #[.slice T.AS T.nS T.cS, .slice T.AC T.nC T.cC, .slice T.AK T.nK T.cK, .int .i64 T.L, .int .i64 T.W] 26)).alloc (.cells #[.int .i64 s, .int .i64 k, .int .i64 a, .int .i64 f, .bool x] 28)).alloc (.cells #[.int .i64 y, .int .i64 n, .int .i64 d] 30)) (w.heap.size) 26 [.slice T.AS T.nS T.cS, .slice T.AC T.nC T.cC, .slice T.AK T.nK T.cK, .int .i64 T.L, .int .i64 T.W] := ((bx_new w [.slice T.AS T.nS T.cS, .slice T.AC T.nC T.cC, .slice T.AK T.nK T.cK, .int .i64 T.L, .int .i64 T.W] 26).alloc _).alloc _
  have K1 : Bx (((w.alloc (.cells #[.slice T.AS T.nS T.cS, .slice T.AC T.nC T.cC, .slice T.AK T.nK T.cK, .int .i64 T.L, .int .i64 T.W] 26)).alloc (.cells #[.int .i64 s, .int .i64 k, .int .i64 a, .int .i64 f, .bool x] 28)).alloc (.cells #[.int .i64 y, .int .i64 n, .int .i64 d] 30)) (w.heap.size + 1) 28 [.int .i64 s, .int .i64 k, .int .i64 a, .int .i64 f, .bool x] := (bx_at _ [.int .i64 s, .int .i64 k, .int .i64 a, .int .i64 f, .bool x] 28 (by simp)).alloc _
  have K2 : Bx (((w.alloc (.cells #[.slice T.AS T.nS T.cS, .slice T.AC T.nC T.cC, .slice T.AK T.nK T.cK, .int .i64 T.L, .int .i64 T.W] 26)).alloc (.cells #[.int .i64 s, .int .i64 k, .int .i64 a, .int .i64 f, .bool x] 28)).alloc (.cells #[.int .i64 y, .int .i64 n, .int .i64 d] 30)) (w.heap.size + 1 + 1) 30 [.int .i64 y, .int .i64 n, .int .i64 d] := bx_at _ [.int .i64 y, .int .i64 n, .int .i64 d] 30 (by simp)
  have B : Below w.heap.size w (((w.alloc (.cells #[.slice T.AS T.nS T.cS, .slice T.AC T.nC T.cC, .slice T.AK T.nK T.cK, .int .i64 T.L, .int .i64 T.W] 26)).alloc (.cells #[.int .i64 s, .int .i64 k, .int .i64 a, .int .i64 f, .bool x] 28)).alloc (.cells #[.int .i64 y, .int .i64 n, .int .i64 d] 30)) := ((((Below.refl _ _).alloc (Nat.le_refl _) _).alloc (by simp) _).alloc (by simp; omega) _)
  have h := h.below (show Below w.heap.size w (((w.alloc (.cells #[.slice T.AS T.nS T.cS, .slice T.AC T.nC T.cC, .slice T.AK T.nK T.cK, .int .i64 T.L, .int .i64 T.W] 26)).alloc (.cells #[.int .i64 s, .int .i64 k, .int .i64 a, .int .i64 f, .bool x] 28)).alloc (.cells #[.int .i64 y, .int .i64 n, .int .i64 d] 30)) from B)
  have k0_0 := K0.cell (i := 0) rfl
  have k0_1 := K0.cell (i := 1) rfl
  have k0_2 := K0.cell (i := 2) rfl
  have k0_3 := K0.cell (i := 3) rfl
  have k0_4 := K0.cell (i := 4) rfl
  have k1_0 := K1.cell (i := 0) rfl
  have k1_1 := K1.cell (i := 1) rfl
  have k1_2 := K1.cell (i := 2) rfl
  have k1_3 := K1.cell (i := 3) rfl
  have k1_4 := K1.cell (i := 4) rfl
  have k2_0 := K2.cell (i := 0) rfl
  have k2_1 := K2.cell (i := 1) rfl
  have k2_2 := K2.cell (i := 2) rfl
  have du := dues_any (((w.alloc (.cells #[.slice T.AS T.nS T.cS, .slice T.AC T.nC T.cC, .slice T.AK T.nK T.cK, .int .i64 T.L, .int .i64 T.W] 26)).alloc (.cells #[.int .i64 s, .int .i64 k, .int .i64 a, .int .i64 f, .bool x] 28)).alloc (.cells #[.int .i64 y, .int .i64 n, .int .i64 d] 30)) (hK.below B)
  clear hK
  go_enter Tryd.func4, Tryd.ntmps4
  go_wp2_with (fail)
  with_reducible refine (du).mono ?_
  rintro e w1 ⟨rfl, hb⟩
  clear k0_0 k0_1 k0_2 k0_3 k0_4 k1_0 k1_1 k1_2 k1_3 k1_4 k2_0 k2_1 k2_2
  have K0 := K0.below hb
  have K1 := K1.below hb
  have K2 := K2.below hb
  have h := h.below hb
  have B := below_step B hb B.size
  clear hb
  have k0_0 := K0.cell (i := 0) rfl
  have k0_1 := K0.cell (i := 1) rfl
  have k0_2 := K0.cell (i := 2) rfl
  have k0_3 := K0.cell (i := 3) rfl
  have k0_4 := K0.cell (i := 4) rfl
  have k1_0 := K1.cell (i := 0) rfl
  have k1_1 := K1.cell (i := 1) rfl
  have k1_2 := K1.cell (i := 2) rfl
  have k1_3 := K1.cell (i := 3) rfl
  have k1_4 := K1.cell (i := 4) rfl
  have k2_0 := K2.cell (i := 0) rfl
  have k2_1 := K2.cell (i := 1) rfl
  have k2_2 := K2.cell (i := 2) rfl
  go_wp2
  go_ret
  exact ⟨rfl, B⟩
set_option maxRecDepth 100000 in
set_option maxHeartbeats 1000000 in
theorem tr_chk (T : TB) (s k a f : Int) (x : Bool) (y n d : Int) (w : World) (h : Tm w T) (hF : TFits T) (hK : Kinds w) (ha : -9223372036854775808 ≤ a) (ha2 : a ≤ 9223372036854775807) (g : decide (20 < (T.nS : Int)) = false) (g2 : (T.chk != 0) = true) :
    Calls Tryd.prog 4 #[.agg #[.slice T.AS T.nS T.cS, .slice T.AC T.nC T.cC, .slice T.AK T.nK T.cK, .int .i64 T.L, .int .i64 T.W], .agg #[.int .i64 s, .int .i64 k, .int .i64 a, .int .i64 f, .bool x], .agg #[.int .i64 y, .int .i64 n, .int .i64 d]] w fun e w' => e = .returned (.bool true) ∧ Below w.heap.size w w' := by
  have ck := fun w h => check_tab w T h (tsz_of hF)
  rw [show T.v = .agg #[.slice T.AS T.nS T.cS, .slice T.AC T.nC T.cC, .slice T.AK T.nK T.cK, .int .i64 T.L, .int .i64 T.W] from rfl] at ck
  have hfs := hF.1.1
  generalize T.chk = E at *
  clear hF
  have K0 : Bx (((w.alloc (.cells #[.slice T.AS T.nS T.cS, .slice T.AC T.nC T.cC, .slice T.AK T.nK T.cK, .int .i64 T.L, .int .i64 T.W] 26)).alloc (.cells #[.int .i64 s, .int .i64 k, .int .i64 a, .int .i64 f, .bool x] 28)).alloc (.cells #[.int .i64 y, .int .i64 n, .int .i64 d] 30)) (w.heap.size) 26 [.slice T.AS T.nS T.cS, .slice T.AC T.nC T.cC, .slice T.AK T.nK T.cK, .int .i64 T.L, .int .i64 T.W] := ((bx_new w [.slice T.AS T.nS T.cS, .slice T.AC T.nC T.cC, .slice T.AK T.nK T.cK, .int .i64 T.L, .int .i64 T.W] 26).alloc _).alloc _
  have K1 : Bx (((w.alloc (.cells #[.slice T.AS T.nS T.cS, .slice T.AC T.nC T.cC, .slice T.AK T.nK T.cK, .int .i64 T.L, .int .i64 T.W] 26)).alloc (.cells #[.int .i64 s, .int .i64 k, .int .i64 a, .int .i64 f, .bool x] 28)).alloc (.cells #[.int .i64 y, .int .i64 n, .int .i64 d] 30)) (w.heap.size + 1) 28 [.int .i64 s, .int .i64 k, .int .i64 a, .int .i64 f, .bool x] := (bx_at _ [.int .i64 s, .int .i64 k, .int .i64 a, .int .i64 f, .bool x] 28 (by simp)).alloc _
  have K2 : Bx (((w.alloc (.cells #[.slice T.AS T.nS T.cS, .slice T.AC T.nC T.cC, .slice T.AK T.nK T.cK, .int .i64 T.L, .int .i64 T.W] 26)).alloc (.cells #[.int .i64 s, .int .i64 k, .int .i64 a, .int .i64 f, .bool x] 28)).alloc (.cells #[.int .i64 y, .int .i64 n, .int .i64 d] 30)) (w.heap.size + 1 + 1) 30 [.int .i64 y, .int .i64 n, .int .i64 d] := bx_at _ [.int .i64 y, .int .i64 n, .int .i64 d] 30 (by simp)
  have B : Below w.heap.size w (((w.alloc (.cells #[.slice T.AS T.nS T.cS, .slice T.AC T.nC T.cC, .slice T.AK T.nK T.cK, .int .i64 T.L, .int .i64 T.W] 26)).alloc (.cells #[.int .i64 s, .int .i64 k, .int .i64 a, .int .i64 f, .bool x] 28)).alloc (.cells #[.int .i64 y, .int .i64 n, .int .i64 d] 30)) := ((((Below.refl _ _).alloc (Nat.le_refl _) _).alloc (by simp) _).alloc (by simp; omega) _)
  have h := h.below (show Below w.heap.size w (((w.alloc (.cells #[.slice T.AS T.nS T.cS, .slice T.AC T.nC T.cC, .slice T.AK T.nK T.cK, .int .i64 T.L, .int .i64 T.W] 26)).alloc (.cells #[.int .i64 s, .int .i64 k, .int .i64 a, .int .i64 f, .bool x] 28)).alloc (.cells #[.int .i64 y, .int .i64 n, .int .i64 d] 30)) from B)
  have k0_0 := K0.cell (i := 0) rfl
  have k0_1 := K0.cell (i := 1) rfl
  have k0_2 := K0.cell (i := 2) rfl
  have k0_3 := K0.cell (i := 3) rfl
  have k0_4 := K0.cell (i := 4) rfl
  have k1_0 := K1.cell (i := 0) rfl
  have k1_1 := K1.cell (i := 1) rfl
  have k1_2 := K1.cell (i := 2) rfl
  have k1_3 := K1.cell (i := 3) rfl
  have k1_4 := K1.cell (i := 4) rfl
  have k2_0 := K2.cell (i := 0) rfl
  have k2_1 := K2.cell (i := 1) rfl
  have k2_2 := K2.cell (i := 2) rfl
  have du := dues_any (((w.alloc (.cells #[.slice T.AS T.nS T.cS, .slice T.AC T.nC T.cC, .slice T.AK T.nK T.cK, .int .i64 T.L, .int .i64 T.W] 26)).alloc (.cells #[.int .i64 s, .int .i64 k, .int .i64 a, .int .i64 f, .bool x] 28)).alloc (.cells #[.int .i64 y, .int .i64 n, .int .i64 d] 30)) (hK.below B)
  clear hK
  go_enter Tryd.func4, Tryd.ntmps4
  go_wp2_with (fail)
  with_reducible refine (du).mono ?_
  rintro e w1 ⟨rfl, hb⟩
  clear k0_0 k0_1 k0_2 k0_3 k0_4 k1_0 k1_1 k1_2 k1_3 k1_4 k2_0 k2_1 k2_2
  have K0 := K0.below hb
  have K1 := K1.below hb
  have K2 := K2.below hb
  have h := h.below hb
  have B := below_step B hb B.size
  clear hb
  have k0_0 := K0.cell (i := 0) rfl
  have k0_1 := K0.cell (i := 1) rfl
  have k0_2 := K0.cell (i := 2) rfl
  have k0_3 := K0.cell (i := 3) rfl
  have k0_4 := K0.cell (i := 4) rfl
  have k1_0 := K1.cell (i := 0) rfl
  have k1_1 := K1.cell (i := 1) rfl
  have k1_2 := K1.cell (i := 2) rfl
  have k1_3 := K1.cell (i := 3) rfl
  have k1_4 := K1.cell (i := 4) rfl
  have k2_0 := K2.cell (i := 0) rfl
  have k2_1 := K2.cell (i := 1) rfl
  have k2_2 := K2.cell (i := 2) rfl
  go_wp2_with (fail)
  with_reducible refine (ck _ h).mono ?_
  rintro e w2 ⟨rfl, hb⟩
  clear k0_0 k0_1 k0_2 k0_3 k0_4 k1_0 k1_1 k1_2 k1_3 k1_4 k2_0 k2_1 k2_2
  have K0 := K0.below hb
  have K1 := K1.below hb
  have K2 := K2.below hb
  have h := h.below hb
  have B := below_step B hb B.size
  clear hb
  have k0_0 := K0.cell (i := 0) rfl
  have k0_1 := K0.cell (i := 1) rfl
  have k0_2 := K0.cell (i := 2) rfl
  have k0_3 := K0.cell (i := 3) rfl
  have k0_4 := K0.cell (i := 4) rfl
  have k1_0 := K1.cell (i := 0) rfl
  have k1_1 := K1.cell (i := 1) rfl
  have k1_2 := K1.cell (i := 2) rfl
  have k1_3 := K1.cell (i := 3) rfl
  have k1_4 := K1.cell (i := 4) rfl
  have k2_0 := K2.cell (i := 0) rfl
  have k2_1 := K2.cell (i := 1) rfl
  have k2_2 := K2.cell (i := 2) rfl
  go_wp2
  go_ret
  exact ⟨rfl, B⟩
set_option maxRecDepth 100000 in
set_option maxHeartbeats 1000000 in
theorem tr_fits (T : TB) (s k a f : Int) (x : Bool) (y n d : Int) (w : World) (h : Tm w T) (hF : TFits T) (hK : Kinds w) (ha : -9223372036854775808 ≤ a) (ha2 : a ≤ 9223372036854775807) (g : decide (20 < (T.nS : Int)) = false) (g2 : (T.chk != 0) = false) (g4 : (fitsV T s k a f != 0) = true) :
    Calls Tryd.prog 4 #[.agg #[.slice T.AS T.nS T.cS, .slice T.AC T.nC T.cC, .slice T.AK T.nK T.cK, .int .i64 T.L, .int .i64 T.W], .agg #[.int .i64 s, .int .i64 k, .int .i64 a, .int .i64 f, .bool x], .agg #[.int .i64 y, .int .i64 n, .int .i64 d]] w fun e w' => e = .returned (.bool true) ∧ Below w.heap.size w w' := by
  have ck := fun w h => check_tab w T h (tsz_of hF)
  rw [show T.v = .agg #[.slice T.AS T.nS T.cS, .slice T.AC T.nC T.cC, .slice T.AK T.nK T.cK, .int .i64 T.L, .int .i64 T.W] from rfl] at ck
  have hfs := hF.1.1
  have tg : TG T := tg_of (by simpa using g2)
  have g3 : (T.chk != 0) = false := g2
  have ex := fun w h => exact_tab T s k a f x y n d w h tg.z tg.ok ha ha2
  have co := fun w h => corn_tab T s k a f x n d w h tg ha ha2
  have ft := fun w h => fits_tab T s k a f x w h tg.z ha ha2
  have e1 : exactT T s k a f y n d = (0, fitsV T s k a f) := by unfold exactT; rw [if_pos (by simpa using g4)]
  have e2 : cornT T s k a f n d = ([], fitsV T s k a f) := by unfold cornT; rw [if_pos (by simpa using g4)]
  rw [e1] at ex
  rw [e2] at co
  clear e1 e2 tg g2
  generalize T.chk = C at *
  generalize fitsV T s k a f = E at *
  have gE : (E == E) = true := by simp
  clear hF
  have K0 : Bx (((w.alloc (.cells #[.slice T.AS T.nS T.cS, .slice T.AC T.nC T.cC, .slice T.AK T.nK T.cK, .int .i64 T.L, .int .i64 T.W] 26)).alloc (.cells #[.int .i64 s, .int .i64 k, .int .i64 a, .int .i64 f, .bool x] 28)).alloc (.cells #[.int .i64 y, .int .i64 n, .int .i64 d] 30)) (w.heap.size) 26 [.slice T.AS T.nS T.cS, .slice T.AC T.nC T.cC, .slice T.AK T.nK T.cK, .int .i64 T.L, .int .i64 T.W] := ((bx_new w [.slice T.AS T.nS T.cS, .slice T.AC T.nC T.cC, .slice T.AK T.nK T.cK, .int .i64 T.L, .int .i64 T.W] 26).alloc _).alloc _
  have K1 : Bx (((w.alloc (.cells #[.slice T.AS T.nS T.cS, .slice T.AC T.nC T.cC, .slice T.AK T.nK T.cK, .int .i64 T.L, .int .i64 T.W] 26)).alloc (.cells #[.int .i64 s, .int .i64 k, .int .i64 a, .int .i64 f, .bool x] 28)).alloc (.cells #[.int .i64 y, .int .i64 n, .int .i64 d] 30)) (w.heap.size + 1) 28 [.int .i64 s, .int .i64 k, .int .i64 a, .int .i64 f, .bool x] := (bx_at _ [.int .i64 s, .int .i64 k, .int .i64 a, .int .i64 f, .bool x] 28 (by simp)).alloc _
  have K2 : Bx (((w.alloc (.cells #[.slice T.AS T.nS T.cS, .slice T.AC T.nC T.cC, .slice T.AK T.nK T.cK, .int .i64 T.L, .int .i64 T.W] 26)).alloc (.cells #[.int .i64 s, .int .i64 k, .int .i64 a, .int .i64 f, .bool x] 28)).alloc (.cells #[.int .i64 y, .int .i64 n, .int .i64 d] 30)) (w.heap.size + 1 + 1) 30 [.int .i64 y, .int .i64 n, .int .i64 d] := bx_at _ [.int .i64 y, .int .i64 n, .int .i64 d] 30 (by simp)
  have B : Below w.heap.size w (((w.alloc (.cells #[.slice T.AS T.nS T.cS, .slice T.AC T.nC T.cC, .slice T.AK T.nK T.cK, .int .i64 T.L, .int .i64 T.W] 26)).alloc (.cells #[.int .i64 s, .int .i64 k, .int .i64 a, .int .i64 f, .bool x] 28)).alloc (.cells #[.int .i64 y, .int .i64 n, .int .i64 d] 30)) := ((((Below.refl _ _).alloc (Nat.le_refl _) _).alloc (by simp) _).alloc (by simp; omega) _)
  have h := h.below (show Below w.heap.size w (((w.alloc (.cells #[.slice T.AS T.nS T.cS, .slice T.AC T.nC T.cC, .slice T.AK T.nK T.cK, .int .i64 T.L, .int .i64 T.W] 26)).alloc (.cells #[.int .i64 s, .int .i64 k, .int .i64 a, .int .i64 f, .bool x] 28)).alloc (.cells #[.int .i64 y, .int .i64 n, .int .i64 d] 30)) from B)
  have k0_0 := K0.cell (i := 0) rfl
  have k0_1 := K0.cell (i := 1) rfl
  have k0_2 := K0.cell (i := 2) rfl
  have k0_3 := K0.cell (i := 3) rfl
  have k0_4 := K0.cell (i := 4) rfl
  have k1_0 := K1.cell (i := 0) rfl
  have k1_1 := K1.cell (i := 1) rfl
  have k1_2 := K1.cell (i := 2) rfl
  have k1_3 := K1.cell (i := 3) rfl
  have k1_4 := K1.cell (i := 4) rfl
  have k2_0 := K2.cell (i := 0) rfl
  have k2_1 := K2.cell (i := 1) rfl
  have k2_2 := K2.cell (i := 2) rfl
  have du := dues_any (((w.alloc (.cells #[.slice T.AS T.nS T.cS, .slice T.AC T.nC T.cC, .slice T.AK T.nK T.cK, .int .i64 T.L, .int .i64 T.W] 26)).alloc (.cells #[.int .i64 s, .int .i64 k, .int .i64 a, .int .i64 f, .bool x] 28)).alloc (.cells #[.int .i64 y, .int .i64 n, .int .i64 d] 30)) (hK.below B)
  clear hK
  go_enter Tryd.func4, Tryd.ntmps4
  go_wp2_with (fail)
  with_reducible refine (du).mono ?_
  rintro e w1 ⟨rfl, hb⟩
  clear k0_0 k0_1 k0_2 k0_3 k0_4 k1_0 k1_1 k1_2 k1_3 k1_4 k2_0 k2_1 k2_2
  have K0 := K0.below hb
  have K1 := K1.below hb
  have K2 := K2.below hb
  have h := h.below hb
  have B := below_step B hb B.size
  clear hb
  have k0_0 := K0.cell (i := 0) rfl
  have k0_1 := K0.cell (i := 1) rfl
  have k0_2 := K0.cell (i := 2) rfl
  have k0_3 := K0.cell (i := 3) rfl
  have k0_4 := K0.cell (i := 4) rfl
  have k1_0 := K1.cell (i := 0) rfl
  have k1_1 := K1.cell (i := 1) rfl
  have k1_2 := K1.cell (i := 2) rfl
  have k1_3 := K1.cell (i := 3) rfl
  have k1_4 := K1.cell (i := 4) rfl
  have k2_0 := K2.cell (i := 0) rfl
  have k2_1 := K2.cell (i := 1) rfl
  have k2_2 := K2.cell (i := 2) rfl
  go_wp2_with (fail)
  with_reducible refine (ck _ h).mono ?_
  rintro e w2 ⟨rfl, hb⟩
  clear k0_0 k0_1 k0_2 k0_3 k0_4 k1_0 k1_1 k1_2 k1_3 k1_4 k2_0 k2_1 k2_2
  have K0 := K0.below hb
  have K1 := K1.below hb
  have K2 := K2.below hb
  have h := h.below hb
  have B := below_step B hb B.size
  clear hb
  have k0_0 := K0.cell (i := 0) rfl
  have k0_1 := K0.cell (i := 1) rfl
  have k0_2 := K0.cell (i := 2) rfl
  have k0_3 := K0.cell (i := 3) rfl
  have k0_4 := K0.cell (i := 4) rfl
  have k1_0 := K1.cell (i := 0) rfl
  have k1_1 := K1.cell (i := 1) rfl
  have k1_2 := K1.cell (i := 2) rfl
  have k1_3 := K1.cell (i := 3) rfl
  have k1_4 := K1.cell (i := 4) rfl
  have k2_0 := K2.cell (i := 0) rfl
  have k2_1 := K2.cell (i := 1) rfl
  have k2_2 := K2.cell (i := 2) rfl
  go_wp2_with (fail)
  with_reducible refine (ex _ h.s).mono ?_
  rintro e w3 ⟨rfl, hb⟩
  clear k0_0 k0_1 k0_2 k0_3 k0_4 k1_0 k1_1 k1_2 k1_3 k1_4 k2_0 k2_1 k2_2
  have K0 := K0.below hb
  have K1 := K1.below hb
  have K2 := K2.below hb
  have h := h.below hb
  have B := below_step B hb B.size
  clear hb
  have k0_0 := K0.cell (i := 0) rfl
  have k0_1 := K0.cell (i := 1) rfl
  have k0_2 := K0.cell (i := 2) rfl
  have k0_3 := K0.cell (i := 3) rfl
  have k0_4 := K0.cell (i := 4) rfl
  have k1_0 := K1.cell (i := 0) rfl
  have k1_1 := K1.cell (i := 1) rfl
  have k1_2 := K1.cell (i := 2) rfl
  have k1_3 := K1.cell (i := 3) rfl
  have k1_4 := K1.cell (i := 4) rfl
  have k2_0 := K2.cell (i := 0) rfl
  have k2_1 := K2.cell (i := 1) rfl
  have k2_2 := K2.cell (i := 2) rfl
  go_wp2_with (fail)
  with_reducible refine (co _ h.s).mono ?_
  rintro e w4 ⟨v, rfl, hv, hb⟩
  clear k0_0 k0_1 k0_2 k0_3 k0_4 k1_0 k1_1 k1_2 k1_3 k1_4 k2_0 k2_1 k2_2
  have K0 := K0.below hb
  have K1 := K1.below hb
  have K2 := K2.below hb
  have h := h.below hb
  have B := below_step B hb B.size
  clear hb
  have k0_0 := K0.cell (i := 0) rfl
  have k0_1 := K0.cell (i := 1) rfl
  have k0_2 := K0.cell (i := 2) rfl
  have k0_3 := K0.cell (i := 3) rfl
  have k0_4 := K0.cell (i := 4) rfl
  have k1_0 := K1.cell (i := 0) rfl
  have k1_1 := K1.cell (i := 1) rfl
  have k1_2 := K1.cell (i := 2) rfl
  have k1_3 := K1.cell (i := 3) rfl
  have k1_4 := K1.cell (i := 4) rfl
  have k2_0 := K2.cell (i := 0) rfl
  have k2_1 := K2.cell (i := 1) rfl
  have k2_2 := K2.cell (i := 2) rfl
  obtain ⟨vA, vc, rfl⟩ : ∃ A c, v = .slice A 0 c := by
    rcases iw_cell hv with ⟨_, h1⟩ | ⟨g, c, h1, _⟩
    · exact ⟨none, 0, h1⟩
    · exact ⟨_, c, h1⟩
  clear hv
  go_wp2_with (fail)
  with_reducible refine (ft _ h.s).mono ?_
  rintro e w5 ⟨rfl, hb⟩
  clear k0_0 k0_1 k0_2 k0_3 k0_4 k1_0 k1_1 k1_2 k1_3 k1_4 k2_0 k2_1 k2_2
  have K0 := K0.below hb
  have K1 := K1.below hb
  have K2 := K2.below hb
  have h := h.below hb
  have B := below_step B hb B.size
  clear hb
  have k0_0 := K0.cell (i := 0) rfl
  have k0_1 := K0.cell (i := 1) rfl
  have k0_2 := K0.cell (i := 2) rfl
  have k0_3 := K0.cell (i := 3) rfl
  have k0_4 := K0.cell (i := 4) rfl
  have k1_0 := K1.cell (i := 0) rfl
  have k1_1 := K1.cell (i := 1) rfl
  have k1_2 := K1.cell (i := 2) rfl
  have k1_3 := K1.cell (i := 3) rfl
  have k1_4 := K1.cell (i := 4) rfl
  have k2_0 := K2.cell (i := 0) rfl
  have k2_1 := K2.cell (i := 1) rfl
  have k2_2 := K2.cell (i := 2) rfl
  go_wp2
  go_ret
  exact ⟨rfl, B⟩
set_option maxRecDepth 100000 in
set_option maxHeartbeats 1000000 in
theorem tr_rng_a (T : TB) (s k a f : Int) (x : Bool) (y n d : Int) (w : World) (h : Tm w T) (hF : TFits T) (hK : Kinds w) (ha : -9223372036854775808 ≤ a) (ha2 : a ≤ 9223372036854775807) (g : decide (20 < (T.nS : Int)) = false) (g2 : (T.chk != 0) = false) (g4 : fitsV T s k a f = 0) (r0 : n < 0) :
    Calls Tryd.prog 4 #[.agg #[.slice T.AS T.nS T.cS, .slice T.AC T.nC T.cC, .slice T.AK T.nK T.cK, .int .i64 T.L, .int .i64 T.W], .agg #[.int .i64 s, .int .i64 k, .int .i64 a, .int .i64 f, .bool x], .agg #[.int .i64 y, .int .i64 n, .int .i64 d]] w fun e w' => e = .returned (.bool true) ∧ Below w.heap.size w w' := by
  have ck := fun w h => check_tab w T h (tsz_of hF)
  rw [show T.v = .agg #[.slice T.AS T.nS T.cS, .slice T.AC T.nC T.cC, .slice T.AK T.nK T.cK, .int .i64 T.L, .int .i64 T.W] from rfl] at ck
  have hfs := hF.1.1
  have tg : TG T := tg_of (by simpa using g2)
  have g3 : (T.chk != 0) = false := g2
  have ex := fun w h => exact_tab T s k a f x y n d w h tg.z tg.ok ha ha2
  have co := fun w h => corn_tab T s k a f x n d w h tg ha ha2
  have ft := fun w h => fits_tab T s k a f x w h tg.z ha ha2
  have rg : n < 0 ∨ d < n ∨ d < 1 ∨ 1048576 < d := by omega
  have q0 : decide (n < 0) = true := by simpa using r0
  have g5 : (fitsV T s k a f != 0) = false := by simpa using g4
  have e0 : freeV s k a f n d = (0, 1) := freeV_range (fitsV_zero (by simpa using g4)).c rg
  have e3 : chargeV s k a f y n d = (0, 1) := chargeV_free e0 (by decide)
  have e1 : exactT T s k a f y n d = (0, 1) := by unfold exactT; rw [if_neg (by simpa using g4), e3]; rfl
  have e2 : cornT T s k a f n d = ([], 1) := by unfold cornT; rw [if_neg (by simpa using g4), e0]; rfl
  rw [e1] at ex
  rw [e2] at co
  clear e0 e1 e2 e3 tg g2 rg
  generalize T.chk = C at *
  generalize fitsV T s k a f = E at *
  clear hF
  have K0 : Bx (((w.alloc (.cells #[.slice T.AS T.nS T.cS, .slice T.AC T.nC T.cC, .slice T.AK T.nK T.cK, .int .i64 T.L, .int .i64 T.W] 26)).alloc (.cells #[.int .i64 s, .int .i64 k, .int .i64 a, .int .i64 f, .bool x] 28)).alloc (.cells #[.int .i64 y, .int .i64 n, .int .i64 d] 30)) (w.heap.size) 26 [.slice T.AS T.nS T.cS, .slice T.AC T.nC T.cC, .slice T.AK T.nK T.cK, .int .i64 T.L, .int .i64 T.W] := ((bx_new w [.slice T.AS T.nS T.cS, .slice T.AC T.nC T.cC, .slice T.AK T.nK T.cK, .int .i64 T.L, .int .i64 T.W] 26).alloc _).alloc _
  have K1 : Bx (((w.alloc (.cells #[.slice T.AS T.nS T.cS, .slice T.AC T.nC T.cC, .slice T.AK T.nK T.cK, .int .i64 T.L, .int .i64 T.W] 26)).alloc (.cells #[.int .i64 s, .int .i64 k, .int .i64 a, .int .i64 f, .bool x] 28)).alloc (.cells #[.int .i64 y, .int .i64 n, .int .i64 d] 30)) (w.heap.size + 1) 28 [.int .i64 s, .int .i64 k, .int .i64 a, .int .i64 f, .bool x] := (bx_at _ [.int .i64 s, .int .i64 k, .int .i64 a, .int .i64 f, .bool x] 28 (by simp)).alloc _
  have K2 : Bx (((w.alloc (.cells #[.slice T.AS T.nS T.cS, .slice T.AC T.nC T.cC, .slice T.AK T.nK T.cK, .int .i64 T.L, .int .i64 T.W] 26)).alloc (.cells #[.int .i64 s, .int .i64 k, .int .i64 a, .int .i64 f, .bool x] 28)).alloc (.cells #[.int .i64 y, .int .i64 n, .int .i64 d] 30)) (w.heap.size + 1 + 1) 30 [.int .i64 y, .int .i64 n, .int .i64 d] := bx_at _ [.int .i64 y, .int .i64 n, .int .i64 d] 30 (by simp)
  have B : Below w.heap.size w (((w.alloc (.cells #[.slice T.AS T.nS T.cS, .slice T.AC T.nC T.cC, .slice T.AK T.nK T.cK, .int .i64 T.L, .int .i64 T.W] 26)).alloc (.cells #[.int .i64 s, .int .i64 k, .int .i64 a, .int .i64 f, .bool x] 28)).alloc (.cells #[.int .i64 y, .int .i64 n, .int .i64 d] 30)) := ((((Below.refl _ _).alloc (Nat.le_refl _) _).alloc (by simp) _).alloc (by simp; omega) _)
  have h := h.below (show Below w.heap.size w (((w.alloc (.cells #[.slice T.AS T.nS T.cS, .slice T.AC T.nC T.cC, .slice T.AK T.nK T.cK, .int .i64 T.L, .int .i64 T.W] 26)).alloc (.cells #[.int .i64 s, .int .i64 k, .int .i64 a, .int .i64 f, .bool x] 28)).alloc (.cells #[.int .i64 y, .int .i64 n, .int .i64 d] 30)) from B)
  have k0_0 := K0.cell (i := 0) rfl
  have k0_1 := K0.cell (i := 1) rfl
  have k0_2 := K0.cell (i := 2) rfl
  have k0_3 := K0.cell (i := 3) rfl
  have k0_4 := K0.cell (i := 4) rfl
  have k1_0 := K1.cell (i := 0) rfl
  have k1_1 := K1.cell (i := 1) rfl
  have k1_2 := K1.cell (i := 2) rfl
  have k1_3 := K1.cell (i := 3) rfl
  have k1_4 := K1.cell (i := 4) rfl
  have k2_0 := K2.cell (i := 0) rfl
  have k2_1 := K2.cell (i := 1) rfl
  have k2_2 := K2.cell (i := 2) rfl
  have du := dues_any (((w.alloc (.cells #[.slice T.AS T.nS T.cS, .slice T.AC T.nC T.cC, .slice T.AK T.nK T.cK, .int .i64 T.L, .int .i64 T.W] 26)).alloc (.cells #[.int .i64 s, .int .i64 k, .int .i64 a, .int .i64 f, .bool x] 28)).alloc (.cells #[.int .i64 y, .int .i64 n, .int .i64 d] 30)) (hK.below B)
  clear hK
  go_enter Tryd.func4, Tryd.ntmps4
  go_wp2_with (fail)
  with_reducible refine (du).mono ?_
  rintro e w1 ⟨rfl, hb⟩
  clear k0_0 k0_1 k0_2 k0_3 k0_4 k1_0 k1_1 k1_2 k1_3 k1_4 k2_0 k2_1 k2_2
  have K0 := K0.below hb
  have K1 := K1.below hb
  have K2 := K2.below hb
  have h := h.below hb
  have B := below_step B hb B.size
  clear hb
  have k0_0 := K0.cell (i := 0) rfl
  have k0_1 := K0.cell (i := 1) rfl
  have k0_2 := K0.cell (i := 2) rfl
  have k0_3 := K0.cell (i := 3) rfl
  have k0_4 := K0.cell (i := 4) rfl
  have k1_0 := K1.cell (i := 0) rfl
  have k1_1 := K1.cell (i := 1) rfl
  have k1_2 := K1.cell (i := 2) rfl
  have k1_3 := K1.cell (i := 3) rfl
  have k1_4 := K1.cell (i := 4) rfl
  have k2_0 := K2.cell (i := 0) rfl
  have k2_1 := K2.cell (i := 1) rfl
  have k2_2 := K2.cell (i := 2) rfl
  go_wp2_with (fail)
  with_reducible refine (ck _ h).mono ?_
  rintro e w2 ⟨rfl, hb⟩
  clear k0_0 k0_1 k0_2 k0_3 k0_4 k1_0 k1_1 k1_2 k1_3 k1_4 k2_0 k2_1 k2_2
  have K0 := K0.below hb
  have K1 := K1.below hb
  have K2 := K2.below hb
  have h := h.below hb
  have B := below_step B hb B.size
  clear hb
  have k0_0 := K0.cell (i := 0) rfl
  have k0_1 := K0.cell (i := 1) rfl
  have k0_2 := K0.cell (i := 2) rfl
  have k0_3 := K0.cell (i := 3) rfl
  have k0_4 := K0.cell (i := 4) rfl
  have k1_0 := K1.cell (i := 0) rfl
  have k1_1 := K1.cell (i := 1) rfl
  have k1_2 := K1.cell (i := 2) rfl
  have k1_3 := K1.cell (i := 3) rfl
  have k1_4 := K1.cell (i := 4) rfl
  have k2_0 := K2.cell (i := 0) rfl
  have k2_1 := K2.cell (i := 1) rfl
  have k2_2 := K2.cell (i := 2) rfl
  go_wp2_with (fail)
  with_reducible refine (ex _ h.s).mono ?_
  rintro e w3 ⟨rfl, hb⟩
  clear k0_0 k0_1 k0_2 k0_3 k0_4 k1_0 k1_1 k1_2 k1_3 k1_4 k2_0 k2_1 k2_2
  have K0 := K0.below hb
  have K1 := K1.below hb
  have K2 := K2.below hb
  have h := h.below hb
  have B := below_step B hb B.size
  clear hb
  have k0_0 := K0.cell (i := 0) rfl
  have k0_1 := K0.cell (i := 1) rfl
  have k0_2 := K0.cell (i := 2) rfl
  have k0_3 := K0.cell (i := 3) rfl
  have k0_4 := K0.cell (i := 4) rfl
  have k1_0 := K1.cell (i := 0) rfl
  have k1_1 := K1.cell (i := 1) rfl
  have k1_2 := K1.cell (i := 2) rfl
  have k1_3 := K1.cell (i := 3) rfl
  have k1_4 := K1.cell (i := 4) rfl
  have k2_0 := K2.cell (i := 0) rfl
  have k2_1 := K2.cell (i := 1) rfl
  have k2_2 := K2.cell (i := 2) rfl
  go_wp2_with (fail)
  with_reducible refine (co _ h.s).mono ?_
  rintro e w4 ⟨v, rfl, hv, hb⟩
  clear k0_0 k0_1 k0_2 k0_3 k0_4 k1_0 k1_1 k1_2 k1_3 k1_4 k2_0 k2_1 k2_2
  have K0 := K0.below hb
  have K1 := K1.below hb
  have K2 := K2.below hb
  have h := h.below hb
  have B := below_step B hb B.size
  clear hb
  have k0_0 := K0.cell (i := 0) rfl
  have k0_1 := K0.cell (i := 1) rfl
  have k0_2 := K0.cell (i := 2) rfl
  have k0_3 := K0.cell (i := 3) rfl
  have k0_4 := K0.cell (i := 4) rfl
  have k1_0 := K1.cell (i := 0) rfl
  have k1_1 := K1.cell (i := 1) rfl
  have k1_2 := K1.cell (i := 2) rfl
  have k1_3 := K1.cell (i := 3) rfl
  have k1_4 := K1.cell (i := 4) rfl
  have k2_0 := K2.cell (i := 0) rfl
  have k2_1 := K2.cell (i := 1) rfl
  have k2_2 := K2.cell (i := 2) rfl
  obtain ⟨vA, vc, rfl⟩ : ∃ A c, v = .slice A 0 c := by
    rcases iw_cell hv with ⟨_, h1⟩ | ⟨g, c, h1, _⟩
    · exact ⟨none, 0, h1⟩
    · exact ⟨_, c, h1⟩
  clear hv
  go_wp2_with (fail)
  with_reducible refine (ft _ h.s).mono ?_
  rintro e w5 ⟨rfl, hb⟩
  clear k0_0 k0_1 k0_2 k0_3 k0_4 k1_0 k1_1 k1_2 k1_3 k1_4 k2_0 k2_1 k2_2
  have K0 := K0.below hb
  have K1 := K1.below hb
  have K2 := K2.below hb
  have h := h.below hb
  have B := below_step B hb B.size
  clear hb
  have k0_0 := K0.cell (i := 0) rfl
  have k0_1 := K0.cell (i := 1) rfl
  have k0_2 := K0.cell (i := 2) rfl
  have k0_3 := K0.cell (i := 3) rfl
  have k0_4 := K0.cell (i := 4) rfl
  have k1_0 := K1.cell (i := 0) rfl
  have k1_1 := K1.cell (i := 1) rfl
  have k1_2 := K1.cell (i := 2) rfl
  have k1_3 := K1.cell (i := 3) rfl
  have k1_4 := K1.cell (i := 4) rfl
  have k2_0 := K2.cell (i := 0) rfl
  have k2_1 := K2.cell (i := 1) rfl
  have k2_2 := K2.cell (i := 2) rfl
  go_wp2
  go_ret
  exact ⟨rfl, B⟩
set_option maxRecDepth 100000 in
set_option maxHeartbeats 1000000 in
theorem tr_rng_b (T : TB) (s k a f : Int) (x : Bool) (y n d : Int) (w : World) (h : Tm w T) (hF : TFits T) (hK : Kinds w) (ha : -9223372036854775808 ≤ a) (ha2 : a ≤ 9223372036854775807) (g : decide (20 < (T.nS : Int)) = false) (g2 : (T.chk != 0) = false) (g4 : fitsV T s k a f = 0) (r0 : 0 ≤ n) (r1 : d < 1) :
    Calls Tryd.prog 4 #[.agg #[.slice T.AS T.nS T.cS, .slice T.AC T.nC T.cC, .slice T.AK T.nK T.cK, .int .i64 T.L, .int .i64 T.W], .agg #[.int .i64 s, .int .i64 k, .int .i64 a, .int .i64 f, .bool x], .agg #[.int .i64 y, .int .i64 n, .int .i64 d]] w fun e w' => e = .returned (.bool true) ∧ Below w.heap.size w w' := by
  have ck := fun w h => check_tab w T h (tsz_of hF)
  rw [show T.v = .agg #[.slice T.AS T.nS T.cS, .slice T.AC T.nC T.cC, .slice T.AK T.nK T.cK, .int .i64 T.L, .int .i64 T.W] from rfl] at ck
  have hfs := hF.1.1
  have tg : TG T := tg_of (by simpa using g2)
  have g3 : (T.chk != 0) = false := g2
  have ex := fun w h => exact_tab T s k a f x y n d w h tg.z tg.ok ha ha2
  have co := fun w h => corn_tab T s k a f x n d w h tg ha ha2
  have ft := fun w h => fits_tab T s k a f x w h tg.z ha ha2
  have rg : n < 0 ∨ d < n ∨ d < 1 ∨ 1048576 < d := by omega
  have q0 : decide (n < 0) = false := by simp; omega
  have q1 : decide (d < 1) = true := by simpa using r1
  have g5 : (fitsV T s k a f != 0) = false := by simpa using g4
  have e0 : freeV s k a f n d = (0, 1) := freeV_range (fitsV_zero (by simpa using g4)).c rg
  have e3 : chargeV s k a f y n d = (0, 1) := chargeV_free e0 (by decide)
  have e1 : exactT T s k a f y n d = (0, 1) := by unfold exactT; rw [if_neg (by simpa using g4), e3]; rfl
  have e2 : cornT T s k a f n d = ([], 1) := by unfold cornT; rw [if_neg (by simpa using g4), e0]; rfl
  rw [e1] at ex
  rw [e2] at co
  clear e0 e1 e2 e3 tg g2 rg
  generalize T.chk = C at *
  generalize fitsV T s k a f = E at *
  clear hF
  have K0 : Bx (((w.alloc (.cells #[.slice T.AS T.nS T.cS, .slice T.AC T.nC T.cC, .slice T.AK T.nK T.cK, .int .i64 T.L, .int .i64 T.W] 26)).alloc (.cells #[.int .i64 s, .int .i64 k, .int .i64 a, .int .i64 f, .bool x] 28)).alloc (.cells #[.int .i64 y, .int .i64 n, .int .i64 d] 30)) (w.heap.size) 26 [.slice T.AS T.nS T.cS, .slice T.AC T.nC T.cC, .slice T.AK T.nK T.cK, .int .i64 T.L, .int .i64 T.W] := ((bx_new w [.slice T.AS T.nS T.cS, .slice T.AC T.nC T.cC, .slice T.AK T.nK T.cK, .int .i64 T.L, .int .i64 T.W] 26).alloc _).alloc _
  have K1 : Bx (((w.alloc (.cells #[.slice T.AS T.nS T.cS, .slice T.AC T.nC T.cC, .slice T.AK T.nK T.cK, .int .i64 T.L, .int .i64 T.W] 26)).alloc (.cells #[.int .i64 s, .int .i64 k, .int .i64 a, .int .i64 f, .bool x] 28)).alloc (.cells #[.int .i64 y, .int .i64 n, .int .i64 d] 30)) (w.heap.size + 1) 28 [.int .i64 s, .int .i64 k, .int .i64 a, .int .i64 f, .bool x] := (bx_at _ [.int .i64 s, .int .i64 k, .int .i64 a, .int .i64 f, .bool x] 28 (by simp)).alloc _
  have K2 : Bx (((w.alloc (.cells #[.slice T.AS T.nS T.cS, .slice T.AC T.nC T.cC, .slice T.AK T.nK T.cK, .int .i64 T.L, .int .i64 T.W] 26)).alloc (.cells #[.int .i64 s, .int .i64 k, .int .i64 a, .int .i64 f, .bool x] 28)).alloc (.cells #[.int .i64 y, .int .i64 n, .int .i64 d] 30)) (w.heap.size + 1 + 1) 30 [.int .i64 y, .int .i64 n, .int .i64 d] := bx_at _ [.int .i64 y, .int .i64 n, .int .i64 d] 30 (by simp)
  have B : Below w.heap.size w (((w.alloc (.cells #[.slice T.AS T.nS T.cS, .slice T.AC T.nC T.cC, .slice T.AK T.nK T.cK, .int .i64 T.L, .int .i64 T.W] 26)).alloc (.cells #[.int .i64 s, .int .i64 k, .int .i64 a, .int .i64 f, .bool x] 28)).alloc (.cells #[.int .i64 y, .int .i64 n, .int .i64 d] 30)) := ((((Below.refl _ _).alloc (Nat.le_refl _) _).alloc (by simp) _).alloc (by simp; omega) _)
  have h := h.below (show Below w.heap.size w (((w.alloc (.cells #[.slice T.AS T.nS T.cS, .slice T.AC T.nC T.cC, .slice T.AK T.nK T.cK, .int .i64 T.L, .int .i64 T.W] 26)).alloc (.cells #[.int .i64 s, .int .i64 k, .int .i64 a, .int .i64 f, .bool x] 28)).alloc (.cells #[.int .i64 y, .int .i64 n, .int .i64 d] 30)) from B)
  have k0_0 := K0.cell (i := 0) rfl
  have k0_1 := K0.cell (i := 1) rfl
  have k0_2 := K0.cell (i := 2) rfl
  have k0_3 := K0.cell (i := 3) rfl
  have k0_4 := K0.cell (i := 4) rfl
  have k1_0 := K1.cell (i := 0) rfl
  have k1_1 := K1.cell (i := 1) rfl
  have k1_2 := K1.cell (i := 2) rfl
  have k1_3 := K1.cell (i := 3) rfl
  have k1_4 := K1.cell (i := 4) rfl
  have k2_0 := K2.cell (i := 0) rfl
  have k2_1 := K2.cell (i := 1) rfl
  have k2_2 := K2.cell (i := 2) rfl
  have du := dues_any (((w.alloc (.cells #[.slice T.AS T.nS T.cS, .slice T.AC T.nC T.cC, .slice T.AK T.nK T.cK, .int .i64 T.L, .int .i64 T.W] 26)).alloc (.cells #[.int .i64 s, .int .i64 k, .int .i64 a, .int .i64 f, .bool x] 28)).alloc (.cells #[.int .i64 y, .int .i64 n, .int .i64 d] 30)) (hK.below B)
  clear hK
  go_enter Tryd.func4, Tryd.ntmps4
  go_wp2_with (fail)
  with_reducible refine (du).mono ?_
  rintro e w1 ⟨rfl, hb⟩
  clear k0_0 k0_1 k0_2 k0_3 k0_4 k1_0 k1_1 k1_2 k1_3 k1_4 k2_0 k2_1 k2_2
  have K0 := K0.below hb
  have K1 := K1.below hb
  have K2 := K2.below hb
  have h := h.below hb
  have B := below_step B hb B.size
  clear hb
  have k0_0 := K0.cell (i := 0) rfl
  have k0_1 := K0.cell (i := 1) rfl
  have k0_2 := K0.cell (i := 2) rfl
  have k0_3 := K0.cell (i := 3) rfl
  have k0_4 := K0.cell (i := 4) rfl
  have k1_0 := K1.cell (i := 0) rfl
  have k1_1 := K1.cell (i := 1) rfl
  have k1_2 := K1.cell (i := 2) rfl
  have k1_3 := K1.cell (i := 3) rfl
  have k1_4 := K1.cell (i := 4) rfl
  have k2_0 := K2.cell (i := 0) rfl
  have k2_1 := K2.cell (i := 1) rfl
  have k2_2 := K2.cell (i := 2) rfl
  go_wp2_with (fail)
  with_reducible refine (ck _ h).mono ?_
  rintro e w2 ⟨rfl, hb⟩
  clear k0_0 k0_1 k0_2 k0_3 k0_4 k1_0 k1_1 k1_2 k1_3 k1_4 k2_0 k2_1 k2_2
  have K0 := K0.below hb
  have K1 := K1.below hb
  have K2 := K2.below hb
  have h := h.below hb
  have B := below_step B hb B.size
  clear hb
  have k0_0 := K0.cell (i := 0) rfl
  have k0_1 := K0.cell (i := 1) rfl
  have k0_2 := K0.cell (i := 2) rfl
  have k0_3 := K0.cell (i := 3) rfl
  have k0_4 := K0.cell (i := 4) rfl
  have k1_0 := K1.cell (i := 0) rfl
  have k1_1 := K1.cell (i := 1) rfl
  have k1_2 := K1.cell (i := 2) rfl
  have k1_3 := K1.cell (i := 3) rfl
  have k1_4 := K1.cell (i := 4) rfl
  have k2_0 := K2.cell (i := 0) rfl
  have k2_1 := K2.cell (i := 1) rfl
  have k2_2 := K2.cell (i := 2) rfl
  go_wp2_with (fail)
  with_reducible refine (ex _ h.s).mono ?_
  rintro e w3 ⟨rfl, hb⟩
  clear k0_0 k0_1 k0_2 k0_3 k0_4 k1_0 k1_1 k1_2 k1_3 k1_4 k2_0 k2_1 k2_2
  have K0 := K0.below hb
  have K1 := K1.below hb
  have K2 := K2.below hb
  have h := h.below hb
  have B := below_step B hb B.size
  clear hb
  have k0_0 := K0.cell (i := 0) rfl
  have k0_1 := K0.cell (i := 1) rfl
  have k0_2 := K0.cell (i := 2) rfl
  have k0_3 := K0.cell (i := 3) rfl
  have k0_4 := K0.cell (i := 4) rfl
  have k1_0 := K1.cell (i := 0) rfl
  have k1_1 := K1.cell (i := 1) rfl
  have k1_2 := K1.cell (i := 2) rfl
  have k1_3 := K1.cell (i := 3) rfl
  have k1_4 := K1.cell (i := 4) rfl
  have k2_0 := K2.cell (i := 0) rfl
  have k2_1 := K2.cell (i := 1) rfl
  have k2_2 := K2.cell (i := 2) rfl
  go_wp2_with (fail)
  with_reducible refine (co _ h.s).mono ?_
  rintro e w4 ⟨v, rfl, hv, hb⟩
  clear k0_0 k0_1 k0_2 k0_3 k0_4 k1_0 k1_1 k1_2 k1_3 k1_4 k2_0 k2_1 k2_2
  have K0 := K0.below hb
  have K1 := K1.below hb
  have K2 := K2.below hb
  have h := h.below hb
  have B := below_step B hb B.size
  clear hb
  have k0_0 := K0.cell (i := 0) rfl
  have k0_1 := K0.cell (i := 1) rfl
  have k0_2 := K0.cell (i := 2) rfl
  have k0_3 := K0.cell (i := 3) rfl
  have k0_4 := K0.cell (i := 4) rfl
  have k1_0 := K1.cell (i := 0) rfl
  have k1_1 := K1.cell (i := 1) rfl
  have k1_2 := K1.cell (i := 2) rfl
  have k1_3 := K1.cell (i := 3) rfl
  have k1_4 := K1.cell (i := 4) rfl
  have k2_0 := K2.cell (i := 0) rfl
  have k2_1 := K2.cell (i := 1) rfl
  have k2_2 := K2.cell (i := 2) rfl
  obtain ⟨vA, vc, rfl⟩ : ∃ A c, v = .slice A 0 c := by
    rcases iw_cell hv with ⟨_, h1⟩ | ⟨g, c, h1, _⟩
    · exact ⟨none, 0, h1⟩
    · exact ⟨_, c, h1⟩
  clear hv
  go_wp2_with (fail)
  with_reducible refine (ft _ h.s).mono ?_
  rintro e w5 ⟨rfl, hb⟩
  clear k0_0 k0_1 k0_2 k0_3 k0_4 k1_0 k1_1 k1_2 k1_3 k1_4 k2_0 k2_1 k2_2
  have K0 := K0.below hb
  have K1 := K1.below hb
  have K2 := K2.below hb
  have h := h.below hb
  have B := below_step B hb B.size
  clear hb
  have k0_0 := K0.cell (i := 0) rfl
  have k0_1 := K0.cell (i := 1) rfl
  have k0_2 := K0.cell (i := 2) rfl
  have k0_3 := K0.cell (i := 3) rfl
  have k0_4 := K0.cell (i := 4) rfl
  have k1_0 := K1.cell (i := 0) rfl
  have k1_1 := K1.cell (i := 1) rfl
  have k1_2 := K1.cell (i := 2) rfl
  have k1_3 := K1.cell (i := 3) rfl
  have k1_4 := K1.cell (i := 4) rfl
  have k2_0 := K2.cell (i := 0) rfl
  have k2_1 := K2.cell (i := 1) rfl
  have k2_2 := K2.cell (i := 2) rfl
  go_wp2
  go_ret
  exact ⟨rfl, B⟩
set_option maxRecDepth 100000 in
set_option maxHeartbeats 1000000 in
theorem tr_rng_c (T : TB) (s k a f : Int) (x : Bool) (y n d : Int) (w : World) (h : Tm w T) (hF : TFits T) (hK : Kinds w) (ha : -9223372036854775808 ≤ a) (ha2 : a ≤ 9223372036854775807) (g : decide (20 < (T.nS : Int)) = false) (g2 : (T.chk != 0) = false) (g4 : fitsV T s k a f = 0) (r0 : 0 ≤ n) (r1 : 1 ≤ d) (r2 : d < n) :
    Calls Tryd.prog 4 #[.agg #[.slice T.AS T.nS T.cS, .slice T.AC T.nC T.cC, .slice T.AK T.nK T.cK, .int .i64 T.L, .int .i64 T.W], .agg #[.int .i64 s, .int .i64 k, .int .i64 a, .int .i64 f, .bool x], .agg #[.int .i64 y, .int .i64 n, .int .i64 d]] w fun e w' => e = .returned (.bool true) ∧ Below w.heap.size w w' := by
  have ck := fun w h => check_tab w T h (tsz_of hF)
  rw [show T.v = .agg #[.slice T.AS T.nS T.cS, .slice T.AC T.nC T.cC, .slice T.AK T.nK T.cK, .int .i64 T.L, .int .i64 T.W] from rfl] at ck
  have hfs := hF.1.1
  have tg : TG T := tg_of (by simpa using g2)
  have g3 : (T.chk != 0) = false := g2
  have ex := fun w h => exact_tab T s k a f x y n d w h tg.z tg.ok ha ha2
  have co := fun w h => corn_tab T s k a f x n d w h tg ha ha2
  have ft := fun w h => fits_tab T s k a f x w h tg.z ha ha2
  have rg : n < 0 ∨ d < n ∨ d < 1 ∨ 1048576 < d := by omega
  have q0 : decide (n < 0) = false := by simp; omega
  have q1 : decide (d < 1) = false := by simp; omega
  have q2 : decide (d < n) = true := by simpa using r2
  have g5 : (fitsV T s k a f != 0) = false := by simpa using g4
  have e0 : freeV s k a f n d = (0, 1) := freeV_range (fitsV_zero (by simpa using g4)).c rg
  have e3 : chargeV s k a f y n d = (0, 1) := chargeV_free e0 (by decide)
  have e1 : exactT T s k a f y n d = (0, 1) := by unfold exactT; rw [if_neg (by simpa using g4), e3]; rfl
  have e2 : cornT T s k a f n d = ([], 1) := by unfold cornT; rw [if_neg (by simpa using g4), e0]; rfl
  rw [e1] at ex
  rw [e2] at co
  clear e0 e1 e2 e3 tg g2 rg
  generalize T.chk = C at *
  generalize fitsV T s k a f = E at *
  clear hF
  have K0 : Bx (((w.alloc (.cells #[.slice T.AS T.nS T.cS, .slice T.AC T.nC T.cC, .slice T.AK T.nK T.cK, .int .i64 T.L, .int .i64 T.W] 26)).alloc (.cells #[.int .i64 s, .int .i64 k, .int .i64 a, .int .i64 f, .bool x] 28)).alloc (.cells #[.int .i64 y, .int .i64 n, .int .i64 d] 30)) (w.heap.size) 26 [.slice T.AS T.nS T.cS, .slice T.AC T.nC T.cC, .slice T.AK T.nK T.cK, .int .i64 T.L, .int .i64 T.W] := ((bx_new w [.slice T.AS T.nS T.cS, .slice T.AC T.nC T.cC, .slice T.AK T.nK T.cK, .int .i64 T.L, .int .i64 T.W] 26).alloc _).alloc _
  have K1 : Bx (((w.alloc (.cells #[.slice T.AS T.nS T.cS, .slice T.AC T.nC T.cC, .slice T.AK T.nK T.cK, .int .i64 T.L, .int .i64 T.W] 26)).alloc (.cells #[.int .i64 s, .int .i64 k, .int .i64 a, .int .i64 f, .bool x] 28)).alloc (.cells #[.int .i64 y, .int .i64 n, .int .i64 d] 30)) (w.heap.size + 1) 28 [.int .i64 s, .int .i64 k, .int .i64 a, .int .i64 f, .bool x] := (bx_at _ [.int .i64 s, .int .i64 k, .int .i64 a, .int .i64 f, .bool x] 28 (by simp)).alloc _
  have K2 : Bx (((w.alloc (.cells #[.slice T.AS T.nS T.cS, .slice T.AC T.nC T.cC, .slice T.AK T.nK T.cK, .int .i64 T.L, .int .i64 T.W] 26)).alloc (.cells #[.int .i64 s, .int .i64 k, .int .i64 a, .int .i64 f, .bool x] 28)).alloc (.cells #[.int .i64 y, .int .i64 n, .int .i64 d] 30)) (w.heap.size + 1 + 1) 30 [.int .i64 y, .int .i64 n, .int .i64 d] := bx_at _ [.int .i64 y, .int .i64 n, .int .i64 d] 30 (by simp)
  have B : Below w.heap.size w (((w.alloc (.cells #[.slice T.AS T.nS T.cS, .slice T.AC T.nC T.cC, .slice T.AK T.nK T.cK, .int .i64 T.L, .int .i64 T.W] 26)).alloc (.cells #[.int .i64 s, .int .i64 k, .int .i64 a, .int .i64 f, .bool x] 28)).alloc (.cells #[.int .i64 y, .int .i64 n, .int .i64 d] 30)) := ((((Below.refl _ _).alloc (Nat.le_refl _) _).alloc (by simp) _).alloc (by simp; omega) _)
  have h := h.below (show Below w.heap.size w (((w.alloc (.cells #[.slice T.AS T.nS T.cS, .slice T.AC T.nC T.cC, .slice T.AK T.nK T.cK, .int .i64 T.L, .int .i64 T.W] 26)).alloc (.cells #[.int .i64 s, .int .i64 k, .int .i64 a, .int .i64 f, .bool x] 28)).alloc (.cells #[.int .i64 y, .int .i64 n, .int .i64 d] 30)) from B)
  have k0_0 := K0.cell (i := 0) rfl
  have k0_1 := K0.cell (i := 1) rfl
  have k0_2 := K0.cell (i := 2) rfl
  have k0_3 := K0.cell (i := 3) rfl
  have k0_4 := K0.cell (i := 4) rfl
  have k1_0 := K1.cell (i := 0) rfl
  have k1_1 := K1.cell (i := 1) rfl
  have k1_2 := K1.cell (i := 2) rfl
  have k1_3 := K1.cell (i := 3) rfl
  have k1_4 := K1.cell (i := 4) rfl
  have k2_0 := K2.cell (i := 0) rfl
  have k2_1 := K2.cell (i := 1) rfl
  have k2_2 := K2.cell (i := 2) rfl
  have du := dues_any (((w.alloc (.cells #[.slice T.AS T.nS T.cS, .slice T.AC T.nC T.cC, .slice T.AK T.nK T.cK, .int .i64 T.L, .int .i64 T.W] 26)).alloc (.cells #[.int .i64 s, .int .i64 k, .int .i64 a, .int .i64 f, .bool x] 28)).alloc (.cells #[.int .i64 y, .int .i64 n, .int .i64 d] 30)) (hK.below B)
  clear hK
  go_enter Tryd.func4, Tryd.ntmps4
  go_wp2_with (fail)
  with_reducible refine (du).mono ?_
  rintro e w1 ⟨rfl, hb⟩
  clear k0_0 k0_1 k0_2 k0_3 k0_4 k1_0 k1_1 k1_2 k1_3 k1_4 k2_0 k2_1 k2_2
  have K0 := K0.below hb
  have K1 := K1.below hb
  have K2 := K2.below hb
  have h := h.below hb
  have B := below_step B hb B.size
  clear hb
  have k0_0 := K0.cell (i := 0) rfl
  have k0_1 := K0.cell (i := 1) rfl
  have k0_2 := K0.cell (i := 2) rfl
  have k0_3 := K0.cell (i := 3) rfl
  have k0_4 := K0.cell (i := 4) rfl
  have k1_0 := K1.cell (i := 0) rfl
  have k1_1 := K1.cell (i := 1) rfl
  have k1_2 := K1.cell (i := 2) rfl
  have k1_3 := K1.cell (i := 3) rfl
  have k1_4 := K1.cell (i := 4) rfl
  have k2_0 := K2.cell (i := 0) rfl
  have k2_1 := K2.cell (i := 1) rfl
  have k2_2 := K2.cell (i := 2) rfl
  go_wp2_with (fail)
  with_reducible refine (ck _ h).mono ?_
  rintro e w2 ⟨rfl, hb⟩
  clear k0_0 k0_1 k0_2 k0_3 k0_4 k1_0 k1_1 k1_2 k1_3 k1_4 k2_0 k2_1 k2_2
  have K0 := K0.below hb
  have K1 := K1.below hb
  have K2 := K2.below hb
  have h := h.below hb
  have B := below_step B hb B.size
  clear hb
  have k0_0 := K0.cell (i := 0) rfl
  have k0_1 := K0.cell (i := 1) rfl
  have k0_2 := K0.cell (i := 2) rfl
  have k0_3 := K0.cell (i := 3) rfl
  have k0_4 := K0.cell (i := 4) rfl
  have k1_0 := K1.cell (i := 0) rfl
  have k1_1 := K1.cell (i := 1) rfl
  have k1_2 := K1.cell (i := 2) rfl
  have k1_3 := K1.cell (i := 3) rfl
  have k1_4 := K1.cell (i := 4) rfl
  have k2_0 := K2.cell (i := 0) rfl
  have k2_1 := K2.cell (i := 1) rfl
  have k2_2 := K2.cell (i := 2) rfl
  go_wp2_with (fail)
  with_reducible refine (ex _ h.s).mono ?_
  rintro e w3 ⟨rfl, hb⟩
  clear k0_0 k0_1 k0_2 k0_3 k0_4 k1_0 k1_1 k1_2 k1_3 k1_4 k2_0 k2_1 k2_2
  have K0 := K0.below hb
  have K1 := K1.below hb
  have K2 := K2.below hb
  have h := h.below hb
  have B := below_step B hb B.size
  clear hb
  have k0_0 := K0.cell (i := 0) rfl
  have k0_1 := K0.cell (i := 1) rfl
  have k0_2 := K0.cell (i := 2) rfl
  have k0_3 := K0.cell (i := 3) rfl
  have k0_4 := K0.cell (i := 4) rfl
  have k1_0 := K1.cell (i := 0) rfl
  have k1_1 := K1.cell (i := 1) rfl
  have k1_2 := K1.cell (i := 2) rfl
  have k1_3 := K1.cell (i := 3) rfl
  have k1_4 := K1.cell (i := 4) rfl
  have k2_0 := K2.cell (i := 0) rfl
  have k2_1 := K2.cell (i := 1) rfl
  have k2_2 := K2.cell (i := 2) rfl
  go_wp2_with (fail)
  with_reducible refine (co _ h.s).mono ?_
  rintro e w4 ⟨v, rfl, hv, hb⟩
  clear k0_0 k0_1 k0_2 k0_3 k0_4 k1_0 k1_1 k1_2 k1_3 k1_4 k2_0 k2_1 k2_2
  have K0 := K0.below hb
  have K1 := K1.below hb
  have K2 := K2.below hb
  have h := h.below hb
  have B := below_step B hb B.size
  clear hb
  have k0_0 := K0.cell (i := 0) rfl
  have k0_1 := K0.cell (i := 1) rfl
  have k0_2 := K0.cell (i := 2) rfl
  have k0_3 := K0.cell (i := 3) rfl
  have k0_4 := K0.cell (i := 4) rfl
  have k1_0 := K1.cell (i := 0) rfl
  have k1_1 := K1.cell (i := 1) rfl
  have k1_2 := K1.cell (i := 2) rfl
  have k1_3 := K1.cell (i := 3) rfl
  have k1_4 := K1.cell (i := 4) rfl
  have k2_0 := K2.cell (i := 0) rfl
  have k2_1 := K2.cell (i := 1) rfl
  have k2_2 := K2.cell (i := 2) rfl
  obtain ⟨vA, vc, rfl⟩ : ∃ A c, v = .slice A 0 c := by
    rcases iw_cell hv with ⟨_, h1⟩ | ⟨g, c, h1, _⟩
    · exact ⟨none, 0, h1⟩
    · exact ⟨_, c, h1⟩
  clear hv
  go_wp2_with (fail)
  with_reducible refine (ft _ h.s).mono ?_
  rintro e w5 ⟨rfl, hb⟩
  clear k0_0 k0_1 k0_2 k0_3 k0_4 k1_0 k1_1 k1_2 k1_3 k1_4 k2_0 k2_1 k2_2
  have K0 := K0.below hb
  have K1 := K1.below hb
  have K2 := K2.below hb
  have h := h.below hb
  have B := below_step B hb B.size
  clear hb
  have k0_0 := K0.cell (i := 0) rfl
  have k0_1 := K0.cell (i := 1) rfl
  have k0_2 := K0.cell (i := 2) rfl
  have k0_3 := K0.cell (i := 3) rfl
  have k0_4 := K0.cell (i := 4) rfl
  have k1_0 := K1.cell (i := 0) rfl
  have k1_1 := K1.cell (i := 1) rfl
  have k1_2 := K1.cell (i := 2) rfl
  have k1_3 := K1.cell (i := 3) rfl
  have k1_4 := K1.cell (i := 4) rfl
  have k2_0 := K2.cell (i := 0) rfl
  have k2_1 := K2.cell (i := 1) rfl
  have k2_2 := K2.cell (i := 2) rfl
  go_wp2
  go_ret
  exact ⟨rfl, B⟩
set_option maxRecDepth 100000 in
set_option maxHeartbeats 1000000 in
theorem tr_rng_d (T : TB) (s k a f : Int) (x : Bool) (y n d : Int) (w : World) (h : Tm w T) (hF : TFits T) (hK : Kinds w) (ha : -9223372036854775808 ≤ a) (ha2 : a ≤ 9223372036854775807) (g : decide (20 < (T.nS : Int)) = false) (g2 : (T.chk != 0) = false) (g4 : fitsV T s k a f = 0) (r0 : 0 ≤ n) (r1 : 1 ≤ d) (r2 : n ≤ d) (r3 : 1048576 < d) :
    Calls Tryd.prog 4 #[.agg #[.slice T.AS T.nS T.cS, .slice T.AC T.nC T.cC, .slice T.AK T.nK T.cK, .int .i64 T.L, .int .i64 T.W], .agg #[.int .i64 s, .int .i64 k, .int .i64 a, .int .i64 f, .bool x], .agg #[.int .i64 y, .int .i64 n, .int .i64 d]] w fun e w' => e = .returned (.bool true) ∧ Below w.heap.size w w' := by
  have ck := fun w h => check_tab w T h (tsz_of hF)
  rw [show T.v = .agg #[.slice T.AS T.nS T.cS, .slice T.AC T.nC T.cC, .slice T.AK T.nK T.cK, .int .i64 T.L, .int .i64 T.W] from rfl] at ck
  have hfs := hF.1.1
  have tg : TG T := tg_of (by simpa using g2)
  have g3 : (T.chk != 0) = false := g2
  have ex := fun w h => exact_tab T s k a f x y n d w h tg.z tg.ok ha ha2
  have co := fun w h => corn_tab T s k a f x n d w h tg ha ha2
  have ft := fun w h => fits_tab T s k a f x w h tg.z ha ha2
  have rg : n < 0 ∨ d < n ∨ d < 1 ∨ 1048576 < d := by omega
  have q0 : decide (n < 0) = false := by simp; omega
  have q1 : decide (d < 1) = false := by simp; omega
  have q2 : decide (d < n) = false := by simp; omega
  have q3 : decide (1048576 < d) = true := by simpa using r3
  have g5 : (fitsV T s k a f != 0) = false := by simpa using g4
  have e0 : freeV s k a f n d = (0, 1) := freeV_range (fitsV_zero (by simpa using g4)).c rg
  have e3 : chargeV s k a f y n d = (0, 1) := chargeV_free e0 (by decide)
  have e1 : exactT T s k a f y n d = (0, 1) := by unfold exactT; rw [if_neg (by simpa using g4), e3]; rfl
  have e2 : cornT T s k a f n d = ([], 1) := by unfold cornT; rw [if_neg (by simpa using g4), e0]; rfl
  rw [e1] at ex
  rw [e2] at co
  clear e0 e1 e2 e3 tg g2 rg
  generalize T.chk = C at *
  generalize fitsV T s k a f = E at *
  clear hF
  have K0 : Bx (((w.alloc (.cells #[.slice T.AS T.nS T.cS, .slice T.AC T.nC T.cC, .slice T.AK T.nK T.cK, .int .i64 T.L, .int .i64 T.W] 26)).alloc (.cells #[.int .i64 s, .int .i64 k, .int .i64 a, .int .i64 f, .bool x] 28)).alloc (.cells #[.int .i64 y, .int .i64 n, .int .i64 d] 30)) (w.heap.size) 26 [.slice T.AS T.nS T.cS, .slice T.AC T.nC T.cC, .slice T.AK T.nK T.cK, .int .i64 T.L, .int .i64 T.W] := ((bx_new w [.slice T.AS T.nS T.cS, .slice T.AC T.nC T.cC, .slice T.AK T.nK T.cK, .int .i64 T.L, .int .i64 T.W] 26).alloc _).alloc _
  have K1 : Bx (((w.alloc (.cells #[.slice T.AS T.nS T.cS, .slice T.AC T.nC T.cC, .slice T.AK T.nK T.cK, .int .i64 T.L, .int .i64 T.W] 26)).alloc (.cells #[.int .i64 s, .int .i64 k, .int .i64 a, .int .i64 f, .bool x] 28)).alloc (.cells #[.int .i64 y, .int .i64 n, .int .i64 d] 30)) (w.heap.size + 1) 28 [.int .i64 s, .int .i64 k, .int .i64 a, .int .i64 f, .bool x] := (bx_at _ [.int .i64 s, .int .i64 k, .int .i64 a, .int .i64 f, .bool x] 28 (by simp)).alloc _
  have K2 : Bx (((w.alloc (.cells #[.slice T.AS T.nS T.cS, .slice T.AC T.nC T.cC, .slice T.AK T.nK T.cK, .int .i64 T.L, .int .i64 T.W] 26)).alloc (.cells #[.int .i64 s, .int .i64 k, .int .i64 a, .int .i64 f, .bool x] 28)).alloc (.cells #[.int .i64 y, .int .i64 n, .int .i64 d] 30)) (w.heap.size + 1 + 1) 30 [.int .i64 y, .int .i64 n, .int .i64 d] := bx_at _ [.int .i64 y, .int .i64 n, .int .i64 d] 30 (by simp)
  have B : Below w.heap.size w (((w.alloc (.cells #[.slice T.AS T.nS T.cS, .slice T.AC T.nC T.cC, .slice T.AK T.nK T.cK, .int .i64 T.L, .int .i64 T.W] 26)).alloc (.cells #[.int .i64 s, .int .i64 k, .int .i64 a, .int .i64 f, .bool x] 28)).alloc (.cells #[.int .i64 y, .int .i64 n, .int .i64 d] 30)) := ((((Below.refl _ _).alloc (Nat.le_refl _) _).alloc (by simp) _).alloc (by simp; omega) _)
  have h := h.below (show Below w.heap.size w (((w.alloc (.cells #[.slice T.AS T.nS T.cS, .slice T.AC T.nC T.cC, .slice T.AK T.nK T.cK, .int .i64 T.L, .int .i64 T.W] 26)).alloc (.cells #[.int .i64 s, .int .i64 k, .int .i64 a, .int .i64 f, .bool x] 28)).alloc (.cells #[.int .i64 y, .int .i64 n, .int .i64 d] 30)) from B)
  have k0_0 := K0.cell (i := 0) rfl
  have k0_1 := K0.cell (i := 1) rfl
  have k0_2 := K0.cell (i := 2) rfl
  have k0_3 := K0.cell (i := 3) rfl
  have k0_4 := K0.cell (i := 4) rfl
  have k1_0 := K1.cell (i := 0) rfl
  have k1_1 := K1.cell (i := 1) rfl
  have k1_2 := K1.cell (i := 2) rfl
  have k1_3 := K1.cell (i := 3) rfl
  have k1_4 := K1.cell (i := 4) rfl
  have k2_0 := K2.cell (i := 0) rfl
  have k2_1 := K2.cell (i := 1) rfl
  have k2_2 := K2.cell (i := 2) rfl
  have du := dues_any (((w.alloc (.cells #[.slice T.AS T.nS T.cS, .slice T.AC T.nC T.cC, .slice T.AK T.nK T.cK, .int .i64 T.L, .int .i64 T.W] 26)).alloc (.cells #[.int .i64 s, .int .i64 k, .int .i64 a, .int .i64 f, .bool x] 28)).alloc (.cells #[.int .i64 y, .int .i64 n, .int .i64 d] 30)) (hK.below B)
  clear hK
  go_enter Tryd.func4, Tryd.ntmps4
  go_wp2_with (fail)
  with_reducible refine (du).mono ?_
  rintro e w1 ⟨rfl, hb⟩
  clear k0_0 k0_1 k0_2 k0_3 k0_4 k1_0 k1_1 k1_2 k1_3 k1_4 k2_0 k2_1 k2_2
  have K0 := K0.below hb
  have K1 := K1.below hb
  have K2 := K2.below hb
  have h := h.below hb
  have B := below_step B hb B.size
  clear hb
  have k0_0 := K0.cell (i := 0) rfl
  have k0_1 := K0.cell (i := 1) rfl
  have k0_2 := K0.cell (i := 2) rfl
  have k0_3 := K0.cell (i := 3) rfl
  have k0_4 := K0.cell (i := 4) rfl
  have k1_0 := K1.cell (i := 0) rfl
  have k1_1 := K1.cell (i := 1) rfl
  have k1_2 := K1.cell (i := 2) rfl
  have k1_3 := K1.cell (i := 3) rfl
  have k1_4 := K1.cell (i := 4) rfl
  have k2_0 := K2.cell (i := 0) rfl
  have k2_1 := K2.cell (i := 1) rfl
  have k2_2 := K2.cell (i := 2) rfl
  go_wp2_with (fail)
  with_reducible refine (ck _ h).mono ?_
  rintro e w2 ⟨rfl, hb⟩
  clear k0_0 k0_1 k0_2 k0_3 k0_4 k1_0 k1_1 k1_2 k1_3 k1_4 k2_0 k2_1 k2_2
  have K0 := K0.below hb
  have K1 := K1.below hb
  have K2 := K2.below hb
  have h := h.below hb
  have B := below_step B hb B.size
  clear hb
  have k0_0 := K0.cell (i := 0) rfl
  have k0_1 := K0.cell (i := 1) rfl
  have k0_2 := K0.cell (i := 2) rfl
  have k0_3 := K0.cell (i := 3) rfl
  have k0_4 := K0.cell (i := 4) rfl
  have k1_0 := K1.cell (i := 0) rfl
  have k1_1 := K1.cell (i := 1) rfl
  have k1_2 := K1.cell (i := 2) rfl
  have k1_3 := K1.cell (i := 3) rfl
  have k1_4 := K1.cell (i := 4) rfl
  have k2_0 := K2.cell (i := 0) rfl
  have k2_1 := K2.cell (i := 1) rfl
  have k2_2 := K2.cell (i := 2) rfl
  go_wp2_with (fail)
  with_reducible refine (ex _ h.s).mono ?_
  rintro e w3 ⟨rfl, hb⟩
  clear k0_0 k0_1 k0_2 k0_3 k0_4 k1_0 k1_1 k1_2 k1_3 k1_4 k2_0 k2_1 k2_2
  have K0 := K0.below hb
  have K1 := K1.below hb
  have K2 := K2.below hb
  have h := h.below hb
  have B := below_step B hb B.size
  clear hb
  have k0_0 := K0.cell (i := 0) rfl
  have k0_1 := K0.cell (i := 1) rfl
  have k0_2 := K0.cell (i := 2) rfl
  have k0_3 := K0.cell (i := 3) rfl
  have k0_4 := K0.cell (i := 4) rfl
  have k1_0 := K1.cell (i := 0) rfl
  have k1_1 := K1.cell (i := 1) rfl
  have k1_2 := K1.cell (i := 2) rfl
  have k1_3 := K1.cell (i := 3) rfl
  have k1_4 := K1.cell (i := 4) rfl
  have k2_0 := K2.cell (i := 0) rfl
  have k2_1 := K2.cell (i := 1) rfl
  have k2_2 := K2.cell (i := 2) rfl
  go_wp2_with (fail)
  with_reducible refine (co _ h.s).mono ?_
  rintro e w4 ⟨v, rfl, hv, hb⟩
  clear k0_0 k0_1 k0_2 k0_3 k0_4 k1_0 k1_1 k1_2 k1_3 k1_4 k2_0 k2_1 k2_2
  have K0 := K0.below hb
  have K1 := K1.below hb
  have K2 := K2.below hb
  have h := h.below hb
  have B := below_step B hb B.size
  clear hb
  have k0_0 := K0.cell (i := 0) rfl
  have k0_1 := K0.cell (i := 1) rfl
  have k0_2 := K0.cell (i := 2) rfl
  have k0_3 := K0.cell (i := 3) rfl
  have k0_4 := K0.cell (i := 4) rfl
  have k1_0 := K1.cell (i := 0) rfl
  have k1_1 := K1.cell (i := 1) rfl
  have k1_2 := K1.cell (i := 2) rfl
  have k1_3 := K1.cell (i := 3) rfl
  have k1_4 := K1.cell (i := 4) rfl
  have k2_0 := K2.cell (i := 0) rfl
  have k2_1 := K2.cell (i := 1) rfl
  have k2_2 := K2.cell (i := 2) rfl
  obtain ⟨vA, vc, rfl⟩ : ∃ A c, v = .slice A 0 c := by
    rcases iw_cell hv with ⟨_, h1⟩ | ⟨g, c, h1, _⟩
    · exact ⟨none, 0, h1⟩
    · exact ⟨_, c, h1⟩
  clear hv
  go_wp2_with (fail)
  with_reducible refine (ft _ h.s).mono ?_
  rintro e w5 ⟨rfl, hb⟩
  clear k0_0 k0_1 k0_2 k0_3 k0_4 k1_0 k1_1 k1_2 k1_3 k1_4 k2_0 k2_1 k2_2
  have K0 := K0.below hb
  have K1 := K1.below hb
  have K2 := K2.below hb
  have h := h.below hb
  have B := below_step B hb B.size
  clear hb
  have k0_0 := K0.cell (i := 0) rfl
  have k0_1 := K0.cell (i := 1) rfl
  have k0_2 := K0.cell (i := 2) rfl
  have k0_3 := K0.cell (i := 3) rfl
  have k0_4 := K0.cell (i := 4) rfl
  have k1_0 := K1.cell (i := 0) rfl
  have k1_1 := K1.cell (i := 1) rfl
  have k1_2 := K1.cell (i := 2) rfl
  have k1_3 := K1.cell (i := 3) rfl
  have k1_4 := K1.cell (i := 4) rfl
  have k2_0 := K2.cell (i := 0) rfl
  have k2_1 := K2.cell (i := 1) rfl
  have k2_2 := K2.cell (i := 2) rfl
  go_wp2
  go_ret
  exact ⟨rfl, B⟩
set_option maxRecDepth 100000 in
set_option maxHeartbeats 1000000 in
theorem tr_ok (T : TB) (s k a f : Int) (x : Bool) (y n d : Int) (w : World) (h : Tm w T) (hF : TFits T) (hK : Kinds w) (ha : -9223372036854775808 ≤ a) (ha2 : a ≤ 9223372036854775807) (g : decide (20 < (T.nS : Int)) = false) (g2 : (T.chk != 0) = false) (g4 : fitsV T s k a f = 0) (r0 : 0 ≤ n) (r1 : 1 ≤ d) (r2 : n ≤ d) (r3 : d ≤ 1048576) :
    Calls Tryd.prog 4 #[.agg #[.slice T.AS T.nS T.cS, .slice T.AC T.nC T.cC, .slice T.AK T.nK T.cK, .int .i64 T.L, .int .i64 T.W], .agg #[.int .i64 s, .int .i64 k, .int .i64 a, .int .i64 f, .bool x], .agg #[.int .i64 y, .int .i64 n, .int .i64 d]] w fun e w' => e = .returned (.bool true) ∧ Below w.heap.size w w' := by
  have ck := fun w h => check_tab w T h (tsz_of hF)
  rw [show T.v = .agg #[.slice T.AS T.nS T.cS, .slice T.AC T.nC T.cC, .slice T.AK T.nK T.cK, .int .i64 T.L, .int .i64 T.W] from rfl] at ck
  have hfs := hF.1.1
  have tg : TG T := tg_of (by simpa using g2)
  have g3 : (T.chk != 0) = false := g2
  have ex := fun w h => exact_tab T s k a f x y n d w h tg.z tg.ok ha ha2
  have co := fun w h => corn_tab T s k a f x n d w h tg ha ha2
  have ft := fun w h => fits_tab T s k a f x w h tg.z ha ha2
  have g5 : (fitsV T s k a f != 0) = false := by simpa using g4
  have e0 := freeV_ok (a := a) (f := f) (fitsV_zero g4).c r0 r2 r1 r3
  have e2 : (cornT T s k a f n d).2 = 0 := by unfold cornT; rw [if_neg (by simpa using g4), e0]; rfl
  have q0 : decide (n < 0) = false := by simp; omega
  have q1 : decide (d < 1) = false := by simp; omega
  have q2 : decide (d < n) = false := by simp; omega
  have q3 : decide (1048576 < d) = false := by simp; omega
  rw [e2] at co
  clear e0 e2 tg g2
  generalize T.chk = C at *
  generalize fitsV T s k a f = E at *
  generalize (cornT T s k a f n d).1 = LL at *
  generalize (exactT T s k a f y n d).1 = X1 at *
  generalize (exactT T s k a f y n d).2 = X2 at *
  clear hF
  have K0 : Bx (((w.alloc (.cells #[.slice T.AS T.nS T.cS, .slice T.AC T.nC T.cC, .slice T.AK T.nK T.cK, .int .i64 T.L, .int .i64 T.W] 26)).alloc (.cells #[.int .i64 s, .int .i64 k, .int .i64 a, .int .i64 f, .bool x] 28)).alloc (.cells #[.int .i64 y, .int .i64 n, .int .i64 d] 30)) (w.heap.size) 26 [.slice T.AS T.nS T.cS, .slice T.AC T.nC T.cC, .slice T.AK T.nK T.cK, .int .i64 T.L, .int .i64 T.W] := ((bx_new w [.slice T.AS T.nS T.cS, .slice T.AC T.nC T.cC, .slice T.AK T.nK T.cK, .int .i64 T.L, .int .i64 T.W] 26).alloc _).alloc _
  have K1 : Bx (((w.alloc (.cells #[.slice T.AS T.nS T.cS, .slice T.AC T.nC T.cC, .slice T.AK T.nK T.cK, .int .i64 T.L, .int .i64 T.W] 26)).alloc (.cells #[.int .i64 s, .int .i64 k, .int .i64 a, .int .i64 f, .bool x] 28)).alloc (.cells #[.int .i64 y, .int .i64 n, .int .i64 d] 30)) (w.heap.size + 1) 28 [.int .i64 s, .int .i64 k, .int .i64 a, .int .i64 f, .bool x] := (bx_at _ [.int .i64 s, .int .i64 k, .int .i64 a, .int .i64 f, .bool x] 28 (by simp)).alloc _
  have K2 : Bx (((w.alloc (.cells #[.slice T.AS T.nS T.cS, .slice T.AC T.nC T.cC, .slice T.AK T.nK T.cK, .int .i64 T.L, .int .i64 T.W] 26)).alloc (.cells #[.int .i64 s, .int .i64 k, .int .i64 a, .int .i64 f, .bool x] 28)).alloc (.cells #[.int .i64 y, .int .i64 n, .int .i64 d] 30)) (w.heap.size + 1 + 1) 30 [.int .i64 y, .int .i64 n, .int .i64 d] := bx_at _ [.int .i64 y, .int .i64 n, .int .i64 d] 30 (by simp)
  have B : Below w.heap.size w (((w.alloc (.cells #[.slice T.AS T.nS T.cS, .slice T.AC T.nC T.cC, .slice T.AK T.nK T.cK, .int .i64 T.L, .int .i64 T.W] 26)).alloc (.cells #[.int .i64 s, .int .i64 k, .int .i64 a, .int .i64 f, .bool x] 28)).alloc (.cells #[.int .i64 y, .int .i64 n, .int .i64 d] 30)) := ((((Below.refl _ _).alloc (Nat.le_refl _) _).alloc (by simp) _).alloc (by simp; omega) _)
  have h := h.below (show Below w.heap.size w (((w.alloc (.cells #[.slice T.AS T.nS T.cS, .slice T.AC T.nC T.cC, .slice T.AK T.nK T.cK, .int .i64 T.L, .int .i64 T.W] 26)).alloc (.cells #[.int .i64 s, .int .i64 k, .int .i64 a, .int .i64 f, .bool x] 28)).alloc (.cells #[.int .i64 y, .int .i64 n, .int .i64 d] 30)) from B)
  have k0_0 := K0.cell (i := 0) rfl
  have k0_1 := K0.cell (i := 1) rfl
  have k0_2 := K0.cell (i := 2) rfl
  have k0_3 := K0.cell (i := 3) rfl
  have k0_4 := K0.cell (i := 4) rfl
  have k1_0 := K1.cell (i := 0) rfl
  have k1_1 := K1.cell (i := 1) rfl
  have k1_2 := K1.cell (i := 2) rfl
  have k1_3 := K1.cell (i := 3) rfl
  have k1_4 := K1.cell (i := 4) rfl
  have k2_0 := K2.cell (i := 0) rfl
  have k2_1 := K2.cell (i := 1) rfl
  have k2_2 := K2.cell (i := 2) rfl
  have du := dues_any (((w.alloc (.cells #[.slice T.AS T.nS T.cS, .slice T.AC T.nC T.cC, .slice T.AK T.nK T.cK, .int .i64 T.L, .int .i64 T.W] 26)).alloc (.cells #[.int .i64 s, .int .i64 k, .int .i64 a, .int .i64 f, .bool x] 28)).alloc (.cells #[.int .i64 y, .int .i64 n, .int .i64 d] 30)) (hK.below B)
  clear hK
  go_enter Tryd.func4, Tryd.ntmps4
  go_wp2_with (fail)
  with_reducible refine (du).mono ?_
  rintro e w1 ⟨rfl, hb⟩
  clear k0_0 k0_1 k0_2 k0_3 k0_4 k1_0 k1_1 k1_2 k1_3 k1_4 k2_0 k2_1 k2_2
  have K0 := K0.below hb
  have K1 := K1.below hb
  have K2 := K2.below hb
  have h := h.below hb
  have B := below_step B hb B.size
  clear hb
  have k0_0 := K0.cell (i := 0) rfl
  have k0_1 := K0.cell (i := 1) rfl
  have k0_2 := K0.cell (i := 2) rfl
  have k0_3 := K0.cell (i := 3) rfl
  have k0_4 := K0.cell (i := 4) rfl
  have k1_0 := K1.cell (i := 0) rfl
  have k1_1 := K1.cell (i := 1) rfl
  have k1_2 := K1.cell (i := 2) rfl
  have k1_3 := K1.cell (i := 3) rfl
  have k1_4 := K1.cell (i := 4) rfl
  have k2_0 := K2.cell (i := 0) rfl
  have k2_1 := K2.cell (i := 1) rfl
  have k2_2 := K2.cell (i := 2) rfl
  go_wp2_with (fail)
  with_reducible refine (ck _ h).mono ?_
  rintro e w2 ⟨rfl, hb⟩
  clear k0_0 k0_1 k0_2 k0_3 k0_4 k1_0 k1_1 k1_2 k1_3 k1_4 k2_0 k2_1 k2_2
  have K0 := K0.below hb
  have K1 := K1.below hb
  have K2 := K2.below hb
  have h := h.below hb
  have B := below_step B hb B.size
  clear hb
  have k0_0 := K0.cell (i := 0) rfl
  have k0_1 := K0.cell (i := 1) rfl
  have k0_2 := K0.cell (i := 2) rfl
  have k0_3 := K0.cell (i := 3) rfl
  have k0_4 := K0.cell (i := 4) rfl
  have k1_0 := K1.cell (i := 0) rfl
  have k1_1 := K1.cell (i := 1) rfl
  have k1_2 := K1.cell (i := 2) rfl
  have k1_3 := K1.cell (i := 3) rfl
  have k1_4 := K1.cell (i := 4) rfl
  have k2_0 := K2.cell (i := 0) rfl
  have k2_1 := K2.cell (i := 1) rfl
  have k2_2 := K2.cell (i := 2) rfl
  go_wp2_with (fail)
  with_reducible refine (ex _ h.s).mono ?_
  rintro e w3 ⟨rfl, hb⟩
  clear k0_0 k0_1 k0_2 k0_3 k0_4 k1_0 k1_1 k1_2 k1_3 k1_4 k2_0 k2_1 k2_2
  have K0 := K0.below hb
  have K1 := K1.below hb
  have K2 := K2.below hb
  have h := h.below hb
  have B := below_step B hb B.size
  clear hb
  have k0_0 := K0.cell (i := 0) rfl
  have k0_1 := K0.cell (i := 1) rfl
  have k0_2 := K0.cell (i := 2) rfl
  have k0_3 := K0.cell (i := 3) rfl
  have k0_4 := K0.cell (i := 4) rfl
  have k1_0 := K1.cell (i := 0) rfl
  have k1_1 := K1.cell (i := 1) rfl
  have k1_2 := K1.cell (i := 2) rfl
  have k1_3 := K1.cell (i := 3) rfl
  have k1_4 := K1.cell (i := 4) rfl
  have k2_0 := K2.cell (i := 0) rfl
  have k2_1 := K2.cell (i := 1) rfl
  have k2_2 := K2.cell (i := 2) rfl
  go_wp2_with (fail)
  with_reducible refine (co _ h.s).mono ?_
  rintro e w4 ⟨v, rfl, hv, hb⟩
  clear k0_0 k0_1 k0_2 k0_3 k0_4 k1_0 k1_1 k1_2 k1_3 k1_4 k2_0 k2_1 k2_2
  have K0 := K0.below hb
  have K1 := K1.below hb
  have K2 := K2.below hb
  have h := h.below hb
  have B := below_step B hb B.size
  clear hb
  have k0_0 := K0.cell (i := 0) rfl
  have k0_1 := K0.cell (i := 1) rfl
  have k0_2 := K0.cell (i := 2) rfl
  have k0_3 := K0.cell (i := 3) rfl
  have k0_4 := K0.cell (i := 4) rfl
  have k1_0 := K1.cell (i := 0) rfl
  have k1_1 := K1.cell (i := 1) rfl
  have k1_2 := K1.cell (i := 2) rfl
  have k1_3 := K1.cell (i := 3) rfl
  have k1_4 := K1.cell (i := 4) rfl
  have k2_0 := K2.cell (i := 0) rfl
  have k2_1 := K2.cell (i := 1) rfl
  have k2_2 := K2.cell (i := 2) rfl
  obtain ⟨vA, vn, vc, rfl⟩ : ∃ A m c, v = .slice A m c := by
    rcases iw_cell hv with ⟨_, h1⟩ | ⟨g, c, h1, _⟩
    · exact ⟨none, 0, 0, h1⟩
    · exact ⟨_, _, c, h1⟩
  clear hv
  go_wp2_with (fail)
  with_reducible refine (ft _ h.s).mono ?_
  rintro e w5 ⟨rfl, hb⟩
  clear k0_0 k0_1 k0_2 k0_3 k0_4 k1_0 k1_1 k1_2 k1_3 k1_4 k2_0 k2_1 k2_2
  have K0 := K0.below hb
  have K1 := K1.below hb
  have K2 := K2.below hb
  have h := h.below hb
  have B := below_step B hb B.size
  clear hb
  have k0_0 := K0.cell (i := 0) rfl
  have k0_1 := K0.cell (i := 1) rfl
  have k0_2 := K0.cell (i := 2) rfl
  have k0_3 := K0.cell (i := 3) rfl
  have k0_4 := K0.cell (i := 4) rfl
  have k1_0 := K1.cell (i := 0) rfl
  have k1_1 := K1.cell (i := 1) rfl
  have k1_2 := K1.cell (i := 2) rfl
  have k1_3 := K1.cell (i := 3) rfl
  have k1_4 := K1.cell (i := 4) rfl
  have k2_0 := K2.cell (i := 0) rfl
  have k2_1 := K2.cell (i := 1) rfl
  have k2_2 := K2.cell (i := 2) rfl
  go_wp2
  go_ret
  exact ⟨rfl, B⟩
theorem wTaxRefuses (T : TB) (s k a f : Int) (x : Bool) (y n d : Int) (w : World) (hK : Kinds w) (h : Tm w T) (hF : TFits T) (hc : cF s k a f) (hy : (-9223372036854775808 ≤ y ∧ y ≤ 9223372036854775807)) (hn : (-9223372036854775808 ≤ n ∧ n ≤ 9223372036854775807)) (hd : (-9223372036854775808 ≤ d ∧ d ≤ 9223372036854775807)) :
    Calls Tryd.prog 4 #[.agg #[.slice T.AS T.nS T.cS, .slice T.AC T.nC T.cC, .slice T.AK T.nK T.cK, .int .i64 T.L, .int .i64 T.W], .agg #[.int .i64 s, .int .i64 k, .int .i64 a, .int .i64 f, .bool x], .agg #[.int .i64 y, .int .i64 n, .int .i64 d]] w fun e w' => e = .returned (.bool true) ∧ Below w.heap.size w w' := by
  have ha := hc.2.2.1.1
  have ha2 := hc.2.2.1.2
  cases g : decide (20 < (T.nS : Int))
  · cases g2 : (T.chk != 0)
    · by_cases g4 : fitsV T s k a f = 0
      · by_cases r0 : n < 0
        · exact tr_rng_a T s k a f x y n d w h hF hK ha ha2 g g2 g4 r0
        · by_cases r1 : d < 1
          · exact tr_rng_b T s k a f x y n d w h hF hK ha ha2 g g2 g4 (by omega) r1
          · by_cases r2 : d < n
            · exact tr_rng_c T s k a f x y n d w h hF hK ha ha2 g g2 g4 (by omega) (by omega) r2
            · by_cases r3 : 1048576 < d
              · exact tr_rng_d T s k a f x y n d w h hF hK ha ha2 g g2 g4 (by omega) (by omega) (by omega) r3
              · exact tr_ok T s k a f x y n d w h hF hK ha ha2 g g2 g4 (by omega) (by omega) (by omega) (by omega)
      · exact tr_fits T s k a f x y n d w h hF hK ha ha2 g g2 (by simpa using g4)
    · exact tr_chk T s k a f x y n d w h hF hK ha ha2 g g2
  · exact tr_many T s k a f x y n d w h hF hK ha ha2 g
end Go.Proofs.YtgekojbmlppmdaaDoor
