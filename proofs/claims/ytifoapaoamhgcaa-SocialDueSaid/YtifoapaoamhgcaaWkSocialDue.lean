/- The walk of the law SocialDue. -/
import Derived.Test.YtifoapaoamhgcaaSocH
namespace Go.Proofs.Ytifoapaoamhgcaa
open Go.RowKit Go.Sort
set_option linter.unusedVariables false
set_option linter.unusedSimpArgs false

set_option maxRecDepth 100000 in
set_option maxHeartbeats 8000000 in
theorem sd_no (T : TB) (i x : Int) (w : World) (h : Tm w T) (hF : TFits T) (hx : -9223372036854775808 ≤ x ∧ x ≤ 9223372036854775807) (g : lfB T = false) :
    Calls Try.prog 3 #[.agg #[.slice T.AS T.nS T.cS, .slice T.AC T.nC T.cC, .slice T.AK T.nK T.cK, .int .i64 T.L, .int .i64 T.W], .int .i64 i, .int .i64 x] w fun e w' => e = .returned (.bool true) ∧ Below w.heap.size w w' := by
  have K0 : Bx (w.alloc (.cells #[.slice T.AS T.nS T.cS, .slice T.AC T.nC T.cC, .slice T.AK T.nK T.cK, .int .i64 T.L, .int .i64 T.W] 26)) (w.heap.size) 26 [.slice T.AS T.nS T.cS, .slice T.AC T.nC T.cC, .slice T.AK T.nK T.cK, .int .i64 T.L, .int .i64 T.W] := bx_new w [.slice T.AS T.nS T.cS, .slice T.AC T.nC T.cC, .slice T.AK T.nK T.cK, .int .i64 T.L, .int .i64 T.W] 26
  have B : Below w.heap.size w (w.alloc (.cells #[.slice T.AS T.nS T.cS, .slice T.AC T.nC T.cC, .slice T.AK T.nK T.cK, .int .i64 T.L, .int .i64 T.W] 26)) := ((Below.refl _ _).alloc (Nat.le_refl _) _)
  replace h := h.below (show Below w.heap.size w (w.alloc (.cells #[.slice T.AS T.nS T.cS, .slice T.AC T.nC T.cC, .slice T.AK T.nK T.cK, .int .i64 T.L, .int .i64 T.W] 26)) from B)
  have k0_0 := K0.cell (i := 0) rfl
  have k0_1 := K0.cell (i := 1) rfl
  have k0_2 := K0.cell (i := 2) rfl
  have k0_3 := K0.cell (i := 3) rfl
  have k0_4 := K0.cell (i := 4) rfl
  go_enter Try.func3, Try.ntmps3
  go_wp2_with (fail)
  with_reducible refine (pays_any _).mono ?_
  rintro e w1 ⟨rfl, hb⟩
  clear k0_0 k0_1 k0_2 k0_3 k0_4
  replace K0 := K0.below hb
  replace h := h.below hb
  replace B := below_step B hb B.size
  clear hb
  have k0_0 := K0.cell (i := 0) rfl
  have k0_1 := K0.cell (i := 1) rfl
  have k0_2 := K0.cell (i := 2) rfl
  have k0_3 := K0.cell (i := 3) rfl
  have k0_4 := K0.cell (i := 4) rfl
  go_wp2_with (fail)
  with_reducible refine (lfits_any T _ h hF).mono ?_
  rintro e w2 ⟨he, hb⟩
  clear k0_0 k0_1 k0_2 k0_3 k0_4
  replace K0 := K0.below hb
  replace h := h.below hb
  replace B := below_step B hb B.size
  clear hb
  have k0_0 := K0.cell (i := 0) rfl
  have k0_1 := K0.cell (i := 1) rfl
  have k0_2 := K0.cell (i := 2) rfl
  have k0_3 := K0.cell (i := 3) rfl
  have k0_4 := K0.cell (i := 4) rfl
  rw [g] at he
  subst he
  go_wp2
  go_ret
  exact ⟨rfl, B⟩
set_option maxRecDepth 100000 in
set_option maxHeartbeats 8000000 in
theorem sd_neg (T : TB) (i x : Int) (w : World) (h : Tm w T) (hF : TFits T) (hx : -9223372036854775808 ≤ x ∧ x ≤ 9223372036854775807) (g : lfB T = true) (g2 : i < 0) :
    Calls Try.prog 3 #[.agg #[.slice T.AS T.nS T.cS, .slice T.AC T.nC T.cC, .slice T.AK T.nK T.cK, .int .i64 T.L, .int .i64 T.W], .int .i64 i, .int .i64 x] w fun e w' => e = .returned (.bool true) ∧ Below w.heap.size w w' := by
  have q0 : decide (i < 0) = true := decide_eq_true g2
  have K0 : Bx (w.alloc (.cells #[.slice T.AS T.nS T.cS, .slice T.AC T.nC T.cC, .slice T.AK T.nK T.cK, .int .i64 T.L, .int .i64 T.W] 26)) (w.heap.size) 26 [.slice T.AS T.nS T.cS, .slice T.AC T.nC T.cC, .slice T.AK T.nK T.cK, .int .i64 T.L, .int .i64 T.W] := bx_new w [.slice T.AS T.nS T.cS, .slice T.AC T.nC T.cC, .slice T.AK T.nK T.cK, .int .i64 T.L, .int .i64 T.W] 26
  have B : Below w.heap.size w (w.alloc (.cells #[.slice T.AS T.nS T.cS, .slice T.AC T.nC T.cC, .slice T.AK T.nK T.cK, .int .i64 T.L, .int .i64 T.W] 26)) := ((Below.refl _ _).alloc (Nat.le_refl _) _)
  replace h := h.below (show Below w.heap.size w (w.alloc (.cells #[.slice T.AS T.nS T.cS, .slice T.AC T.nC T.cC, .slice T.AK T.nK T.cK, .int .i64 T.L, .int .i64 T.W] 26)) from B)
  have k0_0 := K0.cell (i := 0) rfl
  have k0_1 := K0.cell (i := 1) rfl
  have k0_2 := K0.cell (i := 2) rfl
  have k0_3 := K0.cell (i := 3) rfl
  have k0_4 := K0.cell (i := 4) rfl
  go_enter Try.func3, Try.ntmps3
  go_wp2_with (fail)
  with_reducible refine (pays_any _).mono ?_
  rintro e w1 ⟨rfl, hb⟩
  clear k0_0 k0_1 k0_2 k0_3 k0_4
  replace K0 := K0.below hb
  replace h := h.below hb
  replace B := below_step B hb B.size
  clear hb
  have k0_0 := K0.cell (i := 0) rfl
  have k0_1 := K0.cell (i := 1) rfl
  have k0_2 := K0.cell (i := 2) rfl
  have k0_3 := K0.cell (i := 3) rfl
  have k0_4 := K0.cell (i := 4) rfl
  go_wp2_with (fail)
  with_reducible refine (lfits_any T _ h hF).mono ?_
  rintro e w2 ⟨he, hb⟩
  clear k0_0 k0_1 k0_2 k0_3 k0_4
  replace K0 := K0.below hb
  replace h := h.below hb
  replace B := below_step B hb B.size
  clear hb
  have k0_0 := K0.cell (i := 0) rfl
  have k0_1 := K0.cell (i := 1) rfl
  have k0_2 := K0.cell (i := 2) rfl
  have k0_3 := K0.cell (i := 3) rfl
  have k0_4 := K0.cell (i := 4) rfl
  rw [g] at he
  subst he
  go_wp2
  go_ret
  exact ⟨rfl, B⟩
set_option maxRecDepth 100000 in
set_option maxHeartbeats 8000000 in
theorem sd_far (T : TB) (i x : Int) (w : World) (h : Tm w T) (hF : TFits T) (hx : -9223372036854775808 ≤ x ∧ x ≤ 9223372036854775807) (g : lfB T = true) (g2 : 0 ≤ i) (g3 : T.nC ≤ i) :
    Calls Try.prog 3 #[.agg #[.slice T.AS T.nS T.cS, .slice T.AC T.nC T.cC, .slice T.AK T.nK T.cK, .int .i64 T.L, .int .i64 T.W], .int .i64 i, .int .i64 x] w fun e w' => e = .returned (.bool true) ∧ Below w.heap.size w w' := by
  have q0 : decide (i < 0) = false := decide_eq_false (by omega)
  have q1 : decide ((T.nC : Int) ≤ i) = true := decide_eq_true g3
  have K0 : Bx (w.alloc (.cells #[.slice T.AS T.nS T.cS, .slice T.AC T.nC T.cC, .slice T.AK T.nK T.cK, .int .i64 T.L, .int .i64 T.W] 26)) (w.heap.size) 26 [.slice T.AS T.nS T.cS, .slice T.AC T.nC T.cC, .slice T.AK T.nK T.cK, .int .i64 T.L, .int .i64 T.W] := bx_new w [.slice T.AS T.nS T.cS, .slice T.AC T.nC T.cC, .slice T.AK T.nK T.cK, .int .i64 T.L, .int .i64 T.W] 26
  have B : Below w.heap.size w (w.alloc (.cells #[.slice T.AS T.nS T.cS, .slice T.AC T.nC T.cC, .slice T.AK T.nK T.cK, .int .i64 T.L, .int .i64 T.W] 26)) := ((Below.refl _ _).alloc (Nat.le_refl _) _)
  replace h := h.below (show Below w.heap.size w (w.alloc (.cells #[.slice T.AS T.nS T.cS, .slice T.AC T.nC T.cC, .slice T.AK T.nK T.cK, .int .i64 T.L, .int .i64 T.W] 26)) from B)
  have k0_0 := K0.cell (i := 0) rfl
  have k0_1 := K0.cell (i := 1) rfl
  have k0_2 := K0.cell (i := 2) rfl
  have k0_3 := K0.cell (i := 3) rfl
  have k0_4 := K0.cell (i := 4) rfl
  go_enter Try.func3, Try.ntmps3
  go_wp2_with (fail)
  with_reducible refine (pays_any _).mono ?_
  rintro e w1 ⟨rfl, hb⟩
  clear k0_0 k0_1 k0_2 k0_3 k0_4
  replace K0 := K0.below hb
  replace h := h.below hb
  replace B := below_step B hb B.size
  clear hb
  have k0_0 := K0.cell (i := 0) rfl
  have k0_1 := K0.cell (i := 1) rfl
  have k0_2 := K0.cell (i := 2) rfl
  have k0_3 := K0.cell (i := 3) rfl
  have k0_4 := K0.cell (i := 4) rfl
  go_wp2_with (fail)
  with_reducible refine (lfits_any T _ h hF).mono ?_
  rintro e w2 ⟨he, hb⟩
  clear k0_0 k0_1 k0_2 k0_3 k0_4
  replace K0 := K0.below hb
  replace h := h.below hb
  replace B := below_step B hb B.size
  clear hb
  have k0_0 := K0.cell (i := 0) rfl
  have k0_1 := K0.cell (i := 1) rfl
  have k0_2 := K0.cell (i := 2) rfl
  have k0_3 := K0.cell (i := 3) rfl
  have k0_4 := K0.cell (i := 4) rfl
  rw [g] at he
  subst he
  go_wp2
  go_ret
  exact ⟨rfl, B⟩
set_option maxRecDepth 100000 in
set_option maxHeartbeats 8000000 in
theorem sd_bad (T : TB) (i x : Int) (w : World) (h : Tm w T) (hF : TFits T) (hx : -9223372036854775808 ≤ x ∧ x ≤ 9223372036854775807) (g : lfB T = true) (g2 : 0 ≤ i) (g3 : ¬ (T.nC : Int) ≤ i) (hq : amtB x = false) :
    Calls Try.prog 3 #[.agg #[.slice T.AS T.nS T.cS, .slice T.AC T.nC T.cC, .slice T.AK T.nK T.cK, .int .i64 T.L, .int .i64 T.W], .int .i64 i, .int .i64 x] w fun e w' => e = .returned (.bool true) ∧ Below w.heap.size w w' := by
  obtain ⟨j, rfl⟩ : ∃ j : Nat, i = (j : Int) := ⟨i.toNat, by omega⟩
  have q0 : decide ((j : Int) < 0) = false := decide_eq_false (by omega)
  have q1 : decide ((T.nC : Int) ≤ (j : Int)) = false := decide_eq_false (by omega)
  have q2 : ¬ T.nC ≤ j := by omega
  have hj : j < T.nC := by omega
  have hji : (j : Int) < (T.nC : Int) := by omega
  have tc := lf_tc g
  have okc := tc.ok.c j hj
  have mw := (tc.c j hj).1
  have h6 := tc.ok.c6
  clear tc g2 g3
  have K0 : Bx (w.alloc (.cells #[.slice T.AS T.nS T.cS, .slice T.AC T.nC T.cC, .slice T.AK T.nK T.cK, .int .i64 T.L, .int .i64 T.W] 26)) (w.heap.size) 26 [.slice T.AS T.nS T.cS, .slice T.AC T.nC T.cC, .slice T.AK T.nK T.cK, .int .i64 T.L, .int .i64 T.W] := bx_new w [.slice T.AS T.nS T.cS, .slice T.AC T.nC T.cC, .slice T.AK T.nK T.cK, .int .i64 T.L, .int .i64 T.W] 26
  have B : Below w.heap.size w (w.alloc (.cells #[.slice T.AS T.nS T.cS, .slice T.AC T.nC T.cC, .slice T.AK T.nK T.cK, .int .i64 T.L, .int .i64 T.W] 26)) := ((Below.refl _ _).alloc (Nat.le_refl _) _)
  replace h := h.below (show Below w.heap.size w (w.alloc (.cells #[.slice T.AS T.nS T.cS, .slice T.AC T.nC T.cC, .slice T.AK T.nK T.cK, .int .i64 T.L, .int .i64 T.W] 26)) from B)
  have k0_0 := K0.cell (i := 0) rfl
  have k0_1 := K0.cell (i := 1) rfl
  have k0_2 := K0.cell (i := 2) rfl
  have k0_3 := K0.cell (i := 3) rfl
  have k0_4 := K0.cell (i := 4) rfl
  go_enter Try.func3, Try.ntmps3
  go_wp2_with (fail)
  with_reducible refine (pays_any _).mono ?_
  rintro e w1 ⟨rfl, hb⟩
  clear k0_0 k0_1 k0_2 k0_3 k0_4
  replace K0 := K0.below hb
  replace h := h.below hb
  replace B := below_step B hb B.size
  clear hb
  have k0_0 := K0.cell (i := 0) rfl
  have k0_1 := K0.cell (i := 1) rfl
  have k0_2 := K0.cell (i := 2) rfl
  have k0_3 := K0.cell (i := 3) rfl
  have k0_4 := K0.cell (i := 4) rfl
  go_wp2_with (fail)
  with_reducible refine (lfits_any T _ h hF).mono ?_
  rintro e w2 ⟨he, hb⟩
  clear k0_0 k0_1 k0_2 k0_3 k0_4
  replace K0 := K0.below hb
  replace h := h.below hb
  replace B := below_step B hb B.size
  clear hb
  have k0_0 := K0.cell (i := 0) rfl
  have k0_1 := K0.cell (i := 1) rfl
  have k0_2 := K0.cell (i := 2) rfl
  have k0_3 := K0.cell (i := 3) rfl
  have k0_4 := K0.cell (i := 4) rfl
  rw [g] at he
  subst he
  obtain ⟨b, o, hA, hcc⟩ := id (h.2.1 (by omega))
  obtain ⟨g0, g1, g2, g3, g4, g5, hbd⟩ := hcc j hj
  clear hcc h hF
  clear k0_0 k0_1 k0_2 k0_3 k0_4
  generalize T.AC = AC at *
  subst hA
  generalize T.C j = c at *
  have k0_0 := K0.cell (i := 0) rfl
  have k0_1 := K0.cell (i := 1) rfl
  have k0_2 := K0.cell (i := 2) rfl
  have k0_3 := K0.cell (i := 3) rfl
  have k0_4 := K0.cell (i := 4) rfl
  have K9 := bx_new w2 [.string c.N, .int .i64 c.B, .slice c.b.A c.b.n c.b.c, .int .i64 c.P, .int .i64 c.Y, .int .i64 c.W] 31
  have NB := below_new w2 (.cells #[.string c.N, .int .i64 c.B, .slice c.b.A c.b.n c.b.c, .int .i64 c.P, .int .i64 c.Y, .int .i64 c.W] 31)
  replace hbd := hbd.below NB
  replace B := below_step B NB B.size
  clear NB
  have k9_0 := K9.cell (i := 0) rfl
  have k9_1 := K9.cell (i := 1) rfl
  have k9_2 := K9.cell (i := 2) rfl
  have k9_3 := K9.cell (i := 3) rfl
  have k9_4 := K9.cell (i := 4) rfl
  have k9_5 := K9.cell (i := 5) rfl
  have cD := fun w h => sdue_amt c x w h okc hq
  have cE := fun w h => sexact_amt c x w h okc hq
  dsimp only [CB.v] at cD cE
  have hxx := amtB_no hq
  have key : decide (100000000000 < x) = true ∨ (decide (100000000000 < x) = false ∧ decide (x < -100000000000) = true) := by
    simp only [decide_eq_true_eq, decide_eq_false_iff_not]; omega
  clear okc mw hxx hq
  go_wp2_with (fail)
  with_reducible refine (cD _ hbd).mono ?_
  rintro e wa ⟨rfl, NB⟩
  replace K9 := K9.below NB
  replace hbd := hbd.below NB
  replace B := below_step B NB B.size
  clear NB cD g0 g1 g2 g3 g4 g5 k0_0 k0_1 k0_2 k0_3 k0_4
  clear k9_0 k9_1 k9_2 k9_3 k9_4 k9_5
  have K8 := bx_new wa [.int .i64 0, .int .i64 0] 33
  have NB := below_new wa (.cells #[.int .i64 0, .int .i64 0] 33)
  replace K9 := K9.below NB
  replace hbd := hbd.below NB
  replace B := below_step B NB B.size
  clear NB
  have k9_0 := K9.cell (i := 0) rfl
  have k9_1 := K9.cell (i := 1) rfl
  have k9_2 := K9.cell (i := 2) rfl
  have k9_3 := K9.cell (i := 3) rfl
  have k9_4 := K9.cell (i := 4) rfl
  have k9_5 := K9.cell (i := 5) rfl
  go_wp2_with (fail)
  with_reducible refine (cE _ hbd).mono ?_
  rintro e wb ⟨rfl, NB⟩
  replace K8 := K8.below NB
  replace B := below_step B NB B.size
  clear NB cE k9_0 k9_1 k9_2 k9_3 k9_4 k9_5
  have k8_0 := K8.cell (i := 0) rfl
  have k8_1 := K8.cell (i := 1) rfl
  rcases key with p1 | ⟨p1, p2⟩
  all_goals
    go_wp2
    go_ret
    exact ⟨rfl, B⟩
set_option maxRecDepth 100000 in
set_option maxHeartbeats 8000000 in
theorem sd_ok (T : TB) (i x : Int) (w : World) (h : Tm w T) (hF : TFits T) (hx : -9223372036854775808 ≤ x ∧ x ≤ 9223372036854775807) (g : lfB T = true) (g2 : 0 ≤ i) (g3 : ¬ (T.nC : Int) ≤ i) (hq : amtB x = true) :
    Calls Try.prog 3 #[.agg #[.slice T.AS T.nS T.cS, .slice T.AC T.nC T.cC, .slice T.AK T.nK T.cK, .int .i64 T.L, .int .i64 T.W], .int .i64 i, .int .i64 x] w fun e w' => e = .returned (.bool true) ∧ Below w.heap.size w w' := by
  obtain ⟨j, rfl⟩ : ∃ j : Nat, i = (j : Int) := ⟨i.toNat, by omega⟩
  have q0 : decide ((j : Int) < 0) = false := decide_eq_false (by omega)
  have q1 : decide ((T.nC : Int) ≤ (j : Int)) = false := decide_eq_false (by omega)
  have q2 : ¬ T.nC ≤ j := by omega
  have hj : j < T.nC := by omega
  have hji : (j : Int) < (T.nC : Int) := by omega
  have tc := lf_tc g
  have okc := tc.ok.c j hj
  have mw := (tc.c j hj).1
  have h6 := tc.ok.c6
  clear tc g2 g3
  have K0 : Bx (w.alloc (.cells #[.slice T.AS T.nS T.cS, .slice T.AC T.nC T.cC, .slice T.AK T.nK T.cK, .int .i64 T.L, .int .i64 T.W] 26)) (w.heap.size) 26 [.slice T.AS T.nS T.cS, .slice T.AC T.nC T.cC, .slice T.AK T.nK T.cK, .int .i64 T.L, .int .i64 T.W] := bx_new w [.slice T.AS T.nS T.cS, .slice T.AC T.nC T.cC, .slice T.AK T.nK T.cK, .int .i64 T.L, .int .i64 T.W] 26
  have B : Below w.heap.size w (w.alloc (.cells #[.slice T.AS T.nS T.cS, .slice T.AC T.nC T.cC, .slice T.AK T.nK T.cK, .int .i64 T.L, .int .i64 T.W] 26)) := ((Below.refl _ _).alloc (Nat.le_refl _) _)
  replace h := h.below (show Below w.heap.size w (w.alloc (.cells #[.slice T.AS T.nS T.cS, .slice T.AC T.nC T.cC, .slice T.AK T.nK T.cK, .int .i64 T.L, .int .i64 T.W] 26)) from B)
  have k0_0 := K0.cell (i := 0) rfl
  have k0_1 := K0.cell (i := 1) rfl
  have k0_2 := K0.cell (i := 2) rfl
  have k0_3 := K0.cell (i := 3) rfl
  have k0_4 := K0.cell (i := 4) rfl
  go_enter Try.func3, Try.ntmps3
  go_wp2_with (fail)
  with_reducible refine (pays_any _).mono ?_
  rintro e w1 ⟨rfl, hb⟩
  clear k0_0 k0_1 k0_2 k0_3 k0_4
  replace K0 := K0.below hb
  replace h := h.below hb
  replace B := below_step B hb B.size
  clear hb
  have k0_0 := K0.cell (i := 0) rfl
  have k0_1 := K0.cell (i := 1) rfl
  have k0_2 := K0.cell (i := 2) rfl
  have k0_3 := K0.cell (i := 3) rfl
  have k0_4 := K0.cell (i := 4) rfl
  go_wp2_with (fail)
  with_reducible refine (lfits_any T _ h hF).mono ?_
  rintro e w2 ⟨he, hb⟩
  clear k0_0 k0_1 k0_2 k0_3 k0_4
  replace K0 := K0.below hb
  replace h := h.below hb
  replace B := below_step B hb B.size
  clear hb
  have k0_0 := K0.cell (i := 0) rfl
  have k0_1 := K0.cell (i := 1) rfl
  have k0_2 := K0.cell (i := 2) rfl
  have k0_3 := K0.cell (i := 3) rfl
  have k0_4 := K0.cell (i := 4) rfl
  rw [g] at he
  subst he
  obtain ⟨b, o, hA, hcc⟩ := id (h.2.1 (by omega))
  obtain ⟨g0, g1, g2, g3, g4, g5, hbd⟩ := hcc j hj
  clear hcc h hF
  clear k0_0 k0_1 k0_2 k0_3 k0_4
  generalize T.AC = AC at *
  subst hA
  generalize T.C j = c at *
  have k0_0 := K0.cell (i := 0) rfl
  have k0_1 := K0.cell (i := 1) rfl
  have k0_2 := K0.cell (i := 2) rfl
  have k0_3 := K0.cell (i := 3) rfl
  have k0_4 := K0.cell (i := 4) rfl
  have K9 := bx_new w2 [.string c.N, .int .i64 c.B, .slice c.b.A c.b.n c.b.c, .int .i64 c.P, .int .i64 c.Y, .int .i64 c.W] 31
  have NB := below_new w2 (.cells #[.string c.N, .int .i64 c.B, .slice c.b.A c.b.n c.b.c, .int .i64 c.P, .int .i64 c.Y, .int .i64 c.W] 31)
  replace hbd := hbd.below NB
  replace B := below_step B NB B.size
  clear NB
  have k9_0 := K9.cell (i := 0) rfl
  have k9_1 := K9.cell (i := 1) rfl
  have k9_2 := K9.cell (i := 2) rfl
  have k9_3 := K9.cell (i := 3) rfl
  have k9_4 := K9.cell (i := 4) rfl
  have k9_5 := K9.cell (i := 5) rfl
  have cD := fun w h => sdue_ok c x w h okc mw hq
  have cE := fun w h => sexact_ok c x w h okc hq
  have cL := fun w h => ldue_any c x w h okc mw hq
  dsimp only [CB.v] at cD cE
  have hxx := amtB_yes hq
  have p1 : decide (100000000000 < x) = false := decide_eq_false (by omega)
  have p2 : decide (x < -100000000000) = false := decide_eq_false (by omega)
  have eA := exact_bd okc.1 okc.2.2.1 okc.2.2.2.1 okc.2.2.2.2.1 hxx.2
  have eB := exact_bd okc.1 okc.2.2.1 okc.2.2.2.1 okc.2.2.2.2.2 hxx.2
  have rX := fun W hW => refx_any x c.b.A c.b.n c.b.c W c.b.F c.b.R c.b.E hW okc hq
  have rY := fun W hW => refy_any x c.b.A c.b.n c.b.c W c.b.F c.b.R c.b.E hW okc hq
  generalize exactV c.b.F c.b.R c.b.n x = u at *
  generalize exactV c.b.F c.b.E c.b.n x = v at *
  have cS := fun sx sy W ix iy => sides_ok sx sy u v ix iy (sdB_mk (by omega) (by omega)) (sdB_mk (by omega) (by omega)) W
  generalize dueA c x = da at *
  generalize dueB c x = db at *
  clear okc mw hxx hq eA eB
  go_wp2_with (fail)
  with_reducible refine (cD _ hbd).mono ?_
  rintro e wa ⟨rfl, NB⟩
  replace K9 := K9.below NB
  replace hbd := hbd.below NB
  replace B := below_step B NB B.size
  clear NB cD g0 g1 g2 g3 g4 g5 k0_0 k0_1 k0_2 k0_3 k0_4
  clear k9_0 k9_1 k9_2 k9_3 k9_4 k9_5
  have K8 := bx_new wa [.int .i64 da, .int .i64 db] 33
  have NB := below_new wa (.cells #[.int .i64 da, .int .i64 db] 33)
  replace K9 := K9.below NB
  replace hbd := hbd.below NB
  replace B := below_step B NB B.size
  clear NB
  have k9_0 := K9.cell (i := 0) rfl
  have k9_1 := K9.cell (i := 1) rfl
  have k9_2 := K9.cell (i := 2) rfl
  have k9_3 := K9.cell (i := 3) rfl
  have k9_4 := K9.cell (i := 4) rfl
  have k9_5 := K9.cell (i := 5) rfl
  go_wp2_with (fail)
  with_reducible refine (cE _ hbd).mono ?_
  rintro e W4 ⟨sx, sy, rfl, ix, iy, NB⟩
  replace K8 := K8.below NB
  replace K9 := K9.below NB
  replace hbd := hbd.below NB
  replace B := below_step B NB B.size
  clear NB cE k9_0 k9_1 k9_2 k9_3 k9_4 k9_5
  go_wp2_with (fail)
  with_reducible refine (cS sx sy _ ix iy).mono ?_
  rintro e w9 ⟨rfl, rfl⟩
  go_wp2_with (fail)
  have cL2 := fun (d : Nat) (os : Array Obj) => Calls.regrown_of (d := d) (os := os) (w := W4) (cL (grow (redrawn W4 d) os) (hbd.below (below_regrown W4 d os)))
  have rX2 := fun (d : Nat) (os : Array Obj) => Calls.regrown_of (d := d) (os := os) (w := W4) ((rX (grow (redrawn W4 d) os) (hbd.below (below_regrown W4 d os))).mono fun _ _ hh => ⟨hh.1, hh.2 ▸ Below.refl _ _⟩)
  have rY2 := fun (d : Nat) (os : Array Obj) => Calls.regrown_of (d := d) (os := os) (w := W4) ((rY (grow (redrawn W4 d) os) (hbd.below (below_regrown W4 d os))).mono fun _ _ hh => ⟨hh.1, hh.2 ▸ Below.refl _ _⟩)
  have e0 := fun d os => cell_regrown (K9.cell (i := 0) rfl) d os
  have e1 := fun d os => cell_regrown (K9.cell (i := 1) rfl) d os
  have e2 := fun d os => cell_regrown (K9.cell (i := 2) rfl) d os
  have e3 := fun d os => cell_regrown (K9.cell (i := 3) rfl) d os
  have e4 := fun d os => cell_regrown (K9.cell (i := 4) rfl) d os
  have e5 := fun d os => cell_regrown (K9.cell (i := 5) rfl) d os
  have f0 := fun d os => cell_regrown (K8.cell (i := 0) rfl) d os
  have f1 := fun d os => cell_regrown (K8.cell (i := 1) rfl) d os
  refine wp_region_quiet_below mixedAll (by kernel_rfl) ?_
  iterate 14 (go_big_quiet_step (fail))
  go_big_quiet_step (exact cL2 _ _)
  iterate 7 (go_big_quiet_step (fail))
  go_big_quiet_step (exact rX2 _ _)
  iterate 7 (go_big_quiet_step (fail))
  go_big_quiet_step (exact rY2 _ _)
  repeat (go_big_quiet_step (fail))
  refine wpQuiet_nil ?_
  intro _ hw'
  obtain ⟨⟨dq, osq⟩, hw''⟩ := hw'
  subst hw''
  have B5 := below_step B (below_regrown W4 dq osq) B.size
  go_wp2
  go_ret
  exact ⟨rfl, B5⟩
theorem wSocialDue (T : TB) (i x : Int) (w : World) (h : Tm w T) (hF : TFits T) (hi : -9223372036854775808 ≤ i ∧ i ≤ 9223372036854775807) (hx : -9223372036854775808 ≤ x ∧ x ≤ 9223372036854775807) :
    Calls Try.prog 3 #[.agg #[.slice T.AS T.nS T.cS, .slice T.AC T.nC T.cC, .slice T.AK T.nK T.cK, .int .i64 T.L, .int .i64 T.W], .int .i64 i, .int .i64 x] w fun e w' => e = .returned (.bool true) ∧ Below w.heap.size w w' := by
  cases g : lfB T
  · exact sd_no T i x w h hF hx g
  · by_cases g2 : i < 0
    · exact sd_neg T i x w h hF hx g g2
    · by_cases g3 : (T.nC : Int) ≤ i
      · exact sd_far T i x w h hF hx g (by omega) g3
      · cases hq : amtB x
        · exact sd_bad T i x w h hF hx g (by omega) g3 hq
        · exact sd_ok T i x w h hF hx g (by omega) g3 hq
end Go.Proofs.Ytifoapaoamhgcaa
