/- The walk of the law YearChecks. -/
import Derived.Test.YtffmkdbkfoafcaaYrW
import Derived.Test.YtffmkdbkfoafcaaYrP
namespace Go.Proofs.Ytffmkdbkfoafcaa
open Go.RowKit Go.Sort
set_option linter.unusedVariables false
set_option linter.unusedSimpArgs false

theorem sls_one {W : World} {q : Nat} {s : Slp} (K : Bx W q 27 [.int .i64 s.k, .int .i64 s.ca, .int .i64 s.tb, .int .i64 s.so, .int .i64 s.tx, .int .i64 s.sf, .slice s.A s.n s.c, .int .i64 s.net, .slice s.T s.m s.d, .int .i64 s.pay]) (h : SlM W s) : Sls W (some ⟨q, 0, none⟩) 1 (fun _ => s) := fun _ => ⟨q, 0, rfl, fun i hi => ⟨fun j v hv => by
  obtain rfl : i = 0 := by omega
  rw [show 0 + 0 * 10 + j = j by omega]
  exact K.cell hv, h⟩⟩
set_option maxRecDepth 100000 in
set_option maxHeartbeats 4000000 in
theorem yearChecks_any (s : Slp) (N : Int) (w : World) (h : SlM w s) :
    Calls Try.prog 3 #[.agg #[.int .i64 s.k, .int .i64 s.ca, .int .i64 s.tb, .int .i64 s.so, .int .i64 s.tx, .int .i64 s.sf, .slice s.A s.n s.c, .int .i64 s.net, .slice s.T s.m s.d, .int .i64 s.pay], .int .i64 N] w fun e w' => e = .returned (.bool true) ∧ Below w.heap.size w w' := by
  have K := bx_new w [.int .i64 s.k, .int .i64 s.ca, .int .i64 s.tb, .int .i64 s.so, .int .i64 s.tx, .int .i64 s.sf, .slice s.A s.n s.c, .int .i64 s.net, .slice s.T s.m s.d, .int .i64 s.pay] 27
  have B := below_new w (.cells #[.int .i64 s.k, .int .i64 s.ca, .int .i64 s.tb, .int .i64 s.so, .int .i64 s.tx, .int .i64 s.sf, .slice s.A s.n s.c, .int .i64 s.net, .slice s.T s.m s.d, .int .i64 s.pay] 27)
  replace h := h.below B
  have cK := fun w => keeps_any w
  go_enter Try.func3, Try.ntmps3
  go_wp2_with (fail)
  with_reducible refine (cK _).mono ?_
  rintro e w1 ⟨rfl, hb⟩
  replace B := below_step B hb B.size
  replace K := K.below hb
  replace h := h.below hb
  clear hb cK
  have k_0 := K.cell (i := 0) rfl
  have k_1 := K.cell (i := 1) rfl
  have k_2 := K.cell (i := 2) rfl
  have k_3 := K.cell (i := 3) rfl
  have k_4 := K.cell (i := 4) rfl
  have k_5 := K.cell (i := 5) rfl
  have k_6 := K.cell (i := 6) rfl
  have k_7 := K.cell (i := 7) rfl
  have k_8 := K.cell (i := 8) rfl
  have k_9 := K.cell (i := 9) rfl
  have N1 := below_new w1 (.cells #[.int .i64 s.k, .int .i64 s.ca, .int .i64 s.tb, .int .i64 s.so, .int .i64 s.tx, .int .i64 s.sf, .slice s.A s.n s.c, .int .i64 s.net, .slice s.T s.m s.d, .int .i64 s.pay] 27)
  have K1 := bx_new w1 [.int .i64 s.k, .int .i64 s.ca, .int .i64 s.tb, .int .i64 s.so, .int .i64 s.tx, .int .i64 s.sf, .slice s.A s.n s.c, .int .i64 s.net, .slice s.T s.m s.d, .int .i64 s.pay] 27
  have cS := fun v hv => lsmall_any (some ⟨w1.heap.size, 0, none⟩) 1 1 (fun _ => s) _ (sls_one K1 (h.below N1)) (by omega) v hv
  have B2 := below_step B N1 B.size
  cases hq : (decide (s.n ≤ 30) && decide (s.m ≤ 30))
  · have c2 := cS false (by show ((true && (decide (s.n ≤ 30) && decide (s.m ≤ 30))) && decide (1 ≤ 60)) = false; rw [hq]; rfl)
    clear hq cS
    go_wp2_with (fail)
    with_reducible refine c2.mono ?_
    rintro e w2 ⟨rfl, hb⟩
    have B3 := below_step B2 hb B2.size
    go_wp2
    go_ret
    exact ⟨rfl, B3⟩
  have c2 := cS true (by show ((true && (decide (s.n ≤ 30) && decide (s.m ≤ 30))) && decide (1 ≤ 60)) = true; rw [hq]; rfl)
  simp only [Bool.and_eq_true, decide_eq_true_eq] at hq
  replace K := K.below N1
  replace h := h.below N1
  clear cS N1 K1
  go_wp2_with (fail)
  with_reducible refine c2.mono ?_
  rintro e w2 ⟨rfl, hb⟩
  replace B := below_step B2 hb B2.size
  replace K := K.below hb
  replace h := h.below hb
  clear hb c2 B2 k_0 k_1 k_2 k_3 k_4 k_5 k_6 k_7 k_8 k_9
  go_wp2_with (fail)
  generalize hcv : s.chk N = cv at *
  have cA := fun (d : Nat) (os : Array Obj) => Calls.regrown_of (d := d) (os := os) (w := w2) (ycheck_any s N (grow (redrawn w2 d) os) (h.below (below_regrown w2 d os)) (by omega) (by omega) cv hcv)
  have cB := fun (d : Nat) (os : Array Obj) => Calls.regrown_of (d := d) (os := os) (w := w2) (lwrong_raw s.k s.ca s.tb s.so s.tx s.sf s.A s.n s.c s.net s.T s.m s.d s.pay s.X s.Y s.f N (grow (redrawn w2 d) os) (h.below (below_regrown w2 d os)).sh (h.below (below_regrown w2 d os)).tk (by omega) (by omega) cv hcv)
  have e0 := fun d os => cell_regrown (K.cell (i := 0) rfl) d os
  have e1 := fun d os => cell_regrown (K.cell (i := 1) rfl) d os
  have e2 := fun d os => cell_regrown (K.cell (i := 2) rfl) d os
  have e3 := fun d os => cell_regrown (K.cell (i := 3) rfl) d os
  have e4 := fun d os => cell_regrown (K.cell (i := 4) rfl) d os
  have e5 := fun d os => cell_regrown (K.cell (i := 5) rfl) d os
  have e6 := fun d os => cell_regrown (K.cell (i := 6) rfl) d os
  have e7 := fun d os => cell_regrown (K.cell (i := 7) rfl) d os
  have e8 := fun d os => cell_regrown (K.cell (i := 8) rfl) d os
  have e9 := fun d os => cell_regrown (K.cell (i := 9) rfl) d os
  clear hq hcv
  refine wp_region_quiet_below mixedY (by kernel_rfl) ?_
  iterate 2 (go_big_quiet_step (fail))
  go_big_quiet_step (exact cA _ _)
  iterate 2 (go_big_quiet_step (fail))
  go_big_quiet_step (exact cB _ _)
  repeat (go_big_quiet_step (fail))
  refine wpQuiet_nil ?_
  intro _ hw'
  obtain ⟨⟨dq, osq⟩, hw''⟩ := hw'
  subst hw''
  have NB := below_regrown w2 dq osq
  have B4 := below_step B NB B.size
  clear cA cB NB K h B e0 e1 e2 e3 e4 e5 e6 e7 e8 e9
  generalize grow (redrawn w2 dq) osq = w3 at *
  go_wp2
  go_ret
  exact ⟨rfl, B4⟩
end Go.Proofs.Ytffmkdbkfoafcaa
