/- KeepChecks: the whole walk. -/
import Derived.Test.YtoppipjbdakmeaaTabS
import Derived.Test.YtoppipjbdakmeaaOpenT
namespace Go.Proofs.Ytoppipjbdakmeaa
open Go.RowKit Go.Sort
set_option linter.unusedVariables false
set_option linter.unusedSimpArgs false

/-- the worst choice, of a table that may be, and of one that may not -/
theorem worst_0 (w : World) (T : TB) (h : Tm w T) (hz : Tsz T) (hc : T.chk = 0) : Calls Try.prog 11 #[T.v] w fun e w' =>
    ∃ A c, e = .returned (.tuple #[.agg #[.int .i64 (allW T.S T.L T.nS).1, .int .i64 (allW T.S T.L T.nS).2.1, .slice A T.nC c, .int .i64 (keptW T)], .int .i64 0]) ∧ Ro w' w.heap.size (.slice A T.nC c) T.nC (fun i => (steep (T.C i).b.R (T.C i).b.n : Nat)) ∧ Below w.heap.size w w' := by
  refine (worst_ok w T h hz hc).mono ?_
  rintro e w' ⟨v, he, hr, hb⟩
  obtain ⟨A, c, rfl⟩ := own_slice hr
  exact ⟨A, c, he, hr, hb⟩
set_option maxHeartbeats 4000000 in
set_option maxRecDepth 100000 in
theorem wKeepChecks (T : TB) (w : World) (h : Tm w T) (hf : TFits T) :
    Calls Try.prog 3 #[T.v] w fun e w' => e = .returned (.bool true) ∧ Below w.heap.size w w' := by
  have kK := keeps_any
  have kS := fun w' (q : Tm w' T) => small_tab w' T q
  have kC := fun w' (q : Tm w' T) (hz : Tsz T) => check_tab w' T q hz
  have kE := fun w' (q : Tm w' T) (hz : Tsz T) => kcheck_any w' T q hz
  have kB := fun w' (q : Tm w' T) (hz : Tsz T) (hc : T.chk ≠ 0) => worst_bad w' T q hz hc
  have kO := fun w' (q : Tm w' T) (hz : Tsz T) (hc : T.chk = 0) => worst_0 w' T q hz hc
  have kL := fun w' (q : Tm w' T) (OK : TOk T) => least_any w' T q OK hf.2.1.2
  have hok : T.chk = 0 → TOk T := tok_of
  have hbd : T.chk = 0 → -60000 ≤ keptW T ∧ keptW T ≤ 10000 := kept_bd
  have HKE : Hid (kchk T = if T.chk = 0 then (if keptW T < 500 then 100 else 0) else T.chk) := Lib.hid rfl
  generalize kchk T = ke at *
  generalize T.chk = v at *
  generalize keptW T = kw at *
  clear hf
  obtain ⟨AS, nS, cS, AC, nC, cC, AK, nK, cK, L, W, S, C, K⟩ := T
  dsimp only [TB.v] at *
  have B0 := below_new w (.cells #[.slice AS nS cS, .slice AC nC cC, .slice AK nK cK, .int .i64 L, .int .i64 W] 26)
  have M0 := h.below B0
  obtain ⟨z0, z1, z2, z3, z4⟩ := cells5 w (.slice AS nS cS) (.slice AC nC cC) (.slice AK nK cK) (.int .i64 L) (.int .i64 W) 26
  generalize hw1 : w.alloc (.cells #[.slice AS nS cS, .slice AC nC cC, .slice AK nK cK, .int .i64 L, .int .i64 W] 26) = w1 at *
  have M1 := M0
  clear h M0
  go_enter Try.func3, Try.ntmps3
  go_wp2_with (fail)
  refine (kK _).mono ?_
  rintro e w2 ⟨rfl, hb⟩
  have B1 := below_step B0 hb B0.size
  have M2 := M1.below hb
  replace z0 := cell_later hb z0
  replace z1 := cell_later hb z1
  replace z2 := cell_later hb z2
  replace z3 := cell_later hb z3
  replace z4 := cell_later hb z4
  clear hb
  go_wp2_with (fail)
  refine (kS _ M2).mono ?_
  rintro e w3 ⟨bs, rfl, hsm, hb⟩
  have B2 := below_step B1 hb B1.size
  have M3 := M2.below hb
  replace z0 := cell_later hb z0
  replace z1 := cell_later hb z1
  replace z2 := cell_later hb z2
  replace z3 := cell_later hb z3
  replace z4 := cell_later hb z4
  clear hb
  cases bs
  · go_wp2
    go_ret
    exact ⟨rfl, B2⟩
  have SM := hsm rfl
  clear hsm
  go_wp2_with (fail)
  refine (kE _ M3 SM.sz).mono ?_
  rintro e w4 ⟨rfl, hb⟩
  have B3 := below_step B2 hb B2.size
  have M4 := M3.below hb
  replace z0 := cell_later hb z0
  replace z1 := cell_later hb z1
  replace z2 := cell_later hb z2
  replace z3 := cell_later hb z3
  replace z4 := cell_later hb z4
  clear hb
  go_wp2_with (fail)
  refine (kC _ M4 SM.sz).mono ?_
  rintro e w5 ⟨rfl, hb⟩
  have B4 := below_step B3 hb B3.size
  have M5 := M4.below hb
  replace z0 := cell_later hb z0
  replace z1 := cell_later hb z1
  replace z2 := cell_later hb z2
  replace z3 := cell_later hb z3
  replace z4 := cell_later hb z4
  clear hb
  by_cases hv : v = 0
  · subst hv
    have OK := hok rfl
    have hb := hbd rfl
    clear kB hok hbd kK kS kC kE
    go_wp2_with (fail)
    refine (kL _ M5 OK).mono ?_
    rintro e w6 ⟨rfl, hb9⟩
    have B5 := below_step B4 hb9 B4.size
    have M6 := M5.below hb9
    replace z0 := cell_later hb9 z0
    replace z1 := cell_later hb9 z1
    replace z2 := cell_later hb9 z2
    replace z3 := cell_later hb9 z3
    replace z4 := cell_later hb9 z4
    clear hb9
    go_wp2_with (fail)
    refine (kO _ M6 SM.sz (by simp)).mono ?_
    rintro e w7 ⟨A, c, rfl, _, hb7⟩
    have B6 := below_step B5 hb7 B5.size
    clear hb7
    generalize (allW S L nS).1 = a1 at *
    generalize (allW S L nS).2.1 = a2 at *
    by_cases hk : kw < 500
    · have hke := HKE.out
      simp only [if_true, if_pos hk] at hke
      have t1 : decide (10000 ≤ kw * 20) = false := by simp; omega
      subst hke
      go_wp2
      go_ret
      exact ⟨rfl, B6.alloc B6.size _⟩
    · have hke := HKE.out
      simp only [if_true, if_neg hk] at hke
      have t1 : decide (10000 ≤ kw * 20) = true := by simp; omega
      subst hke
      go_wp2
      go_ret
      exact ⟨rfl, B6.alloc B6.size _⟩
  · have hke := HKE.out
    rw [if_neg hv] at hke
    clear HKE
    subst hke
    have t1 : (ke != 0) = true := by simpa using hv
    go_wp2_with (fail)
    refine (kB _ M5 SM.sz hv).mono ?_
    rintro e w6 ⟨rfl, hb⟩
    have B5 := below_step B4 hb B4.size
    go_wp2
    go_ret
    exact ⟨rfl, B5.alloc B5.size _⟩
end Go.Proofs.Ytoppipjbdakmeaa
