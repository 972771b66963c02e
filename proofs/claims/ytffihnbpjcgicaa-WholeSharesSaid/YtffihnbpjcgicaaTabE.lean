/- What table.Check answers of any table. -/
import Derived.Test.YtffihnbpjcgicaaTabD
import Derived.LoopN
import Derived.Laws.EntriesVeiled
namespace Go.Proofs.Ytffihnbpjcgicaa
open Go.RowKit
set_option linter.unusedVariables false
set_option linter.unusedSimpArgs false

/-- what is known of the sizes of a table -/
structure Tsz (T : TB) : Prop where
  c : T.nC ≤ 9223372036854775807
  k : T.nK ≤ 9223372036854775807
  sb : T.nS ≤ 8 → ∀ i, i < T.nS → (T.S i).n ≤ 9223372036854775807
  cb : T.nC ≤ 6 → ∀ i, i < T.nC → (T.C i).b.n ≤ 9223372036854775807
def chkR (h s c k : Int) : Int := if h = 0 then (if s = 0 then (if c = 0 then k else c) else s) else h
theorem looks_any (w : World) : Calls Try.prog 18 #[] w fun e w' => e = .returned (.agg #[.func (.func 24) #[] #[], .func (.func 25) #[] #[], .func (.func 26) #[] #[], .func (.func 27) #[] #[]]) ∧ Below w.heap.size w w' := by
  go_enter Try.func18, Try.ntmps18
  go_wp2
  exact bodyPost_ret (v := .agg #[.func (.func 24) #[] #[], .func (.func 25) #[] #[], .func (.func 26) #[] #[], .func (.func 27) #[] #[]]) (by simp [results, Try.results18, go_sem]) rfl ⟨rfl, (Below.refl _ _).alloc (Nat.le_refl _) _⟩
theorem look_0 (W : World) : (Instr.index 59 (.agg #[.func (.func 24) #[] #[], .func (.func 25) #[] #[], .func (.func 26) #[] #[], .func (.func 27) #[] #[]]) (.int .i64 0)).run Try.prog W = .ok (.func (.func 24) #[] #[]) W := by kernel_rfl
theorem look_1 (W : World) : (Instr.index 59 (.agg #[.func (.func 24) #[] #[], .func (.func 25) #[] #[], .func (.func 26) #[] #[], .func (.func 27) #[] #[]]) (.int .i64 1)).run Try.prog W = .ok (.func (.func 25) #[] #[]) W := by kernel_rfl
theorem look_2 (W : World) : (Instr.index 59 (.agg #[.func (.func 24) #[] #[], .func (.func 25) #[] #[], .func (.func 26) #[] #[], .func (.func 27) #[] #[]]) (.int .i64 2)).run Try.prog W = .ok (.func (.func 26) #[] #[]) W := by kernel_rfl
theorem look_3 (W : World) : (Instr.index 59 (.agg #[.func (.func 24) #[] #[], .func (.func 25) #[] #[], .func (.func 26) #[] #[], .func (.func 27) #[] #[]]) (.int .i64 3)).run Try.prog W = .ok (.func (.func 27) #[] #[]) W := by kernel_rfl
set_option maxHeartbeats 2000000 in
set_option maxRecDepth 100000 in
theorem check_tab (w : World) (T : TB) (h : Tm w T) (hz : Tsz T) :
    Calls Try.prog 7 #[T.v] w fun e w' => e = .returned (.int .i64 T.chk) ∧ Below w.heap.size w w' := by
  have H1 := fun w => head_any w T.AS T.AC T.AK T.nS T.nC T.nK T.cS T.cC T.cK T.L T.W
  have H2 := fun w' (q : Tm w' T) => schemes_any w' T.AS T.AC T.AK T.nS T.nC T.nK T.cS T.cC T.cK T.L T.W T.S q.1 hz.sb
  have H3 := fun w' (q : Tm w' T) => contribs_any w' T.AC T.AS T.AK T.nC T.cC T.nS T.cS T.nK T.cK T.L T.W T.C q.2.1 hz.c hz.cb
  have H4 := fun w' (q : Tm w' T) => kinds_any w' T.AK T.AS T.AC T.nK T.cK T.nS T.cS T.nC T.cC T.L T.W T.K q.2.2 hz.k
  have hR : T.chk = chkR (headE T.L T.W) (schsE T.S T.nS) (consE T.C T.nC) (kinsE T.K T.nK) := rfl
  rw [hR]
  clear hR
  generalize headE T.L T.W = v1 at *
  generalize schsE T.S T.nS = v2 at *
  generalize consE T.C T.nC = v3 at *
  generalize kinsE T.K T.nK = v4 at *
  unfold chkR
  obtain ⟨AS, nS, cS, AC, nC, cC, AK, nK, cK, L, W, S, C, K⟩ := T
  dsimp only [TB.v] at *
  have B0 := below_new w (.cells #[.slice AS nS cS, .slice AC nC cC, .slice AK nK cK, .int .i64 L, .int .i64 W] 26)
  have M0 := h.below B0
  have hsz0 : w.heap.size < (w.alloc (.cells #[.slice AS nS cS, .slice AC nC cC, .slice AK nK cK, .int .i64 L, .int .i64 W] 26)).heap.size := by simp
  obtain ⟨z0, z1, z2, z3, z4⟩ := cells5 w (.slice AS nS cS) (.slice AC nC cC) (.slice AK nK cK) (.int .i64 L) (.int .i64 W) 26
  have LK := fun w => looks_any w
  have ix0 := look_0
  have ix1 := look_1
  have ix2 := look_2
  have ix3 := look_3
  generalize hw1 : w.alloc (.cells #[.slice AS nS cS, .slice AC nC cC, .slice AK nK cK, .int .i64 L, .int .i64 W] 26) = w1 at *
  by_cases h1 : v1 = 0
  · skip
    rw [if_pos h1]
    subst h1
    by_cases h2 : v2 = 0
    · skip
      rw [if_pos h2]
      subst h2
      by_cases h3 : v3 = 0
      · skip
        rw [if_pos h3]
        subst h3
        by_cases h4 : v4 = 0
        · skip
          subst h4
          go_enter Try.func7, Try.ntmps7
          go_wp2_with (fail)
          refine (LK _).mono ?_
          rintro e w2 ⟨rfl, hb⟩
          have B1 := below_step B0 hb B0.size
          have M1 := M0.below hb
          replace z0 := cell_later hb z0
          replace z1 := cell_later hb z1
          replace z2 := cell_later hb z2
          replace z3 := cell_later hb z3
          replace z4 := cell_later hb z4
          clear hb
          go_wp2_with (fail)
          refine wp_loop_rounds 5 ?_
          rw [rounds_succ]
          go_wp2_with (fail)
          refine (H1 _).mono ?_
          rintro e w3 ⟨rfl, hb⟩
          have B2 := below_step B1 hb B1.size
          have M2 := M1.below hb
          replace z0 := cell_later hb z0
          replace z1 := cell_later hb z1
          replace z2 := cell_later hb z2
          replace z3 := cell_later hb z3
          replace z4 := cell_later hb z4
          clear hb
          go_wp2_with (fail)
          rw [rounds_succ]
          go_wp2_with (fail)
          refine (H2 _ M2).mono ?_
          rintro e w4 ⟨rfl, hb⟩
          have B3 := below_step B2 hb B2.size
          have M3 := M2.below hb
          replace z0 := cell_later hb z0
          replace z1 := cell_later hb z1
          replace z2 := cell_later hb z2
          replace z3 := cell_later hb z3
          replace z4 := cell_later hb z4
          clear hb
          go_wp2_with (fail)
          rw [rounds_succ]
          go_wp2_with (fail)
          refine (H3 _ M3).mono ?_
          rintro e w5 ⟨rfl, hb⟩
          have B4 := below_step B3 hb B3.size
          have M4 := M3.below hb
          replace z0 := cell_later hb z0
          replace z1 := cell_later hb z1
          replace z2 := cell_later hb z2
          replace z3 := cell_later hb z3
          replace z4 := cell_later hb z4
          clear hb
          go_wp2_with (fail)
          rw [rounds_succ]
          go_wp2_with (fail)
          refine (H4 _ M4).mono ?_
          rintro e w6 ⟨rfl, hb⟩
          have B5 := below_step B4 hb B4.size
          have M5 := M4.below hb
          replace z0 := cell_later hb z0
          replace z1 := cell_later hb z1
          replace z2 := cell_later hb z2
          replace z3 := cell_later hb z3
          replace z4 := cell_later hb z4
          clear hb
          go_wp2_with (fail)
          rw [rounds_succ]
          go_wp2
          go_ret
          exact ⟨rfl, B5⟩
        · have t4 : (v4 != 0) = true := by simpa using h4
          clear h4
          go_enter Try.func7, Try.ntmps7
          go_wp2_with (fail)
          refine (LK _).mono ?_
          rintro e w2 ⟨rfl, hb⟩
          have B1 := below_step B0 hb B0.size
          have M1 := M0.below hb
          replace z0 := cell_later hb z0
          replace z1 := cell_later hb z1
          replace z2 := cell_later hb z2
          replace z3 := cell_later hb z3
          replace z4 := cell_later hb z4
          clear hb
          go_wp2_with (fail)
          refine wp_loop_rounds 5 ?_
          rw [rounds_succ]
          go_wp2_with (fail)
          refine (H1 _).mono ?_
          rintro e w3 ⟨rfl, hb⟩
          have B2 := below_step B1 hb B1.size
          have M2 := M1.below hb
          replace z0 := cell_later hb z0
          replace z1 := cell_later hb z1
          replace z2 := cell_later hb z2
          replace z3 := cell_later hb z3
          replace z4 := cell_later hb z4
          clear hb
          go_wp2_with (fail)
          rw [rounds_succ]
          go_wp2_with (fail)
          refine (H2 _ M2).mono ?_
          rintro e w4 ⟨rfl, hb⟩
          have B3 := below_step B2 hb B2.size
          have M3 := M2.below hb
          replace z0 := cell_later hb z0
          replace z1 := cell_later hb z1
          replace z2 := cell_later hb z2
          replace z3 := cell_later hb z3
          replace z4 := cell_later hb z4
          clear hb
          go_wp2_with (fail)
          rw [rounds_succ]
          go_wp2_with (fail)
          refine (H3 _ M3).mono ?_
          rintro e w5 ⟨rfl, hb⟩
          have B4 := below_step B3 hb B3.size
          have M4 := M3.below hb
          replace z0 := cell_later hb z0
          replace z1 := cell_later hb z1
          replace z2 := cell_later hb z2
          replace z3 := cell_later hb z3
          replace z4 := cell_later hb z4
          clear hb
          go_wp2_with (fail)
          rw [rounds_succ]
          go_wp2_with (fail)
          refine (H4 _ M4).mono ?_
          rintro e w6 ⟨rfl, hb⟩
          have B5 := below_step B4 hb B4.size
          have M5 := M4.below hb
          replace z0 := cell_later hb z0
          replace z1 := cell_later hb z1
          replace z2 := cell_later hb z2
          replace z3 := cell_later hb z3
          replace z4 := cell_later hb z4
          clear hb
          go_wp2
          go_ret
          exact ⟨rfl, B5⟩
      · have t3 : (v3 != 0) = true := by simpa using h3
        rw [if_neg h3]
        clear h3
        go_enter Try.func7, Try.ntmps7
        go_wp2_with (fail)
        refine (LK _).mono ?_
        rintro e w2 ⟨rfl, hb⟩
        have B1 := below_step B0 hb B0.size
        have M1 := M0.below hb
        replace z0 := cell_later hb z0
        replace z1 := cell_later hb z1
        replace z2 := cell_later hb z2
        replace z3 := cell_later hb z3
        replace z4 := cell_later hb z4
        clear hb
        go_wp2_with (fail)
        refine wp_loop_rounds 5 ?_
        rw [rounds_succ]
        go_wp2_with (fail)
        refine (H1 _).mono ?_
        rintro e w3 ⟨rfl, hb⟩
        have B2 := below_step B1 hb B1.size
        have M2 := M1.below hb
        replace z0 := cell_later hb z0
        replace z1 := cell_later hb z1
        replace z2 := cell_later hb z2
        replace z3 := cell_later hb z3
        replace z4 := cell_later hb z4
        clear hb
        go_wp2_with (fail)
        rw [rounds_succ]
        go_wp2_with (fail)
        refine (H2 _ M2).mono ?_
        rintro e w4 ⟨rfl, hb⟩
        have B3 := below_step B2 hb B2.size
        have M3 := M2.below hb
        replace z0 := cell_later hb z0
        replace z1 := cell_later hb z1
        replace z2 := cell_later hb z2
        replace z3 := cell_later hb z3
        replace z4 := cell_later hb z4
        clear hb
        go_wp2_with (fail)
        rw [rounds_succ]
        go_wp2_with (fail)
        refine (H3 _ M3).mono ?_
        rintro e w5 ⟨rfl, hb⟩
        have B4 := below_step B3 hb B3.size
        have M4 := M3.below hb
        replace z0 := cell_later hb z0
        replace z1 := cell_later hb z1
        replace z2 := cell_later hb z2
        replace z3 := cell_later hb z3
        replace z4 := cell_later hb z4
        clear hb
        go_wp2
        go_ret
        exact ⟨rfl, B4⟩
    · have t2 : (v2 != 0) = true := by simpa using h2
      rw [if_neg h2]
      clear h2
      go_enter Try.func7, Try.ntmps7
      go_wp2_with (fail)
      refine (LK _).mono ?_
      rintro e w2 ⟨rfl, hb⟩
      have B1 := below_step B0 hb B0.size
      have M1 := M0.below hb
      replace z0 := cell_later hb z0
      replace z1 := cell_later hb z1
      replace z2 := cell_later hb z2
      replace z3 := cell_later hb z3
      replace z4 := cell_later hb z4
      clear hb
      go_wp2_with (fail)
      refine wp_loop_rounds 5 ?_
      rw [rounds_succ]
      go_wp2_with (fail)
      refine (H1 _).mono ?_
      rintro e w3 ⟨rfl, hb⟩
      have B2 := below_step B1 hb B1.size
      have M2 := M1.below hb
      replace z0 := cell_later hb z0
      replace z1 := cell_later hb z1
      replace z2 := cell_later hb z2
      replace z3 := cell_later hb z3
      replace z4 := cell_later hb z4
      clear hb
      go_wp2_with (fail)
      rw [rounds_succ]
      go_wp2_with (fail)
      refine (H2 _ M2).mono ?_
      rintro e w4 ⟨rfl, hb⟩
      have B3 := below_step B2 hb B2.size
      have M3 := M2.below hb
      replace z0 := cell_later hb z0
      replace z1 := cell_later hb z1
      replace z2 := cell_later hb z2
      replace z3 := cell_later hb z3
      replace z4 := cell_later hb z4
      clear hb
      go_wp2
      go_ret
      exact ⟨rfl, B3⟩
  · have t1 : (v1 != 0) = true := by simpa using h1
    rw [if_neg h1]
    clear h1
    go_enter Try.func7, Try.ntmps7
    go_wp2_with (fail)
    refine (LK _).mono ?_
    rintro e w2 ⟨rfl, hb⟩
    have B1 := below_step B0 hb B0.size
    have M1 := M0.below hb
    replace z0 := cell_later hb z0
    replace z1 := cell_later hb z1
    replace z2 := cell_later hb z2
    replace z3 := cell_later hb z3
    replace z4 := cell_later hb z4
    clear hb
    go_wp2_with (fail)
    refine wp_loop_rounds 5 ?_
    rw [rounds_succ]
    go_wp2_with (fail)
    refine (H1 _).mono ?_
    rintro e w3 ⟨rfl, hb⟩
    have B2 := below_step B1 hb B1.size
    have M2 := M1.below hb
    replace z0 := cell_later hb z0
    replace z1 := cell_later hb z1
    replace z2 := cell_later hb z2
    replace z3 := cell_later hb z3
    replace z4 := cell_later hb z4
    clear hb
    go_wp2
    go_ret
    exact ⟨rfl, B2⟩
end Go.Proofs.Ytffihnbpjcgicaa
