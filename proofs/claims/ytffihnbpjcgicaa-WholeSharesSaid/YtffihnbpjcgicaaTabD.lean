/- What lookContribs and lookKinds answer. -/
import Derived.Test.YtffihnbpjcgicaaTabC
import Derived.Lib.QuietBelow
import Derived.BigGuardPart
import Derived.Deep.RegionHeld3
namespace Go.Proofs.Ytffihnbpjcgicaa
open Go.RowKit Go.Sort
set_option linter.unusedVariables false
set_option linter.unusedSimpArgs false

theorem mixedT : Try.prog.follows .mixedOrders = true := by kernel_rfl
theorem conE_eq (C : Nat → CB) (n i : Nat) : conE C n i = if nm (C i).N (decide (conI C (C i).N n < i)) = 0 then
    (if baseB (C i).B && modeB (C i).W && ceilB (C i).P && ceilB (C i).Y then chk (C i).b.F (C i).b.R (C i).b.E (C i).b.n else 1)
  else nm (C i).N (decide (conI C (C i).N n < i)) := rfl
theorem kinE_eq (K : Nat → KB) (n i : Nat) : kinE K n i = if nm (K i).N (decide (kinI K (K i).N n < i)) = 0 then
    (if sgnB (K i).c && sgnB (K i).t && sgnB (K i).s then 0 else 1)
  else nm (K i).N (decide (kinI K (K i).N n < i)) := rfl
theorem to_below {f : Nat} {args : Array Value} {w : World} {x : Ending} (h : Calls Try.prog f args w fun e w' => e = x ∧ w = w') : Calls Try.prog f args w fun e w' => e = x ∧ Below w.heap.size w w' :=
  h.mono fun e w' ⟨h1, h2⟩ => ⟨h1, h2 ▸ Below.refl _ _⟩
set_option maxHeartbeats 4000000 in
set_option maxRecDepth 100000 in
theorem contribs_any (w : World) (A A1 A2 : Option Addr) (n c n1 c1 n2 c2 : Nat) (L W : Int) (C : Nat → CB) (h : ConM w A n C) (hn : n ≤ 9223372036854775807) (hz : n ≤ 6 → ∀ i, i < n → (C i).b.n ≤ 9223372036854775807) :
    Calls Try.prog 26 #[.agg #[.slice A1 n1 c1, .slice A n c, .slice A2 n2 c2, .int .i64 L, .int .i64 W]] w fun e w' => e = .returned (.int .i64 (consE C n)) ∧ Below w.heap.size w w' := by
  unfold consE
  by_cases h6 : 6 < n
  · rw [if_pos (by omega)]
    have t2 : (6 : Int) < n := by omega
    clear h
    go_enter Try.func26, Try.ntmps26
    go_wp2
    go_ret
    exact ⟨rfl, (Below.refl _ _).alloc (Nat.le_refl _) _⟩
  rw [if_neg (by omega)]
  have t2 : ¬ (6 : Int) < n := by omega
  have HZ := Lib.hid (hz (by omega))
  clear hz
  have cn := fun w' (q : ConM w' A n C) N => contrib_any w' A A1 A2 n c n1 c1 n2 c2 L W C N q hn
  have hx : n ≤ 6 := by omega
  clear h6
  go_enter Try.func26, Try.ntmps26
  go_wp2
  go_loopw [14] (fun k W' => ∃ i : Nat, i ≤ n ∧ Hid (firstE (conE C n) i = 0) ∧ k = .int .i64 i ∧ Below w.heap.size w W' ∧ w.heap.size < W'.heap.size ∧ W'.cell? ⟨w.heap.size, 0, none⟩ = some (.slice A1 n1 c1) ∧ W'.cell? ⟨w.heap.size, 1, none⟩ = some (.slice A n c) ∧ W'.cell? ⟨w.heap.size, 2, none⟩ = some (.slice A2 n2 c2) ∧ W'.cell? ⟨w.heap.size, 3, none⟩ = some (.int .i64 L) ∧ W'.cell? ⟨w.heap.size, 4, none⟩ = some (.int .i64 W)) (fun k _ => n - (intOf k).toNat)
  case atStart => exact ⟨0, Nat.zero_le _, Lib.hid rfl, rfl, (Below.refl _ _).alloc (Nat.le_refl _) _, by simp, by simp [go_sem], by simp [go_sem], by simp [go_sem], by simp [go_sem], by simp [go_sem]⟩
  case round =>
    obtain ⟨i, hi, hs, rfl, hb, hsz, z0, z1, z2, z3, z4⟩ := hrel
    by_cases hlt : i < n
    · have hC := h.below hb
      have hn0 : 0 < n := by omega
      obtain ⟨b, o, rfl, hcc⟩ := id (h hn0)
      obtain ⟨g0, g1, g2, g3, g4, g5, _⟩ := hcc i hlt
      clear hcc
      have d0 := cell_later hb g0
      have d1 := cell_later hb g1
      have d2 := cell_later hb g2
      have d3 := cell_later hb g3
      have d4 := cell_later hb g4
      have d5 := cell_later hb g5
      clear g0 g1 g2 g3 g4 g5
      have e0 : (wr.alloc (.cells #[.string (C i).N, .int .i64 (C i).B, .slice (C i).b.A (C i).b.n (C i).b.c, .int .i64 (C i).P, .int .i64 (C i).Y, .int .i64 (C i).W] 58)).cell? ⟨wr.heap.size, 0, none⟩ = some (.string (C i).N) := by simp [go_sem]
      have e1 : (wr.alloc (.cells #[.string (C i).N, .int .i64 (C i).B, .slice (C i).b.A (C i).b.n (C i).b.c, .int .i64 (C i).P, .int .i64 (C i).Y, .int .i64 (C i).W] 58)).cell? ⟨wr.heap.size, 1, none⟩ = some (.int .i64 (C i).B) := by simp [go_sem]
      have e2 : (wr.alloc (.cells #[.string (C i).N, .int .i64 (C i).B, .slice (C i).b.A (C i).b.n (C i).b.c, .int .i64 (C i).P, .int .i64 (C i).Y, .int .i64 (C i).W] 58)).cell? ⟨wr.heap.size, 2, none⟩ = some (.slice (C i).b.A (C i).b.n (C i).b.c) := by simp [go_sem]
      have e3 : (wr.alloc (.cells #[.string (C i).N, .int .i64 (C i).B, .slice (C i).b.A (C i).b.n (C i).b.c, .int .i64 (C i).P, .int .i64 (C i).Y, .int .i64 (C i).W] 58)).cell? ⟨wr.heap.size, 3, none⟩ = some (.int .i64 (C i).P) := by simp [go_sem]
      have e4 : (wr.alloc (.cells #[.string (C i).N, .int .i64 (C i).B, .slice (C i).b.A (C i).b.n (C i).b.c, .int .i64 (C i).P, .int .i64 (C i).Y, .int .i64 (C i).W] 58)).cell? ⟨wr.heap.size, 4, none⟩ = some (.int .i64 (C i).Y) := by simp [go_sem]
      have e5 : (wr.alloc (.cells #[.string (C i).N, .int .i64 (C i).B, .slice (C i).b.A (C i).b.n (C i).b.c, .int .i64 (C i).P, .int .i64 (C i).Y, .int .i64 (C i).W] 58)).cell? ⟨wr.heap.size, 5, none⟩ = some (.int .i64 (C i).W) := by simp [go_sem]
      have hN := below_new wr (.cells #[.string (C i).N, .int .i64 (C i).B, .slice (C i).b.A (C i).b.n (C i).b.c, .int .i64 (C i).P, .int .i64 (C i).Y, .int .i64 (C i).W] 58)
      have y0 := cell_later hN z0
      have y1 := cell_later hN z1
      have y2 := cell_later hN z2
      have y3 := cell_later hN z3
      have y4 := cell_later hN z4
      have hC1 := hC.below hN
      have B1 := below_step hb hN hb.size
      have hsz1 : w.heap.size < (wr.alloc (.cells #[.string (C i).N, .int .i64 (C i).B, .slice (C i).b.A (C i).b.n (C i).b.c, .int .i64 (C i).P, .int .i64 (C i).Y, .int .i64 (C i).W] 58)).heap.size := by simp; omega
      have hq : wr.heap.size ≠ w.heap.size := by omega
      go_wp2_with (fail)
      generalize wr.alloc (.cells #[.string (C i).N, .int .i64 (C i).B, .slice (C i).b.A (C i).b.n (C i).b.c, .int .i64 (C i).P, .int .i64 (C i).Y, .int .i64 (C i).W] 58) = W1 at *
      generalize hpn : wr.heap.size = pn at *
      clear hN hC hb d0 d1 d2 d3 d4 d5 z0 z1 z2 z3 z4
      have k0 := fun d os => cell_regrown e0 d os
      have q0 := fun d os => cell_regrown y0 d os
      have q1 := fun d os => cell_regrown y1 d os
      have q2 := fun d os => cell_regrown y2 d os
      have q3 := fun d os => cell_regrown y3 d os
      have q4 := fun d os => cell_regrown y4 d os
      have cA := fun (d : Nat) (os : Array Obj) => Calls.regrown_of (d := d) (os := os) (w := W1) (cn _ (hC1.below (below_regrown W1 d os)) (C i).N)
      have hdef := conE_eq C n i
      generalize hix : conI C (C i).N n = ix at *
      generalize hv : nm (C i).N (decide (ix < (i : Int))) = v at *
      have cB := fun (d : Nat) (os : Array Obj) => Calls.regrown_of (d := d) (os := os) (w := W1) (to_below (lookname_v (C i).N (decide (ix < (i : Int))) v hv (grow (redrawn W1 d) os)))
      clear hix hv
      refine wp_region_quiet_below mixedT (by kernel_rfl) ?_
      iterate 5 (go_big_quiet_step (fail))
      go_big_quiet_step (exact cA _ _)
      iterate 2 (go_big_quiet_step (fail))
      go_big_quiet_step (exact cB _ _)
      repeat (go_big_quiet_step (fail))
      refine wpQuiet_nil ?_
      intro _ hw'
      obtain ⟨⟨dq, osq⟩, hw''⟩ := hw'
      subst hw''
      have hR := below_regrown W1 dq osq
      have m0 := cell_later hR e0
      have m1 := cell_later hR e1
      have m2 := cell_later hR e2
      have m3 := cell_later hR e3
      have m4 := cell_later hR e4
      have m5 := cell_later hR e5
      have x0 := cell_later hR y0
      have x1 := cell_later hR y1
      have x2 := cell_later hR y2
      have x3 := cell_later hR y3
      have x4 := cell_later hR y4
      have B2 := below_step B1 hR B1.size
      have hsz2 := Nat.lt_of_lt_of_le hsz1 hR.size
      have hC2 := hC1.below hR
      generalize grow (redrawn W1 dq) osq = W2 at *
      clear hR hC1 B1 hsz1 cA cB k0 q0 q1 q2 q3 q4 e0 e1 e2 e3 e4 e5 y0 y1 y2 y3 y4
      by_cases hv0 : v = 0
      · subst hv0
        rw [if_pos rfl] at hdef
        cases hg0 : baseB (C i).B
        · rw [hg0] at hdef
          simp only [Bool.false_and, Bool.true_and, Bool.and_false, Bool.false_eq_true, if_false] at hdef
          have f0 := fun w => based_b (C i).B false hg0 w
          have HS := Lib.hid ((first_stop (f := conE C n) hlt hs.out (by rw [hdef]; simp)).trans hdef)
          clear hdef hs hg0
          go_wp2_with (fail)
          refine (f0 _).mono ?_
          rintro e w' ⟨rfl, rfl⟩
          go_wp2
          go_ret
          exact ⟨ret_i (by first | exact HS.out.symm | (rw [HS.out]; simp)), by first | exact B9 | exact B8 | exact B7 | exact B2⟩
        · skip
          cases hg1 : modeB (C i).W
          · rw [hg0, hg1] at hdef
            simp only [Bool.false_and, Bool.true_and, Bool.and_false, Bool.false_eq_true, if_false] at hdef
            have f0 := fun w => based_b (C i).B true hg0 w
            have f1 := fun w => mode_b (C i).W false hg1 w
            have HS := Lib.hid ((first_stop (f := conE C n) hlt hs.out (by rw [hdef]; simp)).trans hdef)
            clear hdef hs hg0 hg1
            go_wp2_with (fail)
            refine (f0 _).mono ?_
            rintro e w' ⟨rfl, rfl⟩
            go_wp2_with (fail)
            refine (f1 _).mono ?_
            rintro e w' ⟨rfl, rfl⟩
            go_wp2
            go_ret
            exact ⟨ret_i (by first | exact HS.out.symm | (rw [HS.out]; simp)), by first | exact B9 | exact B8 | exact B7 | exact B2⟩
          · skip
            cases hg2 : ceilB (C i).P
            · rw [hg0, hg1, hg2] at hdef
              simp only [Bool.false_and, Bool.true_and, Bool.and_false, Bool.false_eq_true, if_false] at hdef
              have f0 := fun w => based_b (C i).B true hg0 w
              have f1 := fun w => mode_b (C i).W true hg1 w
              have f2 := fun w => ceil_b (C i).P false hg2 w
              have HS := Lib.hid ((first_stop (f := conE C n) hlt hs.out (by rw [hdef]; simp)).trans hdef)
              clear hdef hs hg0 hg1 hg2
              go_wp2_with (fail)
              refine (f0 _).mono ?_
              rintro e w' ⟨rfl, rfl⟩
              go_wp2_with (fail)
              refine (f1 _).mono ?_
              rintro e w' ⟨rfl, rfl⟩
              go_wp2_with (fail)
              refine (f2 _).mono ?_
              rintro e W7 ⟨rfl, hb7⟩
              have B7 := below_step B2 hb7 B2.size
              have hsz7 := Nat.lt_of_lt_of_le hsz2 hb7.size
              have hC7 := hC2.below hb7
              replace m0 := cell_later hb7 m0
              replace m1 := cell_later hb7 m1
              replace m2 := cell_later hb7 m2
              replace m3 := cell_later hb7 m3
              replace m4 := cell_later hb7 m4
              replace m5 := cell_later hb7 m5
              replace x0 := cell_later hb7 x0
              replace x1 := cell_later hb7 x1
              replace x2 := cell_later hb7 x2
              replace x3 := cell_later hb7 x3
              replace x4 := cell_later hb7 x4
              go_wp2
              go_ret
              exact ⟨ret_i (by first | exact HS.out.symm | (rw [HS.out]; simp)), by first | exact B9 | exact B8 | exact B7 | exact B2⟩
            · skip
              cases hg3 : ceilB (C i).Y
              · rw [hg0, hg1, hg2, hg3] at hdef
                simp only [Bool.false_and, Bool.true_and, Bool.and_false, Bool.false_eq_true, if_false] at hdef
                have f0 := fun w => based_b (C i).B true hg0 w
                have f1 := fun w => mode_b (C i).W true hg1 w
                have f2 := fun w => ceil_b (C i).P true hg2 w
                have f3 := fun w => ceil_b (C i).Y false hg3 w
                have HS := Lib.hid ((first_stop (f := conE C n) hlt hs.out (by rw [hdef]; simp)).trans hdef)
                clear hdef hs hg0 hg1 hg2 hg3
                go_wp2_with (fail)
                refine (f0 _).mono ?_
                rintro e w' ⟨rfl, rfl⟩
                go_wp2_with (fail)
                refine (f1 _).mono ?_
                rintro e w' ⟨rfl, rfl⟩
                go_wp2_with (fail)
                refine (f2 _).mono ?_
                rintro e W7 ⟨rfl, hb7⟩
                have B7 := below_step B2 hb7 B2.size
                have hsz7 := Nat.lt_of_lt_of_le hsz2 hb7.size
                have hC7 := hC2.below hb7
                replace m0 := cell_later hb7 m0
                replace m1 := cell_later hb7 m1
                replace m2 := cell_later hb7 m2
                replace m3 := cell_later hb7 m3
                replace m4 := cell_later hb7 m4
                replace m5 := cell_later hb7 m5
                replace x0 := cell_later hb7 x0
                replace x1 := cell_later hb7 x1
                replace x2 := cell_later hb7 x2
                replace x3 := cell_later hb7 x3
                replace x4 := cell_later hb7 x4
                go_wp2_with (fail)
                refine (f3 _).mono ?_
                rintro e W8 ⟨rfl, hb8⟩
                have B8 := below_step B7 hb8 B7.size
                have hsz8 := Nat.lt_of_lt_of_le hsz7 hb8.size
                have hC8 := hC7.below hb8
                replace m0 := cell_later hb8 m0
                replace m1 := cell_later hb8 m1
                replace m2 := cell_later hb8 m2
                replace m3 := cell_later hb8 m3
                replace m4 := cell_later hb8 m4
                replace m5 := cell_later hb8 m5
                replace x0 := cell_later hb8 x0
                replace x1 := cell_later hb8 x1
                replace x2 := cell_later hb8 x2
                replace x3 := cell_later hb8 x3
                replace x4 := cell_later hb8 x4
                go_wp2
                go_ret
                exact ⟨ret_i (by first | exact HS.out.symm | (rw [HS.out]; simp)), by first | exact B9 | exact B8 | exact B7 | exact B2⟩
              · skip
                rw [hg0, hg1, hg2, hg3] at hdef
                have f0 := fun w => based_b (C i).B true hg0 w
                have f1 := fun w => mode_b (C i).W true hg1 w
                have f2 := fun w => ceil_b (C i).P true hg2 w
                have f3 := fun w => ceil_b (C i).Y true hg3 w
                have HB : Bds W2 (C i).b.A (C i).b.n (C i).b.F (C i).b.R (C i).b.E := by
                  obtain ⟨b', o', hA', hcc⟩ := hC2 hn0
                  exact (hcc i hlt).2.2.2.2.2.2
                have ck := fun w' (q : Bds w' _ _ _ _ _) => bandcheck_any (C i).b.A (C i).b.n (C i).b.c w' (C i).b.F (C i).b.R (C i).b.E q (HZ.out i hlt)
                simp only [Bool.and_self, if_true] at hdef
                by_cases hk : chk (C i).b.F (C i).b.R (C i).b.E (C i).b.n = 0
                · rw [hk] at ck hdef
                  have HS := Lib.hid (first_succ (f := conE C n) hs.out hdef)
                  clear hdef hs hk hg0 hg1 hg2 hg3
                  go_wp2_with (fail)
                  refine (f0 _).mono ?_
                  rintro e w' ⟨rfl, rfl⟩
                  go_wp2_with (fail)
                  refine (f1 _).mono ?_
                  rintro e w' ⟨rfl, rfl⟩
                  go_wp2_with (fail)
                  refine (f2 _).mono ?_
                  rintro e W7 ⟨rfl, hb7⟩
                  have B7 := below_step B2 hb7 B2.size
                  have hsz7 := Nat.lt_of_lt_of_le hsz2 hb7.size
                  have hC7 := hC2.below hb7
                  replace m0 := cell_later hb7 m0
                  replace m1 := cell_later hb7 m1
                  replace m2 := cell_later hb7 m2
                  replace m3 := cell_later hb7 m3
                  replace m4 := cell_later hb7 m4
                  replace m5 := cell_later hb7 m5
                  replace x0 := cell_later hb7 x0
                  replace x1 := cell_later hb7 x1
                  replace x2 := cell_later hb7 x2
                  replace x3 := cell_later hb7 x3
                  replace x4 := cell_later hb7 x4
                  go_wp2_with (fail)
                  refine (f3 _).mono ?_
                  rintro e W8 ⟨rfl, hb8⟩
                  have B8 := below_step B7 hb8 B7.size
                  have hsz8 := Nat.lt_of_lt_of_le hsz7 hb8.size
                  have hC8 := hC7.below hb8
                  replace m0 := cell_later hb8 m0
                  replace m1 := cell_later hb8 m1
                  replace m2 := cell_later hb8 m2
                  replace m3 := cell_later hb8 m3
                  replace m4 := cell_later hb8 m4
                  replace m5 := cell_later hb8 m5
                  replace x0 := cell_later hb8 x0
                  replace x1 := cell_later hb8 x1
                  replace x2 := cell_later hb8 x2
                  replace x3 := cell_later hb8 x3
                  replace x4 := cell_later hb8 x4
                  go_wp2_with (fail)
                  refine (ck _ ((HB.below hb7).below hb8)).mono ?_
                  rintro e W9 ⟨rfl, hb9⟩
                  have B9 := below_step B8 hb9 B8.size
                  have hsz9 := Nat.lt_of_lt_of_le hsz8 hb9.size
                  replace x0 := cell_later hb9 x0
                  replace x1 := cell_later hb9 x1
                  replace x2 := cell_later hb9 x2
                  replace x3 := cell_later hb9 x3
                  replace x4 := cell_later hb9 x4
                  go_wp2
                  go_roundw
                  case rel => exact ⟨i + 1, by omega, HS, by go_num, B9, hsz9, x0, x1, x2, x3, x4⟩
                  case measure => first | omega | (simp [intOf]; omega)
                · have HS := Lib.hid ((first_stop (f := conE C n) hlt hs.out (by rw [hdef]; exact hk)).trans hdef)
                  have t3 : (chk (C i).b.F (C i).b.R (C i).b.E (C i).b.n != 0) = true := by simpa using hk
                  clear hdef hs hk hg0 hg1 hg2 hg3
                  generalize chk (C i).b.F (C i).b.R (C i).b.E (C i).b.n = cv at *
                  go_wp2_with (fail)
                  refine (f0 _).mono ?_
                  rintro e w' ⟨rfl, rfl⟩
                  go_wp2_with (fail)
                  refine (f1 _).mono ?_
                  rintro e w' ⟨rfl, rfl⟩
                  go_wp2_with (fail)
                  refine (f2 _).mono ?_
                  rintro e W7 ⟨rfl, hb7⟩
                  have B7 := below_step B2 hb7 B2.size
                  have hsz7 := Nat.lt_of_lt_of_le hsz2 hb7.size
                  have hC7 := hC2.below hb7
                  replace m0 := cell_later hb7 m0
                  replace m1 := cell_later hb7 m1
                  replace m2 := cell_later hb7 m2
                  replace m3 := cell_later hb7 m3
                  replace m4 := cell_later hb7 m4
                  replace m5 := cell_later hb7 m5
                  replace x0 := cell_later hb7 x0
                  replace x1 := cell_later hb7 x1
                  replace x2 := cell_later hb7 x2
                  replace x3 := cell_later hb7 x3
                  replace x4 := cell_later hb7 x4
                  go_wp2_with (fail)
                  refine (f3 _).mono ?_
                  rintro e W8 ⟨rfl, hb8⟩
                  have B8 := below_step B7 hb8 B7.size
                  have hsz8 := Nat.lt_of_lt_of_le hsz7 hb8.size
                  have hC8 := hC7.below hb8
                  replace m0 := cell_later hb8 m0
                  replace m1 := cell_later hb8 m1
                  replace m2 := cell_later hb8 m2
                  replace m3 := cell_later hb8 m3
                  replace m4 := cell_later hb8 m4
                  replace m5 := cell_later hb8 m5
                  replace x0 := cell_later hb8 x0
                  replace x1 := cell_later hb8 x1
                  replace x2 := cell_later hb8 x2
                  replace x3 := cell_later hb8 x3
                  replace x4 := cell_later hb8 x4
                  go_wp2_with (fail)
                  refine (ck _ ((HB.below hb7).below hb8)).mono ?_
                  rintro e W9 ⟨rfl, hb9⟩
                  have B9 := below_step B8 hb9 B8.size
                  go_wp2
                  go_ret
                  exact ⟨ret_i HS.out.symm, B9⟩
      · rw [if_neg hv0] at hdef
        have HS := Lib.hid ((first_stop (f := conE C n) hlt hs.out (by rw [hdef]; exact hv0)).trans hdef)
        have t3 : (v != 0) = true := by simpa using hv0
        clear hdef hs hv0
        go_wp2
        go_ret
        exact ⟨ret_i HS.out.symm, B2⟩
    · obtain rfl : i = n := by omega
      have HS := Lib.hid hs.out
      clear hs
      go_wp2
      go_ret
      exact ⟨ret_i HS.out.symm, hb⟩
set_option maxHeartbeats 4000000 in
set_option maxRecDepth 100000 in
theorem kinds_any (w : World) (A A1 A2 : Option Addr) (n c n1 c1 n2 c2 : Nat) (L W : Int) (C : Nat → KB) (h : KinM w A n C) (hn : n ≤ 9223372036854775807) :
    Calls Try.prog 27 #[.agg #[.slice A1 n1 c1, .slice A2 n2 c2, .slice A n c, .int .i64 L, .int .i64 W]] w fun e w' => e = .returned (.int .i64 (kinsE C n)) ∧ Below w.heap.size w w' := by
  unfold kinsE
  by_cases h0 : n = 0
  · subst h0
    go_enter Try.func27, Try.ntmps27
    go_wp2
    go_ret
    exact ⟨rfl, (Below.refl _ _).alloc (Nat.le_refl _) _⟩
  have t1 : ((n : Int) == 0) = false := by simp; omega
  by_cases h6 : 12 < n
  · rw [if_pos (by omega)]
    have t2 : (12 : Int) < n := by omega
    clear h
    go_enter Try.func27, Try.ntmps27
    go_wp2
    go_ret
    exact ⟨rfl, (Below.refl _ _).alloc (Nat.le_refl _) _⟩
  rw [if_neg (by omega)]
  have t2 : ¬ (12 : Int) < n := by omega
  have cn := fun w' (q : KinM w' A n C) N => kindno_any w' A A1 A2 n c n1 c1 n2 c2 L W C N q hn
  have hx : n ≤ 12 := by omega
  clear h6
  go_enter Try.func27, Try.ntmps27
  go_wp2
  go_loopw [19] (fun k W' => ∃ i : Nat, i ≤ n ∧ Hid (firstE (kinE C n) i = 0) ∧ k = .int .i64 i ∧ Below w.heap.size w W' ∧ w.heap.size < W'.heap.size ∧ W'.cell? ⟨w.heap.size, 0, none⟩ = some (.slice A1 n1 c1) ∧ W'.cell? ⟨w.heap.size, 1, none⟩ = some (.slice A2 n2 c2) ∧ W'.cell? ⟨w.heap.size, 2, none⟩ = some (.slice A n c) ∧ W'.cell? ⟨w.heap.size, 3, none⟩ = some (.int .i64 L) ∧ W'.cell? ⟨w.heap.size, 4, none⟩ = some (.int .i64 W)) (fun k _ => n - (intOf k).toNat)
  case atStart => exact ⟨0, Nat.zero_le _, Lib.hid rfl, rfl, (Below.refl _ _).alloc (Nat.le_refl _) _, by simp, by simp [go_sem], by simp [go_sem], by simp [go_sem], by simp [go_sem], by simp [go_sem]⟩
  case round =>
    obtain ⟨i, hi, hs, rfl, hb, hsz, z0, z1, z2, z3, z4⟩ := hrel
    by_cases hlt : i < n
    · have hC := h.below hb
      have hn0 : 0 < n := by omega
      obtain ⟨b, o, rfl, hcc⟩ := id (h hn0)
      obtain ⟨g0, g1, g2, g3⟩ := hcc i hlt
      clear hcc
      have d0 := cell_later hb g0
      have d1 := cell_later hb g1
      have d2 := cell_later hb g2
      have d3 := cell_later hb g3
      clear g0 g1 g2 g3
      have e0 : (wr.alloc (.cells #[.string (C i).N, .int .i64 (C i).c, .int .i64 (C i).t, .int .i64 (C i).s] 84)).cell? ⟨wr.heap.size, 0, none⟩ = some (.string (C i).N) := by simp [go_sem]
      have e1 : (wr.alloc (.cells #[.string (C i).N, .int .i64 (C i).c, .int .i64 (C i).t, .int .i64 (C i).s] 84)).cell? ⟨wr.heap.size, 1, none⟩ = some (.int .i64 (C i).c) := by simp [go_sem]
      have e2 : (wr.alloc (.cells #[.string (C i).N, .int .i64 (C i).c, .int .i64 (C i).t, .int .i64 (C i).s] 84)).cell? ⟨wr.heap.size, 2, none⟩ = some (.int .i64 (C i).t) := by simp [go_sem]
      have e3 : (wr.alloc (.cells #[.string (C i).N, .int .i64 (C i).c, .int .i64 (C i).t, .int .i64 (C i).s] 84)).cell? ⟨wr.heap.size, 3, none⟩ = some (.int .i64 (C i).s) := by simp [go_sem]
      have hN := below_new wr (.cells #[.string (C i).N, .int .i64 (C i).c, .int .i64 (C i).t, .int .i64 (C i).s] 84)
      have y0 := cell_later hN z0
      have y1 := cell_later hN z1
      have y2 := cell_later hN z2
      have y3 := cell_later hN z3
      have y4 := cell_later hN z4
      have hC1 := hC.below hN
      have B1 := below_step hb hN hb.size
      have hsz1 : w.heap.size < (wr.alloc (.cells #[.string (C i).N, .int .i64 (C i).c, .int .i64 (C i).t, .int .i64 (C i).s] 84)).heap.size := by simp; omega
      have hq : wr.heap.size ≠ w.heap.size := by omega
      go_wp2_with (fail)
      generalize wr.alloc (.cells #[.string (C i).N, .int .i64 (C i).c, .int .i64 (C i).t, .int .i64 (C i).s] 84) = W1 at *
      generalize hpn : wr.heap.size = pn at *
      clear hN hC hb d0 d1 d2 d3 z0 z1 z2 z3 z4
      have k0 := fun d os => cell_regrown e0 d os
      have q0 := fun d os => cell_regrown y0 d os
      have q1 := fun d os => cell_regrown y1 d os
      have q2 := fun d os => cell_regrown y2 d os
      have q3 := fun d os => cell_regrown y3 d os
      have q4 := fun d os => cell_regrown y4 d os
      have cA := fun (d : Nat) (os : Array Obj) => Calls.regrown_of (d := d) (os := os) (w := W1) (cn _ (hC1.below (below_regrown W1 d os)) (C i).N)
      have hdef := kinE_eq C n i
      generalize hix : kinI C (C i).N n = ix at *
      generalize hv : nm (C i).N (decide (ix < (i : Int))) = v at *
      have cB := fun (d : Nat) (os : Array Obj) => Calls.regrown_of (d := d) (os := os) (w := W1) (to_below (lookname_v (C i).N (decide (ix < (i : Int))) v hv (grow (redrawn W1 d) os)))
      clear hix hv
      refine wp_region_quiet_below mixedT (by kernel_rfl) ?_
      iterate 5 (go_big_quiet_step (fail))
      go_big_quiet_step (exact cA _ _)
      iterate 2 (go_big_quiet_step (fail))
      go_big_quiet_step (exact cB _ _)
      repeat (go_big_quiet_step (fail))
      refine wpQuiet_nil ?_
      intro _ hw'
      obtain ⟨⟨dq, osq⟩, hw''⟩ := hw'
      subst hw''
      have hR := below_regrown W1 dq osq
      have m0 := cell_later hR e0
      have m1 := cell_later hR e1
      have m2 := cell_later hR e2
      have m3 := cell_later hR e3
      have x0 := cell_later hR y0
      have x1 := cell_later hR y1
      have x2 := cell_later hR y2
      have x3 := cell_later hR y3
      have x4 := cell_later hR y4
      have B2 := below_step B1 hR B1.size
      have hsz2 := Nat.lt_of_lt_of_le hsz1 hR.size
      have hC2 := hC1.below hR
      generalize grow (redrawn W1 dq) osq = W2 at *
      clear hR hC1 B1 hsz1 cA cB k0 q0 q1 q2 q3 q4 e0 e1 e2 e3 y0 y1 y2 y3 y4
      by_cases hv0 : v = 0
      · subst hv0
        rw [if_pos rfl] at hdef
        cases hg0 : sgnB (C i).c
        · rw [hg0] at hdef
          simp only [Bool.false_and, Bool.true_and, Bool.and_false, Bool.false_eq_true, if_false] at hdef
          have f0 := fun w => signed_b (C i).c false hg0 w
          have HS := Lib.hid ((first_stop (f := kinE C n) hlt hs.out (by rw [hdef]; simp)).trans hdef)
          clear hdef hs hg0
          go_wp2_with (fail)
          refine (f0 _).mono ?_
          rintro e w' ⟨rfl, rfl⟩
          go_wp2
          go_ret
          exact ⟨ret_i (by first | exact HS.out.symm | (rw [HS.out]; simp)), by first | exact B9 | exact B8 | exact B7 | exact B2⟩
        · skip
          cases hg1 : sgnB (C i).t
          · rw [hg0, hg1] at hdef
            simp only [Bool.false_and, Bool.true_and, Bool.and_false, Bool.false_eq_true, if_false] at hdef
            have f0 := fun w => signed_b (C i).c true hg0 w
            have f1 := fun w => signed_b (C i).t false hg1 w
            have HS := Lib.hid ((first_stop (f := kinE C n) hlt hs.out (by rw [hdef]; simp)).trans hdef)
            clear hdef hs hg0 hg1
            go_wp2_with (fail)
            refine (f0 _).mono ?_
            rintro e w' ⟨rfl, rfl⟩
            go_wp2_with (fail)
            refine (f1 _).mono ?_
            rintro e w' ⟨rfl, rfl⟩
            go_wp2
            go_ret
            exact ⟨ret_i (by first | exact HS.out.symm | (rw [HS.out]; simp)), by first | exact B9 | exact B8 | exact B7 | exact B2⟩
          · skip
            cases hg2 : sgnB (C i).s
            · rw [hg0, hg1, hg2] at hdef
              simp only [Bool.false_and, Bool.true_and, Bool.and_false, Bool.false_eq_true, if_false] at hdef
              have f0 := fun w => signed_b (C i).c true hg0 w
              have f1 := fun w => signed_b (C i).t true hg1 w
              have f2 := fun w => signed_b (C i).s false hg2 w
              have HS := Lib.hid ((first_stop (f := kinE C n) hlt hs.out (by rw [hdef]; simp)).trans hdef)
              clear hdef hs hg0 hg1 hg2
              go_wp2_with (fail)
              refine (f0 _).mono ?_
              rintro e w' ⟨rfl, rfl⟩
              go_wp2_with (fail)
              refine (f1 _).mono ?_
              rintro e w' ⟨rfl, rfl⟩
              go_wp2_with (fail)
              refine (f2 _).mono ?_
              rintro e w' ⟨rfl, rfl⟩
              go_wp2
              go_ret
              exact ⟨ret_i (by first | exact HS.out.symm | (rw [HS.out]; simp)), by first | exact B9 | exact B8 | exact B7 | exact B2⟩
            · skip
              rw [hg0, hg1, hg2] at hdef
              have f0 := fun w => signed_b (C i).c true hg0 w
              have f1 := fun w => signed_b (C i).t true hg1 w
              have f2 := fun w => signed_b (C i).s true hg2 w
              simp only [Bool.and_self, if_true] at hdef
              have HS := Lib.hid (first_succ (f := kinE C n) hs.out hdef)
              clear hdef hs hg0 hg1 hg2
              go_wp2_with (fail)
              refine (f0 _).mono ?_
              rintro e w' ⟨rfl, rfl⟩
              go_wp2_with (fail)
              refine (f1 _).mono ?_
              rintro e w' ⟨rfl, rfl⟩
              go_wp2_with (fail)
              refine (f2 _).mono ?_
              rintro e w' ⟨rfl, rfl⟩
              go_wp2
              go_roundw
              case rel => exact ⟨i + 1, by omega, HS, by go_num, B2, hsz2, x0, x1, x2, x3, x4⟩
              case measure => first | omega | (simp [intOf]; omega)
      · rw [if_neg hv0] at hdef
        have HS := Lib.hid ((first_stop (f := kinE C n) hlt hs.out (by rw [hdef]; exact hv0)).trans hdef)
        have t3 : (v != 0) = true := by simpa using hv0
        clear hdef hs hv0
        go_wp2
        go_ret
        exact ⟨ret_i HS.out.symm, B2⟩
    · obtain rfl : i = n := by omega
      have HS := Lib.hid hs.out
      clear hs
      go_wp2
      go_ret
      exact ⟨ret_i HS.out.symm, hb⟩
end Go.Proofs.Ytffihnbpjcgicaa
