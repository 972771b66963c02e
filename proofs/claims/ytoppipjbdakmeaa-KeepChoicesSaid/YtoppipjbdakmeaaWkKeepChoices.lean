/- KeepChoices: the whole walk. -/
import Derived.Test.YtoppipjbdakmeaaTabU
import Derived.Test.YtoppipjbdakmeaaOpenH
import Derived.Test.YtoppipjbdakmeaaWkKeepChecks
namespace Go.Proofs.Ytoppipjbdakmeaa
open Go.RowKit Go.Sort
set_option linter.unusedVariables false
set_option linter.unusedSimpArgs false

set_option maxHeartbeats 8000000 in
set_option maxRecDepth 100000 in
theorem wKeepChoices (T : TB) (s b k : Int) (A : Option Addr) (m c : Nat) (f : Nat → Int) (w : World) (h : Tm w T) (hr : Ri w A m f) :
    Calls Try.prog 4 #[T.v, .agg #[.int .i64 s, .int .i64 b, .slice A m c, .int .i64 k]] w fun e w' => e = .returned (.bool true) ∧ Below w.heap.size w w' := by
  have kK := keeps_any
  have kS := fun w' (q : Tm w' T) => small_tab w' T q
  have kC := fun w' (q : Tm w' T) (hz : Tsz T) => check_tab w' T q hz
  have kV := fun w' (q : Tm w' T) (hz : Tsz T) (hm : m ≤ 4611686018427387904) (q2 : Ri w' A m f) => kept_any w' T q hz s b k A m c f q2 hm
  have kO := fun w' (q : Tm w' T) (hz : Tsz T) (hc : T.chk = 0) => worst_0 w' T q hz hc
  have kW := fun w' (q : Tm w' T) (hz : Tsz T) (hm : T.nC ≤ 4611686018427387904) A c (q2 : Ri w' A T.nC (fun i => (steep (T.C i).b.R (T.C i).b.n : Nat))) => kept_any w' T q hz (allW T.S T.L T.nS).1 (allW T.S T.L T.nS).2.1 (keptW T) A T.nC c _ q2 hm
  have hkw : T.chk = 0 → keptV T (allW T.S T.L T.nS).1 (allW T.S T.L T.nS).2.1 (fun i => (steep (T.C i).b.R (T.C i).b.n : Nat)) T.nC = (keptW T, 0) := kept_worst
  have hok : T.chk = 0 → TOk T := tok_of
  have HNO : Hid (T.chk ≠ 0 → keptV T s b f m = (0, T.chk)) := Lib.hid fun q => if_neg q
  have HYES : Hid (T.chk = 0 → ∀ rv re, rateV T s b = (rv, re) → keptV T s b f m = if re = 0 then (if m = T.nC then (if allN T.C f m = true then (10000 - rv - sumR T.C f m, 0) else (0, 3)) else (0, 3)) else (0, re)) := Lib.hid fun q rv re hr => keptV_ok q hr f m
  have HLE : Hid (T.chk = 0 → (rateV T s b).2 = 0 → allN T.C f T.nC = true → keptW T ≤ 10000 - (rateV T s b).1 - sumR T.C f T.nC) := Lib.hid fun q x y => kept_least q x y
  have HRB : Hid (T.chk = 0 → 0 ≤ (rateV T s b).1 ∧ (rateV T s b).1 ≤ 10000) := Lib.hid fun q => rateV_bd q s b
  have HSB : Hid (T.chk = 0 → ∀ n, n ≤ T.nC → allN T.C f n = true → 0 ≤ sumR T.C f n ∧ sumR T.C f n ≤ 10000 * n) := Lib.hid fun q => sumR_bd q f
  rcases hkv : keptV T s b f m with ⟨kv, ke⟩
  rw [hkv] at kV HNO HYES
  clear hkv
  generalize hv' : T.chk = v at *
  have HV := Lib.hid hv'
  clear hv'
  obtain ⟨AS, nS, cS, AC, nC, cC, AK, nK, cK, L, W, S, C, K⟩ := T
  dsimp only [TB.v] at *
  have B0 := below_new w (.cells #[.slice AS nS cS, .slice AC nC cC, .slice AK nK cK, .int .i64 L, .int .i64 W] 26)
  have M0 := h.below B0
  obtain ⟨z0, z1, z2, z3, z4⟩ := cells5 w (.slice AS nS cS) (.slice AC nC cC) (.slice AK nK cK) (.int .i64 L) (.int .i64 W) 26
  have hq : w.heap.size < (w.alloc (.cells #[.slice AS nS cS, .slice AC nC cC, .slice AK nK cK, .int .i64 L, .int .i64 W] 26)).heap.size := by simp
  generalize hw1 : w.alloc (.cells #[.slice AS nS cS, .slice AC nC cC, .slice AK nK cK, .int .i64 L, .int .i64 W] 26) = w1 at *
  have D1 := C4.new w1 (.int .i64 s) (.int .i64 b) (.slice A m c) (.int .i64 k)
  have hN := below_new w1 (.cells #[.int .i64 s, .int .i64 b, .slice A m c, .int .i64 k] 33)
  have B1 := below_step B0 hN B0.size
  have M1 := M0.below hN
  replace z0 := cell_later hN z0
  replace z1 := cell_later hN z1
  replace z2 := cell_later hN z2
  replace z3 := cell_later hN z3
  replace z4 := cell_later hN z4
  generalize hw2 : w1.alloc (.cells #[.int .i64 s, .int .i64 b, .slice A m c, .int .i64 k] 33) = w2 at *
  have y0 := D1.c0
  have y1 := D1.c1
  have y2 := D1.c2
  have y3 := D1.c3
  generalize hqn : w1.heap.size = q at *
  clear h hN M0
  go_enter Try.func4, Try.ntmps4
  go_wp2_with (fail)
  refine (kK _).mono ?_
  rintro e w3 ⟨rfl, hb⟩
  have B2 := below_step B1 hb B1.size
  have M2 := M1.below hb
  have D2 := D1.below hb
  replace z0 := cell_later hb z0
  replace z1 := cell_later hb z1
  replace z2 := cell_later hb z2
  replace z3 := cell_later hb z3
  replace z4 := cell_later hb z4
  replace y0 := D2.c0
  replace y1 := D2.c1
  replace y2 := D2.c2
  replace y3 := D2.c3
  clear hb
  go_wp2_with (fail)
  refine (kS _ M2).mono ?_
  rintro e w4 ⟨bs, rfl, hsm, hb⟩
  have B3 := below_step B2 hb B2.size
  have M3 := M2.below hb
  have D3 := D2.below hb
  replace z0 := cell_later hb z0
  replace z1 := cell_later hb z1
  replace z2 := cell_later hb z2
  replace z3 := cell_later hb z3
  replace z4 := cell_later hb z4
  replace y0 := D3.c0
  replace y1 := D3.c1
  replace y2 := D3.c2
  replace y3 := D3.c3
  clear hb
  cases bs
  · go_wp2
    go_ret
    exact ⟨rfl, B3⟩
  have SM := hsm rfl
  have c20 : nC ≤ 20 := SM.c
  clear hsm
  by_cases hm30 : 30 < m
  · have t1 : (30 : Int) < m := by omega
    go_wp2
    go_ret
    exact ⟨rfl, B3⟩
  have t30 : ¬ (30 : Int) < m := by omega
  go_wp2_with (fail)
  refine (kV _ M3 SM.sz (by omega) (hr.below B3)).mono ?_
  rintro e w5 ⟨rfl, hb⟩
  have B4 := below_step B3 hb B3.size
  have M4 := M3.below hb
  have D4 := D3.below hb
  replace z0 := cell_later hb z0
  replace z1 := cell_later hb z1
  replace z2 := cell_later hb z2
  replace z3 := cell_later hb z3
  replace z4 := cell_later hb z4
  replace y0 := D4.c0
  replace y1 := D4.c1
  replace y2 := D4.c2
  replace y3 := D4.c3
  clear hb
  go_wp2_with (fail)
  refine (kC _ M4 SM.sz).mono ?_
  rintro e w6 ⟨rfl, hb⟩
  have B5 := below_step B4 hb B4.size
  have M5 := M4.below hb
  have D5 := D4.below hb
  replace z0 := cell_later hb z0
  replace z1 := cell_later hb z1
  replace z2 := cell_later hb z2
  replace z3 := cell_later hb z3
  replace z4 := cell_later hb z4
  replace y0 := D5.c0
  replace y1 := D5.c1
  replace y2 := D5.c2
  replace y3 := D5.c3
  clear hb
  by_cases hv : v = 0
  · subst hv
    have OK := hok rfl
    have hkw' := hkw rfl
    have HS1 := Lib.hid (show ∀ i, i < nC → Okb (C i).b.F (C i).b.R (C i).b.E (C i).b.n from OK.c)
    have HS2 := Lib.hid (show ∀ i, i < nS → Okb (S i).F (S i).R (S i).E (S i).n from OK.s)
    have c6 : nC ≤ 6 := OK.c6
    have hyes := HYES.out (by trivial)
    have hle := HLE.out (by trivial)
    have hrb := HRB.out (by trivial)
    have HSB2 := Lib.hid (HSB.out (by trivial))
    have hr6 := hr.below B5
    have kO2 := fun w' q => kO w' q SM.sz (by trivial)
    clear kO
    rw [hkw'] at kW
    clear hok hkw hkw' HYES HLE HRB HSB HNO kK kS kC kV hr OK
    generalize keptW _ = kw at *
    generalize (allW S L nS).1 = a1 at *
    generalize (allW S L nS).2.1 = a2 at *
    have MS : SchM w6 AS nS S := M5.1
    have MC : ConM w6 AC nC C := M5.2.1
    clear B0 B1 B2 B3 B4 M1 M2 M3 M4 D1 D2 D3 D4
    cases hl : limB s b
    · cases hs : numbB s nS
      · have hrv : rateV ⟨AS, nS, cS, AC, nC, cC, AK, nK, cK, L, W, S, C, K⟩ s b = (0, 81) := by
          unfold rateV
          rw [hl]
          show (if numbB s nS = false then _ else _) = _
          rw [if_pos hs]
        have hkv := hyes _ _ hrv
        rw [if_neg (by decide)] at hkv
        obtain ⟨hk1, hk2⟩ := Prod.mk.inj hkv
        subst hk1 hk2
        clear hkv hyes hle hrb hrv kO2 kW
        have B9 := B5
        have MC9 : ConM w6 AC nC C := M5.2.1
        generalize hW9 : w6 = W9 at *
        clear hW9
        have hcase : (s < 0 ∧ s ≠ -1) ∨ (s = -1 ∧ b ≠ -1) ∨ (0 ≤ s ∧ (nS : Int) ≤ s) := by
          have a : ¬ (s = -1 ∧ b = -1) := by
            intro q
            have : limB s b = true := by unfold limB; rw [decide_eq_true q.1, decide_eq_true q.2]; rfl
            rw [hl] at this; cases this
          have c : ¬ (0 ≤ s ∧ s < nS) := by
            intro q
            have : numbB s nS = true := numbB_mk q.1 q.2
            rw [hs] at this; cases this
          omega
        clear hl hs
        rcases hcase with ⟨s1, s2⟩ | ⟨s1, s2⟩ | ⟨s1, s2⟩
        · have t1 : (s != -1) = true := by simpa using s2
          go_wp2
          go_loopw [111, 9, 10] (fun kk we _ X => kk = .int .i64 0 ∧ we = .int .i64 81 ∧ X = W9) (fun kk _ _ _ => 0)
          case atStart => exact ⟨rfl, rfl, rfl⟩
          case round =>
            obtain ⟨rfl, rfl, rfl⟩ := hrel
            by_cases h0 : 0 < nC
            · obtain ⟨bc, oc, rfl, hcc⟩ := id (MC9 h0)
              obtain ⟨d0, d1, d2, d3, d4, d5, _⟩ := hcc 0 h0
              clear hcc
              have B10 := B9.alloc (o := .cells #[.string (C 0).N, .int .i64 (C 0).B, .slice (C 0).b.A (C 0).b.n (C 0).b.c, .int .i64 (C 0).P, .int .i64 (C 0).Y, .int .i64 (C 0).W] 43) B9.size
              simp only [Nat.zero_mul, Nat.add_zero] at d0 d1 d2 d3 d4 d5
              have t9 : (0 : Int) < nC := by omega
              go_wp2
              go_ret
              exact ⟨rfl, B10⟩
            · have t9 : ¬ (0 : Int) < nC := by omega
              go_wp2
              go_ret
              exact ⟨rfl, B9⟩
        · subst s1
          have t1 : (b != -1) = true := by simpa using s2
          go_wp2
          go_loopw [111, 9, 10] (fun kk we _ X => kk = .int .i64 0 ∧ we = .int .i64 81 ∧ X = W9) (fun kk _ _ _ => 0)
          case atStart => exact ⟨rfl, rfl, rfl⟩
          case round =>
            obtain ⟨rfl, rfl, rfl⟩ := hrel
            by_cases h0 : 0 < nC
            · obtain ⟨bc, oc, rfl, hcc⟩ := id (MC9 h0)
              obtain ⟨d0, d1, d2, d3, d4, d5, _⟩ := hcc 0 h0
              clear hcc
              have B10 := B9.alloc (o := .cells #[.string (C 0).N, .int .i64 (C 0).B, .slice (C 0).b.A (C 0).b.n (C 0).b.c, .int .i64 (C 0).P, .int .i64 (C 0).Y, .int .i64 (C 0).W] 43) B9.size
              simp only [Nat.zero_mul, Nat.add_zero] at d0 d1 d2 d3 d4 d5
              have t9 : (0 : Int) < nC := by omega
              go_wp2
              go_ret
              exact ⟨rfl, B10⟩
            · have t9 : ¬ (0 : Int) < nC := by omega
              go_wp2
              go_ret
              exact ⟨rfl, B9⟩
        · have t1 : (s != -1) = true := by simp; omega
          have t2 : ¬ s < 0 := by omega
          go_wp2
          go_loopw [111, 9, 10] (fun kk we _ X => kk = .int .i64 0 ∧ we = .int .i64 81 ∧ X = W9) (fun kk _ _ _ => 0)
          case atStart => exact ⟨rfl, rfl, rfl⟩
          case round =>
            obtain ⟨rfl, rfl, rfl⟩ := hrel
            by_cases h0 : 0 < nC
            · obtain ⟨bc, oc, rfl, hcc⟩ := id (MC9 h0)
              obtain ⟨d0, d1, d2, d3, d4, d5, _⟩ := hcc 0 h0
              clear hcc
              have B10 := B9.alloc (o := .cells #[.string (C 0).N, .int .i64 (C 0).B, .slice (C 0).b.A (C 0).b.n (C 0).b.c, .int .i64 (C 0).P, .int .i64 (C 0).Y, .int .i64 (C 0).W] 43) B9.size
              simp only [Nat.zero_mul, Nat.add_zero] at d0 d1 d2 d3 d4 d5
              have t9 : (0 : Int) < nC := by omega
              go_wp2
              go_ret
              exact ⟨rfl, B10⟩
            · have t9 : ¬ (0 : Int) < nC := by omega
              go_wp2
              go_ret
              exact ⟨rfl, B9⟩
      · have hsn := numbB_yes hs
        have t1 : (s != -1) = true := by simp; omega
        have t2 : ¬ s < 0 := by omega
        have t3 : ¬ (nS : Int) ≤ s := by omega
        obtain ⟨sj, rfl⟩ : ∃ sj : Nat, s = sj := ⟨s.toNat, by omega⟩
        obtain ⟨bb, oo, rfl, hcc⟩ := id (MS (by omega))
        obtain ⟨g0, hBd⟩ := hcc sj (by omega)
        obtain ⟨k1, k8, _, _, hRt, _⟩ := HS2.out sj (by omega)
        obtain ⟨b2, o2, hA2, hcb⟩ := id (hBd (by omega))
        rw [hA2] at g0
        cases hn : numbB b (S sj).n
        · have hrv : rateV ⟨some ⟨bb, oo, none⟩, nS, cS, AC, nC, cC, AK, nK, cK, L, W, S, C, K⟩ (sj : Int) b = (0, 3) := by
            unfold rateV
            rw [hl]
            show (if numbB (sj : Int) nS = false then _ else if numbB b (S (sj : Int).toNat).n = false then _ else _) = _
            rw [hs, Int.toNat_natCast, hn]
            rfl
          have hkv := hyes _ _ hrv
          rw [if_neg (by decide)] at hkv
          obtain ⟨hk1, hk2⟩ := Prod.mk.inj hkv
          subst hk1 hk2
          have hcase : b < 0 ∨ (0 ≤ b ∧ ((S sj).n : Int) ≤ b) := by
            have c : ¬ (0 ≤ b ∧ b < (S sj).n) := by
              intro q
              have : numbB b (S sj).n = true := numbB_mk q.1 q.2
              rw [hn] at this; cases this
            omega
          clear hkv hyes hle hrb hrv kO2 kW hl hs hn hcc hcb hBd hA2 hRt
          generalize (S sj).n = sn at *
          generalize (S sj).c = sc at *
          rcases hcase with n1 | ⟨n1, n2⟩
          · have t4 : decide (b < 0) = true := by simpa using n1
            have q_y0 := fun d os => cell_regrown y0 d os
            have q_y1 := fun d os => cell_regrown y1 d os
            have q_z0 := fun d os => cell_regrown z0 d os
            have q_g0 := fun d os => cell_regrown g0 d os
            go_wp2_with (fail)
            refine wp_region_quiet_below mixedT (by kernel_rfl) ?_
            repeat (go_big_quiet_step (fail))
            refine wpQuiet_nil ?_
            intro _ hw'
            obtain ⟨⟨dq, osq⟩, hw''⟩ := hw'
            subst hw''
            have hb := below_regrown w6 dq osq
            have B6 := below_step B5 hb B5.size
            have M6 := M5.below hb
            have D6 := D5.below hb
            replace z0 := cell_later hb z0
            replace z1 := cell_later hb z1
            replace z2 := cell_later hb z2
            replace z3 := cell_later hb z3
            replace z4 := cell_later hb z4
            replace y0 := D6.c0
            replace y1 := D6.c1
            replace y2 := D6.c2
            replace y3 := D6.c3
            have hr7 := hr6.below hb
            generalize grow (redrawn w6 dq) osq = w7 at *
            clear hb q_y0 q_y1 q_z0 q_g0
            have B9 := B6
            have MC9 : ConM w7 AC nC C := M6.2.1
            generalize hW9 : w7 = W9 at *
            clear hW9
            go_wp2
            go_loopw [111, 9, 10] (fun kk we _ X => kk = .int .i64 0 ∧ we = .int .i64 3 ∧ X = W9) (fun kk _ _ _ => 0)
            case atStart => exact ⟨rfl, rfl, rfl⟩
            case round =>
              obtain ⟨rfl, rfl, rfl⟩ := hrel
              by_cases h0 : 0 < nC
              · obtain ⟨bc, oc, rfl, hcc⟩ := id (MC9 h0)
                obtain ⟨d0, d1, d2, d3, d4, d5, _⟩ := hcc 0 h0
                clear hcc
                have B10 := B9.alloc (o := .cells #[.string (C 0).N, .int .i64 (C 0).B, .slice (C 0).b.A (C 0).b.n (C 0).b.c, .int .i64 (C 0).P, .int .i64 (C 0).Y, .int .i64 (C 0).W] 43) B9.size
                simp only [Nat.zero_mul, Nat.add_zero] at d0 d1 d2 d3 d4 d5
                have t9 : (0 : Int) < nC := by omega
                go_wp2
                go_ret
                exact ⟨rfl, B10⟩
              · have t9 : ¬ (0 : Int) < nC := by omega
                go_wp2
                go_ret
                exact ⟨rfl, B9⟩
          · have t4 : decide (b < 0) = false := by simp; omega
            have t5 : ¬ b < 0 := by omega
            have t6 : decide ((sn : Int) ≤ b) = true := by simpa using n2
            have q_y0 := fun d os => cell_regrown y0 d os
            have q_y1 := fun d os => cell_regrown y1 d os
            have q_z0 := fun d os => cell_regrown z0 d os
            have q_g0 := fun d os => cell_regrown g0 d os
            go_wp2_with (fail)
            refine wp_region_quiet_below mixedT (by kernel_rfl) ?_
            repeat (go_big_quiet_step (fail))
            refine wpQuiet_nil ?_
            intro _ hw'
            obtain ⟨⟨dq, osq⟩, hw''⟩ := hw'
            subst hw''
            have hb := below_regrown w6 dq osq
            have B6 := below_step B5 hb B5.size
            have M6 := M5.below hb
            have D6 := D5.below hb
            replace z0 := cell_later hb z0
            replace z1 := cell_later hb z1
            replace z2 := cell_later hb z2
            replace z3 := cell_later hb z3
            replace z4 := cell_later hb z4
            replace y0 := D6.c0
            replace y1 := D6.c1
            replace y2 := D6.c2
            replace y3 := D6.c3
            have hr7 := hr6.below hb
            generalize grow (redrawn w6 dq) osq = w7 at *
            clear hb q_y0 q_y1 q_z0 q_g0
            have B9 := B6
            have MC9 : ConM w7 AC nC C := M6.2.1
            generalize hW9 : w7 = W9 at *
            clear hW9
            go_wp2
            go_loopw [111, 9, 10] (fun kk we _ X => kk = .int .i64 0 ∧ we = .int .i64 3 ∧ X = W9) (fun kk _ _ _ => 0)
            case atStart => exact ⟨rfl, rfl, rfl⟩
            case round =>
              obtain ⟨rfl, rfl, rfl⟩ := hrel
              by_cases h0 : 0 < nC
              · obtain ⟨bc, oc, rfl, hcc⟩ := id (MC9 h0)
                obtain ⟨d0, d1, d2, d3, d4, d5, _⟩ := hcc 0 h0
                clear hcc
                have B10 := B9.alloc (o := .cells #[.string (C 0).N, .int .i64 (C 0).B, .slice (C 0).b.A (C 0).b.n (C 0).b.c, .int .i64 (C 0).P, .int .i64 (C 0).Y, .int .i64 (C 0).W] 43) B9.size
                simp only [Nat.zero_mul, Nat.add_zero] at d0 d1 d2 d3 d4 d5
                have t9 : (0 : Int) < nC := by omega
                go_wp2
                go_ret
                exact ⟨rfl, B10⟩
              · have t9 : ¬ (0 : Int) < nC := by omega
                go_wp2
                go_ret
                exact ⟨rfl, B9⟩
        · have hnb := numbB_yes hn
          obtain ⟨j, rfl⟩ : ∃ j : Nat, b = j := ⟨b.toNat, by omega⟩
          have hrv : rateV ⟨some ⟨bb, oo, none⟩, nS, cS, AC, nC, cC, AK, nK, cK, L, W, S, C, K⟩ (sj : Int) (j : Int) = ((S sj).R j, 0) := by
            unfold rateV
            rw [hl]
            show (if numbB (sj : Int) nS = false then _ else if numbB (j : Int) (S (sj : Int).toNat).n = false then _ else ((S (sj : Int).toNat).R (j : Int).toNat, _)) = _
            rw [hs, Int.toNat_natCast, hn, Int.toNat_natCast]
            rfl
          obtain ⟨_, g1, _⟩ := hcb j (by omega)
          have t4 : decide ((j : Int) < 0) = false := by simp
          have t5 : decide (((S sj).n : Int) ≤ (j : Int)) = false := by simp; omega
          have t6 : (j : Int) < ((S sj).n : Int) := by omega
          clear hl hs hn hcc hcb hBd hA2 hRt
          generalize (S sj).R j = rv0 at *
          generalize (S sj).n = sn at *
          generalize (S sj).c = sc at *
          have q_y0 := fun d os => cell_regrown y0 d os
          have q_y1 := fun d os => cell_regrown y1 d os
          have q_z0 := fun d os => cell_regrown z0 d os
          have q_g0 := fun d os => cell_regrown g0 d os
          go_wp2_with (fail)
          refine wp_region_quiet_below mixedT (by kernel_rfl) ?_
          repeat (go_big_quiet_step (fail))
          refine wpQuiet_nil ?_
          intro _ hw'
          obtain ⟨⟨dq, osq⟩, hw''⟩ := hw'
          subst hw''
          have hb := below_regrown w6 dq osq
          have B6 := below_step B5 hb B5.size
          have M6 := M5.below hb
          have D6 := D5.below hb
          replace z0 := cell_later hb z0
          replace z1 := cell_later hb z1
          replace z2 := cell_later hb z2
          replace z3 := cell_later hb z3
          replace z4 := cell_later hb z4
          replace y0 := D6.c0
          replace y1 := D6.c1
          replace y2 := D6.c2
          replace y3 := D6.c3
          have g07 := cell_later hb g0
          have g17 := cell_later hb g1
          have hr7 := hr6.below hb
          generalize grow (redrawn w6 dq) osq = w7 at *
          clear hb q_y0 q_y1 q_z0 q_g0
          have q_y0 := fun d os => cell_regrown y0 d os
          have q_y1 := fun d os => cell_regrown y1 d os
          have q_z0 := fun d os => cell_regrown z0 d os
          have q_g0 := fun d os => cell_regrown g07 d os
          have q_g1 := fun d os => cell_regrown g17 d os
          go_wp2_with (fail)
          refine wp_region_quiet_below mixedT (by kernel_rfl) ?_
          repeat (go_big_quiet_step (fail))
          refine wpQuiet_nil ?_
          intro _ hw'
          obtain ⟨⟨dq, osq⟩, hw''⟩ := hw'
          subst hw''
          have hb := below_regrown w7 dq osq
          have B7 := below_step B6 hb B6.size
          have M7 := M6.below hb
          have D7 := D6.below hb
          replace z0 := cell_later hb z0
          replace z1 := cell_later hb z1
          replace z2 := cell_later hb z2
          replace z3 := cell_later hb z3
          replace z4 := cell_later hb z4
          replace y0 := D7.c0
          replace y1 := D7.c1
          replace y2 := D7.c2
          replace y3 := D7.c3
          have hr8 := hr7.below hb
          generalize grow (redrawn w7 dq) osq = w8 at *
          clear hb q_y0 q_y1 q_z0 q_g0 q_g1 g0 g1 g07 g17
          have hrv1 := congrArg Prod.fst hrv
          have hrv2 := congrArg Prod.snd hrv
          rw [hrv1] at hrb hle
          have hkv := hyes _ _ hrv
          rw [if_pos rfl] at hkv
          have HKV := Lib.hid hkv
          have hle := Lib.hid (hle hrv2)
          clear hyes hkv hrv1 hrv2 hrv
          generalize rv0 = rv at *
          by_cases hmn : m = nC
          · have hm1 : m ≤ nC := by omega
            have hm2 : nC ≤ m := by omega
            have HMN := Lib.hid hmn
            have t2 : ((m : Int) != (nC : Int)) = false := by simp; omega
            clear hmn
            have MC9 : ConM w8 AC nC C := M7.2.1
            go_wp2
            go_loopw [111, 9, 10] (fun kk we l X => ∃ i : Nat, i ≤ nC ∧ kk = .int .i64 i ∧ Below w8.heap.size w8 X ∧ ((we = .int .i64 0 ∧ Hid (allN C f i = true) ∧ l = .int .i64 (10000 - rv - sumR C f i)) ∨ (we = .int .i64 3 ∧ Hid (allN C f nC = false) ∧ ∃ x : Int, l = .int .i64 x))) (fun kk _ _ _ => nC - (intOf kk).toNat)
            case atStart => exact ⟨0, Nat.zero_le _, rfl, Below.refl _ _, .inl ⟨rfl, Lib.hid rfl, by rw [show 10000 - rv - sumR C f 0 = 10000 - rv from Int.sub_zero _]⟩⟩
            case round =>
              obtain ⟨i, hi, rfl, hB, hst⟩ := hrel
              have x0 := cell_later hB z0
              have x1 := cell_later hB z1
              have x2 := cell_later hB z2
              have x3 := cell_later hB z3
              have x4 := cell_later hB z4
              have u2 := cell_later hB y2
              have hql : q ≠ wr.heap.size := by have h1 := D7.lt; have h2 := hB.size; omega
              have MX := M7.below hB
              have BX := below_step B7 hB B7.size
              rcases hst with ⟨rfl, HA, rfl⟩ | ⟨rfl, HA, xx, rfl⟩
              · by_cases hlt : i < nC
                · obtain ⟨bc, oc, rfl, hcc⟩ := id (MC9 (by omega))
                  obtain ⟨g0, g1, g2, g3, g4, g5, hBd⟩ := hcc i hlt
                  obtain ⟨k1, k8, _, _, hRt, _⟩ := HS1.out i hlt
                  obtain ⟨bf, of, rfl, hcf⟩ := id (hr8 (by omega))
                  have gf := cell_later hB (hcf i (by omega))
                  obtain ⟨b2, o2, hA2, hcb⟩ := id (hBd (by omega))
                  have q1 := HSB2.out i (by omega) HA.out
                  have hall : allN C f (i + 1) = (allN C f i && numbB (f i) (C i).b.n) := rfl
                  rw [HA.out] at hall
                  have hsm : sumR C f (i + 1) = sumR C f i + (C i).b.R (f i).toNat := rfl
                  have HNO := Lib.hid (allN_no (C := C) (f := f) hlt)
                  have d0 := cell_later hB g0
                  have d1 := cell_later hB g1
                  have d2 := cell_later hB g2
                  have d3 := cell_later hB g3
                  have d4 := cell_later hB g4
                  have d5 := cell_later hB g5
                  rw [hA2] at d2
                  have HSM := Lib.hid hsm
                  clear hcc hcf hBd hA2 g0 g1 g2 g3 g4 g5 hsm
                  have hnum : numbB (f i) (C i).b.n = (decide (0 ≤ f i) && decide (f i < (C i).b.n)) := rfl
                  have u3 := cell_later (below_new wr (.cells #[.string (C i).N, .int .i64 (C i).B, .slice (some ⟨b2, o2, none⟩) (C i).b.n (C i).b.c, .int .i64 (C i).P, .int .i64 (C i).Y, .int .i64 (C i).W] 43)) u2
                  have gf3 := cell_later (below_new wr (.cells #[.string (C i).N, .int .i64 (C i).B, .slice (some ⟨b2, o2, none⟩) (C i).b.n (C i).b.c, .int .i64 (C i).P, .int .i64 (C i).Y, .int .i64 (C i).W] 43)) gf
                  generalize hfi : f i = fi at *
                  by_cases n1 : fi < 0
                  · have HE : Hid (allN C f nC = false) := Lib.hid (HNO.out (by rw [hnum, decide_eq_false (by omega)]; rfl))
                    have B9 := hB.alloc (o := .cells #[.string (C i).N, .int .i64 (C i).B, .slice (some ⟨b2, o2, none⟩) (C i).b.n (C i).b.c, .int .i64 (C i).P, .int .i64 (C i).Y, .int .i64 (C i).W] 43) hB.size
                    clear hall HNO HSM hnum hcb hRt
                    go_wp2
                    go_roundw
                    case rel => exact ⟨i + 1, by omega, by go_num, B9, .inr ⟨rfl, HE, _, rfl⟩⟩
                    case measure => first | omega | (simp [intOf]; omega)
                  · obtain ⟨j, rfl⟩ : ∃ j : Nat, fi = j := ⟨fi.toNat, by omega⟩
                    have B9 := hB.alloc (o := .cells #[.string (C i).N, .int .i64 (C i).B, .slice (some ⟨b2, o2, none⟩) (C i).b.n (C i).b.c, .int .i64 (C i).P, .int .i64 (C i).Y, .int .i64 (C i).W] 43) hB.size
                    by_cases n2 : (C i).b.n ≤ j
                    · have HE : Hid (allN C f nC = false) := Lib.hid (HNO.out (by rw [hnum, decide_eq_false (show ¬ ((j : Int) < (C i).b.n) by omega)]; simp))
                      have t3 : ((C i).b.n : Int) ≤ (j : Int) := by omega
                      clear hall HNO HSM hnum hcb hRt
                      go_wp2
                      go_roundw
                      case rel => exact ⟨i + 1, by omega, by go_num, B9, .inr ⟨rfl, HE, _, rfl⟩⟩
                      case measure => first | omega | (simp [intOf]; omega)
                    · have hnm : numbB (j : Int) (C i).b.n = true := numbB_mk (by omega) (by omega)
                      rw [hnm] at hall
                      have HA' : Hid (allN C f (i + 1) = true) := Lib.hid hall
                      have hRs := hRt j (by omega)
                      obtain ⟨_, p1, _⟩ := hcb j (by omega)
                      have p2 := cell_later hB p1
                      have p3 := cell_later (below_new wr (.cells #[.string (C i).N, .int .i64 (C i).B, .slice (some ⟨b2, o2, none⟩) (C i).b.n (C i).b.c, .int .i64 (C i).P, .int .i64 (C i).Y, .int .i64 (C i).W] 43)) p2
                      have HN : Hid (10000 - rv - sumR C f (i + 1) = 10000 - rv - sumR C f i - (C i).b.R j) := Lib.hid (by rw [HSM.out]; rw [Int.toNat_natCast]; omega)
                      have t3 : ¬ ((C i).b.n : Int) ≤ (j : Int) := by omega
                      have t4 : (j : Int) < ((C i).b.n : Int) := by omega
                      clear hall HNO hnum hcb hRt HSM hfi hnm p1
                      generalize sumR C f i = sm at *
                      generalize (C i).b.R j = rj at *
                      go_wp2
                      go_roundw
                      case rel => exact ⟨i + 1, by omega, by go_num, B9, .inl ⟨rfl, HA', by rw [HN.out]⟩⟩
                      case measure => first | omega | (simp [intOf]; omega)
                · obtain rfl : i = nC := by omega
                  have hkv := HKV.out
                  rw [if_pos HMN.out] at hkv
                  rw [HMN.out, if_pos HA.out] at hkv
                  obtain ⟨hk1, hk2⟩ := Prod.mk.inj hkv
                  subst hk2
                  have hle2 := hle.out HA.out
                  have HK1 := Lib.hid hk1
                  clear hkv hk1 hle HKV
                  generalize 10000 - rv - sumR C f i = lf at *
                  obtain rfl : lf = kv := HK1.out.symm
                  go_wp2_with (fail)
                  refine (kO2 _ MX).mono ?_
                  rintro e wA ⟨AV, cV, rfl, hro, hbA⟩
                  have BA := below_step BX hbA BX.size
                  have MA := MX.below hbA
                  have K1 := C4.new wA (.int .i64 a1) (.int .i64 a2) (.slice AV i cV) (.int .i64 kw)
                  have hN := below_new wA (.cells #[.int .i64 a1, .int .i64 a2, .slice AV i cV, .int .i64 kw] 33)
                  have BB := below_step BA hN BA.size
                  have MB := MA.below hN
                  have hri := (ro_ri hro).below hN
                  replace x0 := cell_later hN (cell_later hbA x0)
                  replace x1 := cell_later hN (cell_later hbA x1)
                  replace x2 := cell_later hN (cell_later hbA x2)
                  replace x3 := cell_later hN (cell_later hbA x3)
                  replace x4 := cell_later hN (cell_later hbA x4)
                  have v0 := K1.c0
                  have v1 := K1.c1
                  have v2 := K1.c2
                  have v3 := K1.c3
                  clear hbA hN hro MX u2
                  generalize hpn : wA.heap.size = pn at *
                  go_wp2_with (fail)
                  generalize wA.alloc (.cells #[.int .i64 a1, .int .i64 a2, .slice AV i cV, .int .i64 kw] 33) = wB at *
                  refine (kW _ MB SM.sz (by show i ≤ 4611686018427387904; omega) AV cV hri).mono ?_
                  rintro e wC ⟨rfl, hbC⟩
                  have BC := below_step BB hbC BB.size
                  have w3' := cell_later hbC v3
                  go_wp2
                  go_ret
                  exact ⟨ret_b (by first | rfl | (simp; omega)), BC⟩
              · have hkv := HKV.out
                rw [if_pos HMN.out] at hkv
                rw [HMN.out, HA.out] at hkv
                obtain ⟨hk1, hk2⟩ := Prod.mk.inj hkv
                subst hk1 hk2
                clear hkv HKV hle
                by_cases hlt : i < nC
                · obtain ⟨bc, oc, rfl, hcc⟩ := id (MC9 (by omega))
                  obtain ⟨g0, g1, g2, g3, g4, g5, _⟩ := hcc i hlt
                  have d0 := cell_later hB g0
                  have d1 := cell_later hB g1
                  have d2 := cell_later hB g2
                  have d3 := cell_later hB g3
                  have d4 := cell_later hB g4
                  have d5 := cell_later hB g5
                  have B9 := BX.alloc (o := .cells #[.string (C i).N, .int .i64 (C i).B, .slice (C i).b.A (C i).b.n (C i).b.c, .int .i64 (C i).P, .int .i64 (C i).Y, .int .i64 (C i).W] 43) BX.size
                  clear hcc g0 g1 g2 g3 g4 g5
                  go_wp2
                  go_ret
                  exact ⟨rfl, B9⟩
                · obtain rfl : i = nC := by omega
                  go_wp2
                  go_ret
                  exact ⟨rfl, BX⟩
          · have t2 : ((m : Int) != (nC : Int)) = true := by simp; omega
            have hkv := HKV.out
            rw [if_neg hmn] at hkv
            obtain ⟨hk1, hk2⟩ := Prod.mk.inj hkv
            subst hk1 hk2
            clear hkv HKV hle
            have B9 := B7
            have MC9 : ConM w8 AC nC C := M7.2.1
            generalize hW9 : w8 = W9 at *
            clear hW9
            go_wp2
            go_loopw [111, 9, 10] (fun kk we _ X => kk = .int .i64 0 ∧ we = .int .i64 3 ∧ X = W9) (fun kk _ _ _ => 0)
            case atStart => exact ⟨rfl, rfl, rfl⟩
            case round =>
              obtain ⟨rfl, rfl, rfl⟩ := hrel
              by_cases h0 : 0 < nC
              · obtain ⟨bc, oc, rfl, hcc⟩ := id (MC9 h0)
                obtain ⟨d0, d1, d2, d3, d4, d5, _⟩ := hcc 0 h0
                clear hcc
                have B10 := B9.alloc (o := .cells #[.string (C 0).N, .int .i64 (C 0).B, .slice (C 0).b.A (C 0).b.n (C 0).b.c, .int .i64 (C 0).P, .int .i64 (C 0).Y, .int .i64 (C 0).W] 43) B9.size
                simp only [Nat.zero_mul, Nat.add_zero] at d0 d1 d2 d3 d4 d5
                have t9 : (0 : Int) < nC := by omega
                go_wp2
                go_ret
                exact ⟨rfl, B10⟩
              · have t9 : ¬ (0 : Int) < nC := by omega
                go_wp2
                go_ret
                exact ⟨rfl, B9⟩
    · have hrv : rateV ⟨AS, nS, cS, AC, nC, cC, AK, nK, cK, L, W, S, C, K⟩ s b = (L, 0) := by
        unfold rateV
        rw [hl]
        rfl
      have hsb : s = -1 ∧ b = -1 := by
        unfold limB at hl
        simpa using hl
      obtain ⟨rfl, rfl⟩ := hsb
      clear hl
      have hrv1 := congrArg Prod.fst hrv
      have hrv2 := congrArg Prod.snd hrv
      rw [hrv1] at hrb hle
      have hkv := hyes _ _ hrv
      rw [if_pos rfl] at hkv
      have HKV := Lib.hid hkv
      have hle := Lib.hid (hle hrv2)
      clear hyes hkv hrv1 hrv2 hrv
      generalize L = rv at *
      by_cases hmn : m = nC
      · have hm1 : m ≤ nC := by omega
        have hm2 : nC ≤ m := by omega
        have HMN := Lib.hid hmn
        have t2 : ((m : Int) != (nC : Int)) = false := by simp; omega
        clear hmn
        have MC9 : ConM w6 AC nC C := M5.2.1
        go_wp2
        go_loopw [111, 9, 10] (fun kk we l X => ∃ i : Nat, i ≤ nC ∧ kk = .int .i64 i ∧ Below w6.heap.size w6 X ∧ ((we = .int .i64 0 ∧ Hid (allN C f i = true) ∧ l = .int .i64 (10000 - rv - sumR C f i)) ∨ (we = .int .i64 3 ∧ Hid (allN C f nC = false) ∧ ∃ x : Int, l = .int .i64 x))) (fun kk _ _ _ => nC - (intOf kk).toNat)
        case atStart => exact ⟨0, Nat.zero_le _, rfl, Below.refl _ _, .inl ⟨rfl, Lib.hid rfl, by rw [show 10000 - rv - sumR C f 0 = 10000 - rv from Int.sub_zero _]⟩⟩
        case round =>
          obtain ⟨i, hi, rfl, hB, hst⟩ := hrel
          have x0 := cell_later hB z0
          have x1 := cell_later hB z1
          have x2 := cell_later hB z2
          have x3 := cell_later hB z3
          have x4 := cell_later hB z4
          have u2 := cell_later hB y2
          have hql : q ≠ wr.heap.size := by have h1 := D5.lt; have h2 := hB.size; omega
          have MX := M5.below hB
          have BX := below_step B5 hB B5.size
          rcases hst with ⟨rfl, HA, rfl⟩ | ⟨rfl, HA, xx, rfl⟩
          · by_cases hlt : i < nC
            · obtain ⟨bc, oc, rfl, hcc⟩ := id (MC9 (by omega))
              obtain ⟨g0, g1, g2, g3, g4, g5, hBd⟩ := hcc i hlt
              obtain ⟨k1, k8, _, _, hRt, _⟩ := HS1.out i hlt
              obtain ⟨bf, of, rfl, hcf⟩ := id (hr6 (by omega))
              have gf := cell_later hB (hcf i (by omega))
              obtain ⟨b2, o2, hA2, hcb⟩ := id (hBd (by omega))
              have q1 := HSB2.out i (by omega) HA.out
              have hall : allN C f (i + 1) = (allN C f i && numbB (f i) (C i).b.n) := rfl
              rw [HA.out] at hall
              have hsm : sumR C f (i + 1) = sumR C f i + (C i).b.R (f i).toNat := rfl
              have HNO := Lib.hid (allN_no (C := C) (f := f) hlt)
              have d0 := cell_later hB g0
              have d1 := cell_later hB g1
              have d2 := cell_later hB g2
              have d3 := cell_later hB g3
              have d4 := cell_later hB g4
              have d5 := cell_later hB g5
              rw [hA2] at d2
              have HSM := Lib.hid hsm
              clear hcc hcf hBd hA2 g0 g1 g2 g3 g4 g5 hsm
              have hnum : numbB (f i) (C i).b.n = (decide (0 ≤ f i) && decide (f i < (C i).b.n)) := rfl
              have u3 := cell_later (below_new wr (.cells #[.string (C i).N, .int .i64 (C i).B, .slice (some ⟨b2, o2, none⟩) (C i).b.n (C i).b.c, .int .i64 (C i).P, .int .i64 (C i).Y, .int .i64 (C i).W] 43)) u2
              have gf3 := cell_later (below_new wr (.cells #[.string (C i).N, .int .i64 (C i).B, .slice (some ⟨b2, o2, none⟩) (C i).b.n (C i).b.c, .int .i64 (C i).P, .int .i64 (C i).Y, .int .i64 (C i).W] 43)) gf
              generalize hfi : f i = fi at *
              by_cases n1 : fi < 0
              · have HE : Hid (allN C f nC = false) := Lib.hid (HNO.out (by rw [hnum, decide_eq_false (by omega)]; rfl))
                have B9 := hB.alloc (o := .cells #[.string (C i).N, .int .i64 (C i).B, .slice (some ⟨b2, o2, none⟩) (C i).b.n (C i).b.c, .int .i64 (C i).P, .int .i64 (C i).Y, .int .i64 (C i).W] 43) hB.size
                clear hall HNO HSM hnum hcb hRt
                go_wp2
                go_roundw
                case rel => exact ⟨i + 1, by omega, by go_num, B9, .inr ⟨rfl, HE, _, rfl⟩⟩
                case measure => first | omega | (simp [intOf]; omega)
              · obtain ⟨j, rfl⟩ : ∃ j : Nat, fi = j := ⟨fi.toNat, by omega⟩
                have B9 := hB.alloc (o := .cells #[.string (C i).N, .int .i64 (C i).B, .slice (some ⟨b2, o2, none⟩) (C i).b.n (C i).b.c, .int .i64 (C i).P, .int .i64 (C i).Y, .int .i64 (C i).W] 43) hB.size
                by_cases n2 : (C i).b.n ≤ j
                · have HE : Hid (allN C f nC = false) := Lib.hid (HNO.out (by rw [hnum, decide_eq_false (show ¬ ((j : Int) < (C i).b.n) by omega)]; simp))
                  have t3 : ((C i).b.n : Int) ≤ (j : Int) := by omega
                  clear hall HNO HSM hnum hcb hRt
                  go_wp2
                  go_roundw
                  case rel => exact ⟨i + 1, by omega, by go_num, B9, .inr ⟨rfl, HE, _, rfl⟩⟩
                  case measure => first | omega | (simp [intOf]; omega)
                · have hnm : numbB (j : Int) (C i).b.n = true := numbB_mk (by omega) (by omega)
                  rw [hnm] at hall
                  have HA' : Hid (allN C f (i + 1) = true) := Lib.hid hall
                  have hRs := hRt j (by omega)
                  obtain ⟨_, p1, _⟩ := hcb j (by omega)
                  have p2 := cell_later hB p1
                  have p3 := cell_later (below_new wr (.cells #[.string (C i).N, .int .i64 (C i).B, .slice (some ⟨b2, o2, none⟩) (C i).b.n (C i).b.c, .int .i64 (C i).P, .int .i64 (C i).Y, .int .i64 (C i).W] 43)) p2
                  have HN : Hid (10000 - rv - sumR C f (i + 1) = 10000 - rv - sumR C f i - (C i).b.R j) := Lib.hid (by rw [HSM.out]; rw [Int.toNat_natCast]; omega)
                  have t3 : ¬ ((C i).b.n : Int) ≤ (j : Int) := by omega
                  have t4 : (j : Int) < ((C i).b.n : Int) := by omega
                  clear hall HNO hnum hcb hRt HSM hfi hnm p1
                  generalize sumR C f i = sm at *
                  generalize (C i).b.R j = rj at *
                  go_wp2
                  go_roundw
                  case rel => exact ⟨i + 1, by omega, by go_num, B9, .inl ⟨rfl, HA', by rw [HN.out]⟩⟩
                  case measure => first | omega | (simp [intOf]; omega)
            · obtain rfl : i = nC := by omega
              have hkv := HKV.out
              rw [if_pos HMN.out] at hkv
              rw [HMN.out, if_pos HA.out] at hkv
              obtain ⟨hk1, hk2⟩ := Prod.mk.inj hkv
              subst hk2
              have hle2 := hle.out HA.out
              have HK1 := Lib.hid hk1
              clear hkv hk1 hle HKV
              generalize 10000 - rv - sumR C f i = lf at *
              obtain rfl : lf = kv := HK1.out.symm
              go_wp2_with (fail)
              refine (kO2 _ MX).mono ?_
              rintro e wA ⟨AV, cV, rfl, hro, hbA⟩
              have BA := below_step BX hbA BX.size
              have MA := MX.below hbA
              have K1 := C4.new wA (.int .i64 a1) (.int .i64 a2) (.slice AV i cV) (.int .i64 kw)
              have hN := below_new wA (.cells #[.int .i64 a1, .int .i64 a2, .slice AV i cV, .int .i64 kw] 33)
              have BB := below_step BA hN BA.size
              have MB := MA.below hN
              have hri := (ro_ri hro).below hN
              replace x0 := cell_later hN (cell_later hbA x0)
              replace x1 := cell_later hN (cell_later hbA x1)
              replace x2 := cell_later hN (cell_later hbA x2)
              replace x3 := cell_later hN (cell_later hbA x3)
              replace x4 := cell_later hN (cell_later hbA x4)
              have v0 := K1.c0
              have v1 := K1.c1
              have v2 := K1.c2
              have v3 := K1.c3
              clear hbA hN hro MX u2
              generalize hpn : wA.heap.size = pn at *
              go_wp2_with (fail)
              generalize wA.alloc (.cells #[.int .i64 a1, .int .i64 a2, .slice AV i cV, .int .i64 kw] 33) = wB at *
              refine (kW _ MB SM.sz (by show i ≤ 4611686018427387904; omega) AV cV hri).mono ?_
              rintro e wC ⟨rfl, hbC⟩
              have BC := below_step BB hbC BB.size
              have w3' := cell_later hbC v3
              go_wp2
              go_ret
              exact ⟨ret_b (by first | rfl | (simp; omega)), BC⟩
          · have hkv := HKV.out
            rw [if_pos HMN.out] at hkv
            rw [HMN.out, HA.out] at hkv
            obtain ⟨hk1, hk2⟩ := Prod.mk.inj hkv
            subst hk1 hk2
            clear hkv HKV hle
            by_cases hlt : i < nC
            · obtain ⟨bc, oc, rfl, hcc⟩ := id (MC9 (by omega))
              obtain ⟨g0, g1, g2, g3, g4, g5, _⟩ := hcc i hlt
              have d0 := cell_later hB g0
              have d1 := cell_later hB g1
              have d2 := cell_later hB g2
              have d3 := cell_later hB g3
              have d4 := cell_later hB g4
              have d5 := cell_later hB g5
              have B9 := BX.alloc (o := .cells #[.string (C i).N, .int .i64 (C i).B, .slice (C i).b.A (C i).b.n (C i).b.c, .int .i64 (C i).P, .int .i64 (C i).Y, .int .i64 (C i).W] 43) BX.size
              clear hcc g0 g1 g2 g3 g4 g5
              go_wp2
              go_ret
              exact ⟨rfl, B9⟩
            · obtain rfl : i = nC := by omega
              go_wp2
              go_ret
              exact ⟨rfl, BX⟩
      · have t2 : ((m : Int) != (nC : Int)) = true := by simp; omega
        have hkv := HKV.out
        rw [if_neg hmn] at hkv
        obtain ⟨hk1, hk2⟩ := Prod.mk.inj hkv
        subst hk1 hk2
        clear hkv HKV hle
        have B9 := B5
        have MC9 : ConM w6 AC nC C := M5.2.1
        generalize hW9 : w6 = W9 at *
        clear hW9
        go_wp2
        go_loopw [111, 9, 10] (fun kk we _ X => kk = .int .i64 0 ∧ we = .int .i64 3 ∧ X = W9) (fun kk _ _ _ => 0)
        case atStart => exact ⟨rfl, rfl, rfl⟩
        case round =>
          obtain ⟨rfl, rfl, rfl⟩ := hrel
          by_cases h0 : 0 < nC
          · obtain ⟨bc, oc, rfl, hcc⟩ := id (MC9 h0)
            obtain ⟨d0, d1, d2, d3, d4, d5, _⟩ := hcc 0 h0
            clear hcc
            have B10 := B9.alloc (o := .cells #[.string (C 0).N, .int .i64 (C 0).B, .slice (C 0).b.A (C 0).b.n (C 0).b.c, .int .i64 (C 0).P, .int .i64 (C 0).Y, .int .i64 (C 0).W] 43) B9.size
            simp only [Nat.zero_mul, Nat.add_zero] at d0 d1 d2 d3 d4 d5
            have t9 : (0 : Int) < nC := by omega
            go_wp2
            go_ret
            exact ⟨rfl, B10⟩
          · have t9 : ¬ (0 : Int) < nC := by omega
            go_wp2
            go_ret
            exact ⟨rfl, B9⟩
  · have t1 : (v != 0) = true := by simpa using hv
    have hkv := HNO.out hv
    obtain ⟨hk1, hk2⟩ := Prod.mk.inj hkv
    subst hk1 hk2
    clear hkv HNO HYES HLE HRB HSB hkw
    go_wp2
    go_ret
    exact ⟨ret_b (by simp), B5⟩
end Go.Proofs.Ytoppipjbdakmeaa
