/- The law PieceReach, walked. -/
import Derived.Test.YtcldknmhmbpboaaPcV
namespace Go.Proofs.Ytcldknmhmbpboaa
open Go.RowKit Go.Sort
set_option linter.unusedVariables false
set_option linter.unusedSimpArgs false

set_option maxHeartbeats 8000000 in
set_option maxRecDepth 100000 in
theorem reach_loop (A : Option Addr) (c : Nat) (f : Lf) (y : Int) (w : World) (h : Lm w A f) (hnc : f.n ≤ c) (hn60 : f.n ≤ 60) (hc : f.chk = 0)
    (hRc : ∀ W, Lm W A f → Calls Try.prog 18 #[.slice A f.n c, .int .i64 y] W fun e w' => (∃ (x : Int) (k : Nat) (ok : Bool), e = .returned (.tuple #[.int .i64 x, .int .i64 (k : Int), .bool ok]) ∧ k ≤ f.n ∧ (ok = false → x = 0 ∧ k = f.n ∧ f.val 10000000000 < y) ∧ (ok = true → 1 ≤ k ∧ 0 ≤ x ∧ x ≤ 10000000000 ∧ y ≤ f.val x ∧ (x = 0 ∨ (0 ≤ x - 1 ∧ f.val (x - 1) < y)))) ∧ Below W.heap.size W w') :
    Calls Try.prog 6 #[.slice A f.n c, .int .i64 y] w fun e w' => e = .returned (.bool true) ∧ Below w.heap.size w w' := by
  have d0 : decide (60 < (f.n : Int)) = false := by simp; omega
  have cW := fun W hh => wrong_any A c f W hh (by omega)
  rw [hc] at cW
  have HOK := Lib.hid (Lf.chk_zero hc)
  have HFL := Lib.hid (show flB f = f.falB f.n from if_pos hc)
  have cF := fun W hh => falls_any A c f W hh (by omega)
  rw [HFL.out] at cF
  have H := Lib.hid h
  clear hc h
  go_enter Try.func6, Try.ntmps6
  go_wp2_with (fail)
  refine (goes_any _).mono ?_
  rintro e w1 ⟨rfl, hb1⟩
  go_wp2_with (fail)
  refine (hRc _ (H.out.below hb1)).mono ?_
  rintro e w2 ⟨⟨x, kk, ok, rfl, hkk, hno, hyes⟩, hb2⟩
  have B2 := below_step hb1 hb2 hb1.size
  go_wp2_with (fail)
  refine (cW _ (H.out.below B2)).mono ?_
  rintro e w3 ⟨rfl, hb3⟩
  have B3 := below_step B2 hb3 B2.size
  have HNO := Lib.hid (And.intro hno (And.intro hyes hkk))
  clear hno hyes hkk hb1 hb2 hb3 B2 cW hRc
  go_wp2
  go_loopw [8, 39] (fun s8 k W => ∃ i : Nat, i ≤ f.n ∧ s8 = .bool (f.falB i) ∧ k = .int .i64 i ∧ Below w.heap.size w W) (fun _ k _ => f.n - (intOf k).toNat)
  case atStart => exact ⟨0, Nat.zero_le _, rfl, rfl, B3⟩
  case round =>
    clear B3
    obtain ⟨i, hi, rfl, rfl, hb⟩ := hrel
    by_cases hlt : i < f.n
    · have HL0 := H.out.below hb
      obtain ⟨b, o, rfl, c0, c1, c2⟩ := lm_at HL0 hlt
      have KX := bx_new wr [.int .i64 (f.F i), .int .i64 (f.V i), .int .i64 (f.R i)] 37
      have NX' := below_new wr (.cells #[.int .i64 (f.F i), .int .i64 (f.V i), .int .i64 (f.R i)] 37)
      have HL := Lib.hid (HL0.below NX')
      have NX := below_step hb NX' hb.size
      have w1' : IntKind.i64.wrap ((i : Int) + 1) = (i : Int) + 1 := IntWalk.i64_in _ (by omega)
      have hfi := HOK.out.fb i hlt
      have HLM := Lib.hid HL0
      clear hb NX' HL0
      by_cases e : i + 1 < f.n
      · have t1 : decide ((i : Int) + 1 < (f.n : Int)) = true := by simp; omega
        have e1 : ((i : Int) + 1).toNat = i + 1 := by omega
        obtain ⟨bb, oo, hbb, n0, _, _⟩ := lm_at HL.out e
        obtain ⟨rfl, rfl⟩ : b = bb ∧ o = oo := by simpa using hbb
        have n1 := Lf.lst_in e
        have hfe := HOK.out.fb (i + 1) e
        have w4 : IntKind.i64.wrap (f.F (i + 1) - 1) = f.F (i + 1) - 1 := IntWalk.i64_in _ (by omega)
        have i1 : (i : Int) + 1 < (f.n : Int) := by omega
        have i0 : 0 ≤ (i : Int) + 1 := by omega
        clear hfe hfi
        cases hb8 : f.falB i
        · by_cases hr : f.R i < 0 ∧ f.F i < f.lst i
          · have d1 : decide (f.R i < 0) = true := decide_eq_true hr.1
            have d2 : decide (f.F i < f.lst i) = true := decide_eq_true hr.2
            have HNX := Lib.hid (show f.falB (i + 1) = true from Lf.fal_stop (Nat.lt_succ_self i) (.inl hr))
            clear hr
            try rw [n1] at d2
            go_wp2
            generalize wr.alloc (.cells #[.int .i64 (f.F i), .int .i64 (f.V i), .int .i64 (f.R i)] 37) = wk at *
            have kx_0 := fun d os => cell_regrown (KX.cell (i := 0) rfl) d os
            have kx_1 := fun d os => cell_regrown (KX.cell (i := 1) rfl) d os
            have kx_2 := fun d os => cell_regrown (KX.cell (i := 2) rfl) d os
            refine wp_region_quiet_below mixedP (by kernel_rfl) ?_
            repeat (go_big_quiet_step (fail))
            refine wpQuiet_nil ?_
            intro _ hw'
            obtain ⟨⟨dq, osq⟩, hw''⟩ := hw'
            subst hw''
            have BZ := below_step NX (below_regrown wk dq osq) NX.size
            clear kx_0 kx_1 kx_2 KX NX
            generalize grow (redrawn wk dq) osq = WZ at *
            go_wp2
            go_round
            case rel => exact ⟨i + 1, Nat.succ_le_of_lt hlt, by rw [HNX.out], by go_num, BZ⟩
            case measure => exact meas_step hlt
          · have HR := Lib.hid hr
            rcases (show (decide (f.R i < 0) = false) ∨ (decide (f.R i < 0) = true ∧ decide (f.F i < f.lst i) = false) from by simp only [decide_eq_true_eq, decide_eq_false_iff_not]; omega) with d1 | ⟨d1, d2⟩
            all_goals
              clear hr
              try rw [n1] at d2
              rcases Nat.eq_zero_or_pos i with hi0 | hi0
              · have g0 : decide (0 < (i : Int)) = false := by simp; omega
                have g1 : decide (0 < i) = false := by simp; omega
                have HNX := Lib.hid (Lf.fal_succ hb8 (fun h => h.elim HR.out fun h => by omega))
                clear hi0
                go_wp2
                generalize wr.alloc (.cells #[.int .i64 (f.F i), .int .i64 (f.V i), .int .i64 (f.R i)] 37) = wk at *
                have kx_0 := fun d os => cell_regrown (KX.cell (i := 0) rfl) d os
                have kx_1 := fun d os => cell_regrown (KX.cell (i := 1) rfl) d os
                have kx_2 := fun d os => cell_regrown (KX.cell (i := 2) rfl) d os
                refine wp_region_quiet_below mixedP (by kernel_rfl) ?_
                repeat (go_big_quiet_step (fail))
                refine wpQuiet_nil ?_
                intro _ hw'
                obtain ⟨⟨dq, osq⟩, hw''⟩ := hw'
                subst hw''
                have BZ := below_step NX (below_regrown wk dq osq) NX.size
                clear kx_0 kx_1 kx_2 KX NX
                generalize grow (redrawn wk dq) osq = WZ at *
                go_wp2
                go_round
                case rel => exact ⟨i + 1, Nat.succ_le_of_lt hlt, by rw [HNX.out], by go_num, BZ⟩
                case measure => exact meas_step hlt
              · have g0 : decide (0 < (i : Int)) = true := by simp; omega
                have g1 : decide (0 < i) = true := by simp; omega
                have hm := HOK.out.toOrd.mono (i := i - 1) (j := i) (by omega) hlt
                have hf1 := HOK.out.fb i hlt
                have hf2 := HOK.out.fb (i - 1) (by omega)
                have w2' : IntKind.i64.wrap (f.F i - 1) = f.F i - 1 := IntWalk.i64_in _ (by omega)
                have hpv := HOK.out.toOrd.pre_at hlt hi0 (x := f.F i - 1) (by omega)
                have cP := fun (d : Nat) (os : Array Obj) => Calls.regrown_of (d := d) (os := os) (w := wr.alloc (.cells #[.int .i64 (f.F i), .int .i64 (f.V i), .int .i64 (f.R i)] 37)) (at_pre _ c f i (f.F i - 1) _ (HL.out.below (below_regrown _ d os)) (by omega) (by omega) HOK.out.rk (by omega) (by omega))
                rw [hpv] at cP
                have s0 : 0 ≤ (i : Int) := by omega
                have s1 : (i : Int) ≤ (c : Int) := by omega
                have s2 : (i : Int).toNat = i := by omega
                clear hm hf1 hf2 hpv
                by_cases hfl : f.V i < f.ln (i - 1) (f.F i - 1)
                · have d3 : decide (f.V i < f.ln (i - 1) (f.F i - 1)) = true := decide_eq_true hfl
                  have HNX := Lib.hid (show f.falB (i + 1) = true from Lf.fal_stop (Nat.lt_succ_self i) (.inr ⟨hi0, hfl⟩))
                  clear hfl hi0
                  go_wp2
                  generalize wr.alloc (.cells #[.int .i64 (f.F i), .int .i64 (f.V i), .int .i64 (f.R i)] 37) = wk at *
                  have kx_0 := fun d os => cell_regrown (KX.cell (i := 0) rfl) d os
                  have kx_1 := fun d os => cell_regrown (KX.cell (i := 1) rfl) d os
                  have kx_2 := fun d os => cell_regrown (KX.cell (i := 2) rfl) d os
                  refine wp_region_quiet_below mixedP (by kernel_rfl) ?_
                  iterate 24 (go_big_quiet_step (fail))
                  go_big_quiet_step (exact cP _ _)
                  repeat (go_big_quiet_step (fail))
                  clear cP
                  refine wpQuiet_nil ?_
                  intro _ hw'
                  obtain ⟨⟨dq, osq⟩, hw''⟩ := hw'
                  subst hw''
                  have BZ := below_step NX (below_regrown wk dq osq) NX.size
                  clear kx_0 kx_1 kx_2 KX NX
                  generalize grow (redrawn wk dq) osq = WZ at *
                  go_wp2
                  go_round
                  case rel => exact ⟨i + 1, Nat.succ_le_of_lt hlt, by rw [HNX.out], by go_num, BZ⟩
                  case measure => exact meas_step hlt
                · have d3 : decide (f.V i < f.ln (i - 1) (f.F i - 1)) = false := decide_eq_false hfl
                  have HNX := Lib.hid (Lf.fal_succ hb8 (fun h => h.elim HR.out fun h => hfl h.2))
                  clear hfl hi0
                  go_wp2
                  generalize wr.alloc (.cells #[.int .i64 (f.F i), .int .i64 (f.V i), .int .i64 (f.R i)] 37) = wk at *
                  have kx_0 := fun d os => cell_regrown (KX.cell (i := 0) rfl) d os
                  have kx_1 := fun d os => cell_regrown (KX.cell (i := 1) rfl) d os
                  have kx_2 := fun d os => cell_regrown (KX.cell (i := 2) rfl) d os
                  refine wp_region_quiet_below mixedP (by kernel_rfl) ?_
                  iterate 24 (go_big_quiet_step (fail))
                  go_big_quiet_step (exact cP _ _)
                  repeat (go_big_quiet_step (fail))
                  clear cP
                  refine wpQuiet_nil ?_
                  intro _ hw'
                  obtain ⟨⟨dq, osq⟩, hw''⟩ := hw'
                  subst hw''
                  have BZ := below_step NX (below_regrown wk dq osq) NX.size
                  clear kx_0 kx_1 kx_2 KX NX
                  generalize grow (redrawn wk dq) osq = WZ at *
                  go_wp2
                  go_round
                  case rel => exact ⟨i + 1, Nat.succ_le_of_lt hlt, by rw [HNX.out], by go_num, BZ⟩
                  case measure => exact meas_step hlt
        · have HNX := Lib.hid (show f.falB (i + 1) = true by show (f.falB i || _) = true; rw [hb8]; rfl)
          try rw [n1] at d2
          go_wp2
          generalize wr.alloc (.cells #[.int .i64 (f.F i), .int .i64 (f.V i), .int .i64 (f.R i)] 37) = wk at *
          have kx_0 := fun d os => cell_regrown (KX.cell (i := 0) rfl) d os
          have kx_1 := fun d os => cell_regrown (KX.cell (i := 1) rfl) d os
          have kx_2 := fun d os => cell_regrown (KX.cell (i := 2) rfl) d os
          refine wp_region_quiet_below mixedP (by kernel_rfl) ?_
          repeat (go_big_quiet_step (fail))
          refine wpQuiet_nil ?_
          intro _ hw'
          obtain ⟨⟨dq, osq⟩, hw''⟩ := hw'
          subst hw''
          have BZ := below_step NX (below_regrown wk dq osq) NX.size
          clear kx_0 kx_1 kx_2 KX NX
          generalize grow (redrawn wk dq) osq = WZ at *
          go_wp2
          go_round
          case rel => exact ⟨i + 1, Nat.succ_le_of_lt hlt, by rw [HNX.out], by go_num, BZ⟩
          case measure => exact meas_step hlt
      · have t1 : decide ((i : Int) + 1 < (f.n : Int)) = false := by simp; omega
        have n1 := Lf.lst_out e
        clear e hfi
        cases hb8 : f.falB i
        · by_cases hr : f.R i < 0 ∧ f.F i < f.lst i
          · have d1 : decide (f.R i < 0) = true := decide_eq_true hr.1
            have d2 : decide (f.F i < f.lst i) = true := decide_eq_true hr.2
            have HNX := Lib.hid (show f.falB (i + 1) = true from Lf.fal_stop (Nat.lt_succ_self i) (.inl hr))
            clear hr
            try rw [n1] at d2
            go_wp2
            generalize wr.alloc (.cells #[.int .i64 (f.F i), .int .i64 (f.V i), .int .i64 (f.R i)] 37) = wk at *
            have kx_0 := fun d os => cell_regrown (KX.cell (i := 0) rfl) d os
            have kx_1 := fun d os => cell_regrown (KX.cell (i := 1) rfl) d os
            have kx_2 := fun d os => cell_regrown (KX.cell (i := 2) rfl) d os
            refine wp_region_quiet_below mixedP (by kernel_rfl) ?_
            repeat (go_big_quiet_step (fail))
            refine wpQuiet_nil ?_
            intro _ hw'
            obtain ⟨⟨dq, osq⟩, hw''⟩ := hw'
            subst hw''
            have BZ := below_step NX (below_regrown wk dq osq) NX.size
            clear kx_0 kx_1 kx_2 KX NX
            generalize grow (redrawn wk dq) osq = WZ at *
            go_wp2
            go_round
            case rel => exact ⟨i + 1, Nat.succ_le_of_lt hlt, by rw [HNX.out], by go_num, BZ⟩
            case measure => exact meas_step hlt
          · have HR := Lib.hid hr
            rcases (show (decide (f.R i < 0) = false) ∨ (decide (f.R i < 0) = true ∧ decide (f.F i < f.lst i) = false) from by simp only [decide_eq_true_eq, decide_eq_false_iff_not]; omega) with d1 | ⟨d1, d2⟩
            all_goals
              clear hr
              try rw [n1] at d2
              rcases Nat.eq_zero_or_pos i with hi0 | hi0
              · have g0 : decide (0 < (i : Int)) = false := by simp; omega
                have g1 : decide (0 < i) = false := by simp; omega
                have HNX := Lib.hid (Lf.fal_succ hb8 (fun h => h.elim HR.out fun h => by omega))
                clear hi0
                go_wp2
                generalize wr.alloc (.cells #[.int .i64 (f.F i), .int .i64 (f.V i), .int .i64 (f.R i)] 37) = wk at *
                have kx_0 := fun d os => cell_regrown (KX.cell (i := 0) rfl) d os
                have kx_1 := fun d os => cell_regrown (KX.cell (i := 1) rfl) d os
                have kx_2 := fun d os => cell_regrown (KX.cell (i := 2) rfl) d os
                refine wp_region_quiet_below mixedP (by kernel_rfl) ?_
                repeat (go_big_quiet_step (fail))
                refine wpQuiet_nil ?_
                intro _ hw'
                obtain ⟨⟨dq, osq⟩, hw''⟩ := hw'
                subst hw''
                have BZ := below_step NX (below_regrown wk dq osq) NX.size
                clear kx_0 kx_1 kx_2 KX NX
                generalize grow (redrawn wk dq) osq = WZ at *
                go_wp2
                go_round
                case rel => exact ⟨i + 1, Nat.succ_le_of_lt hlt, by rw [HNX.out], by go_num, BZ⟩
                case measure => exact meas_step hlt
              · have g0 : decide (0 < (i : Int)) = true := by simp; omega
                have g1 : decide (0 < i) = true := by simp; omega
                have hm := HOK.out.toOrd.mono (i := i - 1) (j := i) (by omega) hlt
                have hf1 := HOK.out.fb i hlt
                have hf2 := HOK.out.fb (i - 1) (by omega)
                have w2' : IntKind.i64.wrap (f.F i - 1) = f.F i - 1 := IntWalk.i64_in _ (by omega)
                have hpv := HOK.out.toOrd.pre_at hlt hi0 (x := f.F i - 1) (by omega)
                have cP := fun (d : Nat) (os : Array Obj) => Calls.regrown_of (d := d) (os := os) (w := wr.alloc (.cells #[.int .i64 (f.F i), .int .i64 (f.V i), .int .i64 (f.R i)] 37)) (at_pre _ c f i (f.F i - 1) _ (HL.out.below (below_regrown _ d os)) (by omega) (by omega) HOK.out.rk (by omega) (by omega))
                rw [hpv] at cP
                have s0 : 0 ≤ (i : Int) := by omega
                have s1 : (i : Int) ≤ (c : Int) := by omega
                have s2 : (i : Int).toNat = i := by omega
                clear hm hf1 hf2 hpv
                by_cases hfl : f.V i < f.ln (i - 1) (f.F i - 1)
                · have d3 : decide (f.V i < f.ln (i - 1) (f.F i - 1)) = true := decide_eq_true hfl
                  have HNX := Lib.hid (show f.falB (i + 1) = true from Lf.fal_stop (Nat.lt_succ_self i) (.inr ⟨hi0, hfl⟩))
                  clear hfl hi0
                  go_wp2
                  generalize wr.alloc (.cells #[.int .i64 (f.F i), .int .i64 (f.V i), .int .i64 (f.R i)] 37) = wk at *
                  have kx_0 := fun d os => cell_regrown (KX.cell (i := 0) rfl) d os
                  have kx_1 := fun d os => cell_regrown (KX.cell (i := 1) rfl) d os
                  have kx_2 := fun d os => cell_regrown (KX.cell (i := 2) rfl) d os
                  refine wp_region_quiet_below mixedP (by kernel_rfl) ?_
                  iterate 24 (go_big_quiet_step (fail))
                  go_big_quiet_step (exact cP _ _)
                  repeat (go_big_quiet_step (fail))
                  clear cP
                  refine wpQuiet_nil ?_
                  intro _ hw'
                  obtain ⟨⟨dq, osq⟩, hw''⟩ := hw'
                  subst hw''
                  have BZ := below_step NX (below_regrown wk dq osq) NX.size
                  clear kx_0 kx_1 kx_2 KX NX
                  generalize grow (redrawn wk dq) osq = WZ at *
                  go_wp2
                  go_round
                  case rel => exact ⟨i + 1, Nat.succ_le_of_lt hlt, by rw [HNX.out], by go_num, BZ⟩
                  case measure => exact meas_step hlt
                · have d3 : decide (f.V i < f.ln (i - 1) (f.F i - 1)) = false := decide_eq_false hfl
                  have HNX := Lib.hid (Lf.fal_succ hb8 (fun h => h.elim HR.out fun h => hfl h.2))
                  clear hfl hi0
                  go_wp2
                  generalize wr.alloc (.cells #[.int .i64 (f.F i), .int .i64 (f.V i), .int .i64 (f.R i)] 37) = wk at *
                  have kx_0 := fun d os => cell_regrown (KX.cell (i := 0) rfl) d os
                  have kx_1 := fun d os => cell_regrown (KX.cell (i := 1) rfl) d os
                  have kx_2 := fun d os => cell_regrown (KX.cell (i := 2) rfl) d os
                  refine wp_region_quiet_below mixedP (by kernel_rfl) ?_
                  iterate 24 (go_big_quiet_step (fail))
                  go_big_quiet_step (exact cP _ _)
                  repeat (go_big_quiet_step (fail))
                  clear cP
                  refine wpQuiet_nil ?_
                  intro _ hw'
                  obtain ⟨⟨dq, osq⟩, hw''⟩ := hw'
                  subst hw''
                  have BZ := below_step NX (below_regrown wk dq osq) NX.size
                  clear kx_0 kx_1 kx_2 KX NX
                  generalize grow (redrawn wk dq) osq = WZ at *
                  go_wp2
                  go_round
                  case rel => exact ⟨i + 1, Nat.succ_le_of_lt hlt, by rw [HNX.out], by go_num, BZ⟩
                  case measure => exact meas_step hlt
        · have HNX := Lib.hid (show f.falB (i + 1) = true by show (f.falB i || _) = true; rw [hb8]; rfl)
          try rw [n1] at d2
          go_wp2
          generalize wr.alloc (.cells #[.int .i64 (f.F i), .int .i64 (f.V i), .int .i64 (f.R i)] 37) = wk at *
          have kx_0 := fun d os => cell_regrown (KX.cell (i := 0) rfl) d os
          have kx_1 := fun d os => cell_regrown (KX.cell (i := 1) rfl) d os
          have kx_2 := fun d os => cell_regrown (KX.cell (i := 2) rfl) d os
          refine wp_region_quiet_below mixedP (by kernel_rfl) ?_
          repeat (go_big_quiet_step (fail))
          refine wpQuiet_nil ?_
          intro _ hw'
          obtain ⟨⟨dq, osq⟩, hw''⟩ := hw'
          subst hw''
          have BZ := below_step NX (below_regrown wk dq osq) NX.size
          clear kx_0 kx_1 kx_2 KX NX
          generalize grow (redrawn wk dq) osq = WZ at *
          go_wp2
          go_round
          case rel => exact ⟨i + 1, Nat.succ_le_of_lt hlt, by rw [HNX.out], by go_num, BZ⟩
          case measure => exact meas_step hlt
    · obtain rfl : i = f.n := by omega
      have qq : (f.falB f.n != f.falB f.n) = false := by cases f.falB f.n <;> rfl
      have cV := fun z W hh h0 hT => lawat_any A c f z W hh (by omega) HOK.out.rk h0 hT
      have L0 := H.out.below hb
      cases hb8 : f.falB f.n
      · rw [hb8] at cF qq
        have HB8 := Lib.hid hb8
        clear hb8
        by_cases hy : 4000000000000000 < y ∨ y < -4000000000000000
        · rcases (show decide (4000000000000000 < y) = true ∨ (decide (4000000000000000 < y) = false ∧ decide (y < -4000000000000000) = true) from by simp only [decide_eq_true_eq, decide_eq_false_iff_not]; omega) with d1 | ⟨d1, d2⟩
          all_goals
            clear hy cV
            go_wp2_with (fail)
            refine (cF _ L0).mono ?_
            rintro e w4 ⟨rfl, hb4⟩
            have B4 := below_step hb hb4 hb.size
            clear hb hb4 L0 cF
            go_wp2
            go_ret
            exact ⟨rfl, B4⟩
        · have d1 : decide (4000000000000000 < y) = false := by simp; omega
          have d2 : decide (y < -4000000000000000) = false := by simp; omega
          clear hy
          cases ok
          · obtain ⟨rfl, rfl, h3⟩ := HNO.out.1 rfl
            have d3 : decide (f.val 10000000000 < y) = true := decide_eq_true h3
            have cT := fun W hh => cV 10000000000 W hh (by omega) (by omega)
            have d4 : ((f.n : Int) == (f.n : Int)) = true := by simp
            clear h3 cV HNO
            generalize f.val 10000000000 = vt at *
            go_wp2_with (fail)
            refine (cF _ L0).mono ?_
            rintro e w4 ⟨rfl, hb4⟩
            have B4 := below_step hb hb4 hb.size
            have L4 := L0.below hb4
            go_wp2_with (fail)
            refine (cT _ L4).mono ?_
            rintro e w5 ⟨rfl, hb5⟩
            have B5 := below_step B4 hb5 B4.size
            clear hb hb4 hb5 B4 L4 L0 cF cT
            go_wp2
            go_ret
            exact ⟨rfl, B5⟩
          · obtain ⟨h1, h2, h3, h4, h5⟩ := HNO.out.2.1 rfl
            have h6 := HNO.out.2.2
            have e1 : decide ((1 : Int) ≤ (kk : Int)) = true := by simp; omega
            have e2 : decide ((kk : Int) ≤ (f.n : Int)) = true := by simp; omega
            have e3 : decide (y ≤ f.val x) = true := decide_eq_true h4
            have cX := fun W hh => cV x W hh h2 h3
            have u1 : IntKind.i64.wrap (x - 1) = x - 1 := IntWalk.i64_in _ (by omega)
            by_cases hx : x = 0
            · have e4 : (x == 0) = true := by simp; exact hx
              clear cV HNO h2 h3 h4 h5 hx
              generalize f.val x = vx at *
              go_wp2_with (fail)
              refine (cF _ L0).mono ?_
              rintro e w4 ⟨rfl, hb4⟩
              have B4 := below_step hb hb4 hb.size
              have L4 := L0.below hb4
              go_wp2_with (fail)
              refine (cX _ L4).mono ?_
              rintro e w5 ⟨rfl, hb5⟩
              have B5 := below_step B4 hb5 B4.size
              clear hb hb4 hb5 B4 L4 L0 cF cX
              go_wp2
              go_ret
              exact ⟨rfl, B5⟩
            · have e4 : (x == 0) = false := by simp; exact hx
              have h7 : 0 ≤ x - 1 ∧ f.val (x - 1) < y := by
                rcases h5 with h | h
                · exact absurd h hx
                · exact h
              have e5 : decide (f.val (x - 1) < y) = true := decide_eq_true h7.2
              have cY := fun W hh => cV (x - 1) W hh h7.1 (by omega)
              clear cV HNO h2 h3 h4 h5 hx h7
              generalize f.val x = vx at *
              generalize f.val (x - 1) = vy at *
              go_wp2_with (fail)
              refine (cF _ L0).mono ?_
              rintro e w4 ⟨rfl, hb4⟩
              have B4 := below_step hb hb4 hb.size
              have L4 := L0.below hb4
              go_wp2_with (fail)
              refine (cX _ L4).mono ?_
              rintro e w5 ⟨rfl, hb5⟩
              have B5 := below_step B4 hb5 B4.size
              have L5 := L4.below hb5
              go_wp2_with (fail)
              refine (cY _ L5).mono ?_
              rintro e w6 ⟨rfl, hb6⟩
              have B6 := below_step B5 hb6 B5.size
              clear hb hb4 hb5 hb6 B4 B5 L4 L5 L0 cF cX cY
              go_wp2
              go_ret
              exact ⟨rfl, B6⟩
      · rw [hb8] at cF qq
        have HB8 := Lib.hid hb8
        clear hb8 cV
        go_wp2_with (fail)
        refine (cF _ L0).mono ?_
        rintro e w4 ⟨rfl, hb4⟩
        have B4 := below_step hb hb4 hb.size
        clear hb hb4 L0 cF
        go_wp2
        go_ret
        exact ⟨rfl, B4⟩
set_option maxHeartbeats 4000000 in
set_option maxRecDepth 100000 in
theorem wPieceReach (A : Option Addr) (c : Nat) (f : Lf) (y : Int) (w : World) (h : Lm w A f) (hnc : f.n ≤ 9223372036854775807 ∧ f.n ≤ c) (hy1 : -9223372036854775808 ≤ y) (hy2 : y ≤ 9223372036854775807) :
    Calls Try.prog 6 #[.slice A f.n c, .int .i64 y] w fun e w' => e = .returned (.bool true) ∧ Below w.heap.size w w' := by
  by_cases hl : 60 < f.n
  · have d1 : decide (60 < (f.n : Int)) = true := by simp; omega
    clear hl
    go_enter Try.func6, Try.ntmps6
    go_wp2_with (fail)
    refine (goes_any _).mono ?_
    rintro e w1 ⟨rfl, hb⟩
    go_wp2
    go_ret
    exact ⟨rfl, hb⟩
  · by_cases hc : f.chk = 0
    · refine reach_loop A c f y w h hnc.2 (by omega) hc fun W hW => (reach_any A c f y W hW (by omega)).mono fun e w' ⟨he, hb⟩ => ⟨?_, hb⟩
      have OK := Lf.chk_zero hc
      rcases he with ⟨hne, _⟩ | ⟨_, ⟨i, hi, h0, hr, he⟩ | ⟨h0, he⟩⟩
      · exact absurd hc hne
      · obtain ⟨a1, a2, a3, a4⟩ := Lf.rc_ok OK.toOrd hi h0 hr
        exact ⟨f.rcX y i, i + 1, true, by rw [he]; rfl, by omega, fun h => (by cases h), fun _ => ⟨by omega, a1, a2, a3, a4⟩⟩
      · exact ⟨0, f.n, false, he, Nat.le_refl _, fun _ => ⟨rfl, rfl, Lf.rc_none OK.toOrd h0⟩, fun h => (by cases h)⟩
    · have d1 : decide (60 < (f.n : Int)) = false := by simp; omega
      have cR : ∀ W, Lm W A f → Calls Try.prog 18 #[.slice A f.n c, .int .i64 y] W fun e w' => e = .returned (.tuple #[.int .i64 0, .int .i64 0, .bool false]) ∧ Below W.heap.size W w' := fun W hh => (reach_any A c f y W hh (by omega)).mono fun e w' ⟨he, hb⟩ => ⟨by
        rcases he with ⟨_, he⟩ | ⟨hz, _⟩
        · exact he
        · exact absurd hz hc, hb⟩
      have cW := fun W hh => wrong_any A c f W hh (by omega)
      have b1 : (f.chk != 0) = true := by simp; exact hc
      clear hc hl
      generalize f.chk = q at *
      go_enter Try.func6, Try.ntmps6
      go_wp2_with (fail)
      refine (goes_any _).mono ?_
      rintro e w1 ⟨rfl, hb⟩
      go_wp2_with (fail)
      refine (cR _ (h.below hb)).mono ?_
      rintro e w2 ⟨rfl, hb2⟩
      have B2 := below_step hb hb2 hb.size
      go_wp2_with (fail)
      refine (cW _ (h.below B2)).mono ?_
      rintro e w3 ⟨rfl, hb3⟩
      have B3 := below_step B2 hb3 B2.size
      clear hb hb2 hb3 B2 cR cW
      go_wp2
      go_ret
      exact ⟨rfl, B3⟩
end Go.Proofs.Ytcldknmhmbpboaa
