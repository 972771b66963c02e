/- What Reach and Falls answer of any pieces. -/
import Derived.Test.YtcldknmhmbpboaaPcN
namespace Go.Proofs.Ytcldknmhmbpboaa
open Go.RowKit Go.Sort
set_option linter.unusedVariables false
set_option linter.unusedSimpArgs false

/-- how Reach ends -/
def RcP (f : Lf) (y : Int) (e : Ending) : Prop :=
  (f.chk ≠ 0 ∧ e = .returned (.tuple #[.int .i64 0, .int .i64 0, .bool false])) ∨
  (f.chk = 0 ∧ ((∃ i : Nat, i < f.n ∧ (∀ j, j < i → ¬ f.rcP y j) ∧ f.rcP y i ∧ e = .returned (.tuple #[.int .i64 (f.rcX y i), .int .i64 ((i : Int) + 1), .bool true])) ∨ ((∀ j, j < f.n → ¬ f.rcP y j) ∧ e = .returned (.tuple #[.int .i64 0, .int .i64 (f.n : Int), .bool false]))))
set_option maxHeartbeats 4000000 in
set_option maxRecDepth 100000 in
theorem reach_any (A : Option Addr) (c : Nat) (f : Lf) (y : Int) (w : World) (h : Lm w A f) (hn : f.n ≤ 4611686018427387) :
    Calls Try.prog 18 #[.slice A f.n c, .int .i64 y] w fun e w' => RcP f y e ∧ Below w.heap.size w w' := by
  have cC := check_any A c f w h (by omega)
  by_cases hc : f.chk = 0
  · rw [hc] at cC
    have HOK := Lib.hid (Lf.chk_zero hc)
    have HC := Lib.hid hc
    have H := Lib.hid h
    have hn2 := HOK.out.n2
    clear hc h
    go_enter Try.func18, Try.ntmps18
    go_wp2_with (fail)
    refine cC.mono ?_
    rintro e w1 ⟨rfl, hb1⟩
    go_wp2
    go_loopw [15] (fun k W => ∃ i : Nat, i ≤ f.n ∧ Hid (∀ j, j < i → ¬ f.rcP y j) ∧ k = .int .i64 i ∧ Below w.heap.size w W) (fun k _ => f.n - (intOf k).toNat)
    case atStart => exact ⟨0, Nat.zero_le _, Lib.hid fun j hj => absurd hj (Nat.not_lt_zero j), rfl, hb1⟩
    case round =>
      clear hb1 cC
      obtain ⟨i, hi, HS, rfl, hb⟩ := hrel
      by_cases hlt : i < f.n
      · have HL0 := H.out.below hb
        obtain ⟨b, o, rfl, c0, c1, c2⟩ := lm_at HL0 hlt
        have KX := bx_new wr [.int .i64 (f.F i), .int .i64 (f.V i), .int .i64 (f.R i)] 37
        have NX' := below_new wr (.cells #[.int .i64 (f.F i), .int .i64 (f.V i), .int .i64 (f.R i)] 37)
        have HL := Lib.hid (HL0.below NX')
        have NX := below_step hb NX' hb.size
        have w0 : IntKind.i64.wrap ((i : Int) + 1) = (i : Int) + 1 := IntWalk.i64_in _ (by omega)
        clear HL0 hb NX'
        by_cases hv : y ≤ f.V i
        · have d1 : decide (y ≤ f.V i) = true := decide_eq_true hv
          have HR : RcP f y (.returned (.tuple #[.int .i64 (f.F i), .int .i64 ((i : Int) + 1), .bool true])) := .inr ⟨HC.out, .inl ⟨i, hlt, HS.out, .inl hv, by unfold Lf.rcX; rw [if_pos hv]⟩⟩
          have HRR := Lib.hid HR
          clear HR hv KX
          go_wp2
          go_ret3
          exact ⟨HRR.out, NX⟩
        · have d1 : decide (y ≤ f.V i) = false := decide_eq_false hv
          have hlb := HOK.out.toOrd.lst_bd hlt
          have hfb := HOK.out.fb i hlt
          have hrb := HOK.out.rb i hlt
          have hvb := HOK.out.vb i hlt
          have heb := HOK.out.eb i hlt
          have hpb := Lf.prod_bd (d := f.lst i - f.F i) (r := f.R i) (by omega) (by omega) (by omega) (by omega)
          by_cases he : y ≤ f.ln i (f.lst i)
          · have d2 : decide (y ≤ f.ln i (f.lst i)) = true := decide_eq_true he
            have r0 := Lf.rc_rate HOK.out.toOrd hlt hv he
            have HR : RcP f y (.returned (.tuple #[.int .i64 (f.F i + (y - f.V i + f.R i - 1) / f.R i), .int .i64 ((i : Int) + 1), .bool true])) := .inr ⟨HC.out, .inl ⟨i, hlt, HS.out, .inr he, by unfold Lf.rcX; rw [if_neg hv]⟩⟩
            have HRR := Lib.hid HR
            have m1 : IntKind.i64.wrap (y - f.V i) = y - f.V i := IntWalk.i64_in _ (by omega)
            have m2 : IntKind.i64.wrap (y - f.V i + f.R i) = y - f.V i + f.R i := IntWalk.i64_in _ (by omega)
            have m3 : IntKind.i64.wrap (y - f.V i + f.R i - 1) = y - f.V i + f.R i - 1 := IntWalk.i64_in _ (by omega)
            have q0 := Int.ediv_nonneg (a := y - f.V i + f.R i - 1) (b := f.R i) (by omega) (by omega)
            have q1 := Int.ediv_le_self (a := y - f.V i + f.R i - 1) (f.R i) (by omega)
            have tK : Int.tdiv (y - f.V i + f.R i - 1) (f.R i) = (y - f.V i + f.R i - 1) / f.R i := Int.tdiv_eq_ediv_of_nonneg (by omega)
            have m4 : IntKind.i64.wrap ((y - f.V i + f.R i - 1) / f.R i) = (y - f.V i + f.R i - 1) / f.R i := IntWalk.i64_in _ (by omega)
            have m5 : IntKind.i64.wrap (f.F i + (y - f.V i + f.R i - 1) / f.R i) = f.F i + (y - f.V i + f.R i - 1) / f.R i := IntWalk.i64_in _ (by omega)
            have nz : (f.R i == 0) = false := by simp; omega
            have nz2 : ¬ f.R i = 0 := by omega
            have nz3 : ¬ f.R i = -1 := by omega
            obtain ⟨K, hK⟩ : ∃ K, (y - f.V i + f.R i - 1) / f.R i = K := ⟨_, rfl⟩
            rw [hK] at tK m4 m5 HRR
            clear HR he hv q0 q1 hK
            go_wp2
            generalize wr.alloc (.cells #[.int .i64 (f.F i), .int .i64 (f.V i), .int .i64 (f.R i)] 37) = wk at *
            have kx_0 := fun d os => cell_regrown (KX.cell (i := 0) rfl) d os
            have kx_1 := fun d os => cell_regrown (KX.cell (i := 1) rfl) d os
            have kx_2 := fun d os => cell_regrown (KX.cell (i := 2) rfl) d os
            have cL := fun (d : Nat) (os : Array Obj) => Calls.regrown_of (d := d) (os := os) (w := wk) (last_any _ c f i _ (HL.out.below (below_regrown wk d os)) hlt (by omega) HOK.out.fb)
            have cA := fun (d : Nat) (os : Array Obj) => Calls.regrown_of (d := d) (os := os) (w := wk) (lat_any (f.F i) (f.V i) (f.R i) (f.lst i) _ (by omega) (by omega) (by omega))
            rw [show f.V i + (f.lst i - f.F i) * f.R i = f.ln i (f.lst i) from rfl] at cA
            clear hlb hfb hrb hvb heb hpb r0
            refine wp_region_quiet_below mixedP (by kernel_rfl) ?_
            iterate 3 (go_big_quiet_step (fail))
            go_big_quiet_step (exact cL _ _)
            go_big_quiet_step (exact cA _ _)
            repeat (go_big_quiet_step (fail))
            refine wpQuiet_nil ?_
            intro _ hw'
            obtain ⟨⟨dq, osq⟩, hw''⟩ := hw'
            subst hw''
            have BX := below_regrown wk dq osq
            have KZ := KX.below BX
            have BZ := below_step NX BX NX.size
            clear kx_0 kx_1 kx_2 KX NX
            generalize grow (redrawn wk dq) osq = WZ at *
            have z_0 := KZ.cell (i := 0) rfl
            have z_1 := KZ.cell (i := 1) rfl
            have z_2 := KZ.cell (i := 2) rfl
            clear KZ cL cA BX
            go_wp2
            go_quiet (fail)
            rename_i nq _ _
            have B9 := below_drewN BZ nq
            clear BZ z_0 z_1 z_2
            go_wp2
            go_ret3
            exact ⟨HRR.out, B9⟩
          · have d2 : decide (y ≤ f.ln i (f.lst i)) = false := decide_eq_false he
            have HN : ∀ j, j < i + 1 → ¬ f.rcP y j := fun j hj => by
              by_cases e : j = i
              · subst e; rintro (h | h)
                · exact hv h
                · exact he h
              · exact HS.out j (by omega)
            have HNN := Lib.hid HN
            clear HN he hv
            go_wp2
            generalize wr.alloc (.cells #[.int .i64 (f.F i), .int .i64 (f.V i), .int .i64 (f.R i)] 37) = wk at *
            have kx_0 := fun d os => cell_regrown (KX.cell (i := 0) rfl) d os
            have kx_1 := fun d os => cell_regrown (KX.cell (i := 1) rfl) d os
            have kx_2 := fun d os => cell_regrown (KX.cell (i := 2) rfl) d os
            have cL := fun (d : Nat) (os : Array Obj) => Calls.regrown_of (d := d) (os := os) (w := wk) (last_any _ c f i _ (HL.out.below (below_regrown wk d os)) hlt (by omega) HOK.out.fb)
            have cA := fun (d : Nat) (os : Array Obj) => Calls.regrown_of (d := d) (os := os) (w := wk) (lat_any (f.F i) (f.V i) (f.R i) (f.lst i) _ (by omega) (by omega) (by omega))
            rw [show f.V i + (f.lst i - f.F i) * f.R i = f.ln i (f.lst i) from rfl] at cA
            clear hlb hfb hrb hvb heb hpb
            refine wp_region_quiet_below mixedP (by kernel_rfl) ?_
            iterate 3 (go_big_quiet_step (fail))
            go_big_quiet_step (exact cL _ _)
            go_big_quiet_step (exact cA _ _)
            repeat (go_big_quiet_step (fail))
            refine wpQuiet_nil ?_
            intro _ hw'
            obtain ⟨⟨dq, osq⟩, hw''⟩ := hw'
            subst hw''
            have BX := below_regrown wk dq osq
            have KZ := KX.below BX
            have BZ := below_step NX BX NX.size
            clear kx_0 kx_1 kx_2 KX NX
            generalize grow (redrawn wk dq) osq = WZ at *
            clear KZ cL cA BX
            go_wp2
            go_round
            case rel => exact ⟨i + 1, Nat.succ_le_of_lt hlt, HNN, by go_num, BZ⟩
            case measure => exact meas_step hlt
      · obtain rfl : i = f.n := by omega
        have HR : RcP f y (.returned (.tuple #[.int .i64 0, .int .i64 (f.n : Int), .bool false])) := .inr ⟨HC.out, .inr ⟨HS.out, rfl⟩⟩
        have HRR := Lib.hid HR
        clear HR
        go_wp2
        go_ret3
        exact ⟨HRR.out, hb⟩
  · have HR : RcP f y (.returned (.tuple #[.int .i64 0, .int .i64 0, .bool false])) := .inl ⟨hc, rfl⟩
    have HRR := Lib.hid HR
    have b1 : (f.chk != 0) = true := by simp; exact hc
    clear hc HR
    generalize hq : f.chk = q at *
    clear hq
    go_enter Try.func18, Try.ntmps18
    go_wp2_with (fail)
    refine cC.mono ?_
    rintro e w1 ⟨rfl, hb1⟩
    go_wp2
    go_ret3
    exact ⟨HRR.out, hb1⟩
/-- Falls' answer -/
def flB (f : Lf) : Bool := if f.chk = 0 then f.falB f.n else false
set_option maxHeartbeats 4000000 in
set_option maxRecDepth 100000 in
theorem falls_any (A : Option Addr) (c : Nat) (f : Lf) (w : World) (h : Lm w A f) (hn : f.n ≤ 4611686018427387) :
    Calls Try.prog 19 #[.slice A f.n c] w fun e w' => e = .returned (.bool (flB f)) ∧ Below w.heap.size w w' := by
  have cC := check_any A c f w h (by omega)
  by_cases hc : f.chk = 0
  · rw [hc] at cC
    have HOK := Lib.hid (Lf.chk_zero hc)
    have HFL := Lib.hid (show flB f = f.falB f.n from if_pos hc)
    have H := Lib.hid h
    have hn2 := HOK.out.n2
    clear hc h
    go_enter Try.func19, Try.ntmps19
    go_wp2_with (fail)
    refine cC.mono ?_
    rintro e w1 ⟨rfl, hb1⟩
    go_wp2
    go_loopw [10] (fun k W => ∃ i : Nat, i ≤ f.n ∧ Hid (f.falB i = false) ∧ k = .int .i64 i ∧ Below w.heap.size w W) (fun k _ => f.n - (intOf k).toNat)
    case atStart => exact ⟨0, Nat.zero_le _, Lib.hid rfl, rfl, hb1⟩
    case round =>
      clear hb1 cC
      obtain ⟨i, hi, HS, rfl, hb⟩ := hrel
      by_cases hlt : i < f.n
      · have HL0 := H.out.below hb
        obtain ⟨b, o, rfl, c0, c1, c2⟩ := lm_at HL0 hlt
        have KX := bx_new wr [.int .i64 (f.F i), .int .i64 (f.V i), .int .i64 (f.R i)] 37
        have NX' := below_new wr (.cells #[.int .i64 (f.F i), .int .i64 (f.V i), .int .i64 (f.R i)] 37)
        have HL := Lib.hid (HL0.below NX')
        have NX := below_step hb NX' hb.size
        clear HL0 hb NX'
        by_cases hr : f.R i < 0 ∧ f.F i < f.lst i
        · have d1 : decide (f.R i < 0) = true := decide_eq_true hr.1
          have d2 : decide (f.F i < f.lst i) = true := decide_eq_true hr.2
          have HS2 := Lib.hid (HFL.out.trans (Lf.fal_stop hlt (.inl hr)))
          clear hr
          go_wp2
          generalize wr.alloc (.cells #[.int .i64 (f.F i), .int .i64 (f.V i), .int .i64 (f.R i)] 37) = wk at *
          have kx_0 := fun d os => cell_regrown (KX.cell (i := 0) rfl) d os
          have kx_1 := fun d os => cell_regrown (KX.cell (i := 1) rfl) d os
          have kx_2 := fun d os => cell_regrown (KX.cell (i := 2) rfl) d os
          have cL := fun (d : Nat) (os : Array Obj) => Calls.regrown_of (d := d) (os := os) (w := wk) (last_any _ c f i _ (HL.out.below (below_regrown wk d os)) hlt (by omega) HOK.out.fb)
          refine wp_region_quiet_below mixedP (by kernel_rfl) ?_
          iterate 8 (go_big_quiet_step (fail))
          go_big_quiet_step (exact cL _ _)
          repeat (go_big_quiet_step (fail))
          refine wpQuiet_nil ?_
          intro _ hw'
          obtain ⟨⟨dq, osq⟩, hw''⟩ := hw'
          subst hw''
          have BX := below_regrown wk dq osq
          have KZ := KX.below BX
          have BZ := below_step NX BX NX.size
          clear kx_0 kx_1 kx_2 KX NX
          generalize grow (redrawn wk dq) osq = WZ at *
          clear KZ cL BX
          go_wp2
          go_ret
          exact ⟨ret_b HS2.out.symm, BZ⟩
        · by_cases hr0 : f.R i < 0
          · have d1 : decide (f.R i < 0) = true := decide_eq_true hr0
            have d2 : decide (f.F i < f.lst i) = false := by simp; have := hr; omega
            have HR := Lib.hid hr
            clear hr hr0
            go_wp2
            generalize wr.alloc (.cells #[.int .i64 (f.F i), .int .i64 (f.V i), .int .i64 (f.R i)] 37) = wk at *
            have kx_0 := fun d os => cell_regrown (KX.cell (i := 0) rfl) d os
            have kx_1 := fun d os => cell_regrown (KX.cell (i := 1) rfl) d os
            have kx_2 := fun d os => cell_regrown (KX.cell (i := 2) rfl) d os
            have cL := fun (d : Nat) (os : Array Obj) => Calls.regrown_of (d := d) (os := os) (w := wk) (last_any _ c f i _ (HL.out.below (below_regrown wk d os)) hlt (by omega) HOK.out.fb)
            refine wp_region_quiet_below mixedP (by kernel_rfl) ?_
            iterate 8 (go_big_quiet_step (fail))
            go_big_quiet_step (exact cL _ _)
            repeat (go_big_quiet_step (fail))
            refine wpQuiet_nil ?_
            intro _ hw'
            obtain ⟨⟨dq, osq⟩, hw''⟩ := hw'
            subst hw''
            have BX := below_regrown wk dq osq
            have KZ := KX.below BX
            have BZ := below_step NX BX NX.size
            clear kx_0 kx_1 kx_2 KX NX
            generalize grow (redrawn wk dq) osq = WZ at *
            clear cL
            rcases Nat.eq_zero_or_pos i with hi0 | hi0
            · have g0 : decide (0 < (i : Int)) = false := by simp; omega
              have g1 : decide (0 < i) = false := by simp; omega
              have HNX := Lib.hid (Lf.fal_succ HS.out (fun h => h.elim HR.out fun h => by omega))
              clear hi0
              have qz_0 := fun d os => cell_regrown (KZ.cell (i := 0) rfl) d os
              have qz_1 := fun d os => cell_regrown (KZ.cell (i := 1) rfl) d os
              go_wp2
              refine wp_region_quiet_below mixedP (by kernel_rfl) ?_
              repeat (go_big_quiet_step (fail))
              refine wpQuiet_nil ?_
              intro _ hw'
              obtain ⟨⟨dr, osr⟩, hw''⟩ := hw'
              subst hw''
              have BY := below_step BZ (below_regrown WZ dr osr) BZ.size
              clear qz_0 qz_1 KZ BZ
              generalize grow (redrawn WZ dr) osr = WY at *
              go_wp2
              go_round
              case rel => exact ⟨i + 1, Nat.succ_le_of_lt hlt, HNX, by go_num, BY⟩
              case measure => exact meas_step hlt
            · have g0 : decide (0 < (i : Int)) = true := by simp; omega
              have g1 : decide (0 < i) = true := by simp; omega
              have e1 : ((i : Int) - 1).toNat = i - 1 := by omega
              have w1' : IntKind.i64.wrap ((i : Int) - 1) = (i : Int) - 1 := IntWalk.i64_in _ (by omega)
              have i0 : 0 ≤ (i : Int) - 1 := by omega
              have i1 : (i : Int) - 1 < (f.n : Int) := by omega
              have hlp : i - 1 < f.n := by omega
              have hf1 := HOK.out.fb i hlt
              have hf2 := HOK.out.fb (i - 1) hlp
              have hr2 := HOK.out.rb (i - 1) hlp
              have hv2 := HOK.out.vb (i - 1) hlp
              have w2' : IntKind.i64.wrap (f.F i - 1) = f.F i - 1 := IntWalk.i64_in _ (by omega)
              have hpb := Lf.prod_bd (d := f.F i - 1 - f.F (i - 1)) (r := f.R (i - 1)) (by have := HOK.out.toOrd.mono (i := i - 1) (j := i) (by omega) hlt; omega) (by omega) (by omega) (by omega)
              obtain ⟨bb, oo, hbb, p0, p1, p2⟩ := lm_at (HL.out.below BX) hlp
              obtain ⟨rfl, rfl⟩ : b = bb ∧ o = oo := by simpa using hbb
              have P0 := fun d os => cell_regrown p0 d os
              have P1 := fun d os => cell_regrown p1 d os
              have P2 := fun d os => cell_regrown p2 d os
              have cA := fun (d : Nat) (os : Array Obj) => Calls.regrown_of (d := d) (os := os) (w := WZ) (lat_any (f.F (i - 1)) (f.V (i - 1)) (f.R (i - 1)) (f.F i - 1) _ (by omega) (by omega) (by omega))
              rw [show f.V (i - 1) + (f.F i - 1 - f.F (i - 1)) * f.R (i - 1) = f.ln (i - 1) (f.F i - 1) from rfl] at cA
              clear hf1 hf2 hr2 hv2 hpb p0 p1 p2
              by_cases hfl : f.V i < f.ln (i - 1) (f.F i - 1)
              · have d3 : decide (f.V i < f.ln (i - 1) (f.F i - 1)) = true := decide_eq_true hfl
                have HS2 := Lib.hid (HFL.out.trans (Lf.fal_stop hlt (.inr ⟨hi0, hfl⟩)))
                clear hfl hi0
                have qz_0 := fun d os => cell_regrown (KZ.cell (i := 0) rfl) d os
                have qz_1 := fun d os => cell_regrown (KZ.cell (i := 1) rfl) d os
                go_wp2
                refine wp_region_quiet_below mixedP (by kernel_rfl) ?_
                iterate 13 (go_big_quiet_step (fail))
                go_big_quiet_step (exact cA _ _)
                repeat (go_big_quiet_step (fail))
                refine wpQuiet_nil ?_
                intro _ hw'
                obtain ⟨⟨dr, osr⟩, hw''⟩ := hw'
                subst hw''
                have BY := below_step BZ (below_regrown WZ dr osr) BZ.size
                clear qz_0 qz_1 KZ BZ
                generalize grow (redrawn WZ dr) osr = WY at *
                clear cA P0 P1 P2
                go_wp2
                go_ret
                exact ⟨ret_b HS2.out.symm, BY⟩
              · have d3 : decide (f.V i < f.ln (i - 1) (f.F i - 1)) = false := decide_eq_false hfl
                have HNX := Lib.hid (Lf.fal_succ HS.out (fun h => h.elim HR.out fun h => hfl h.2))
                clear hfl hi0
                have qz_0 := fun d os => cell_regrown (KZ.cell (i := 0) rfl) d os
                have qz_1 := fun d os => cell_regrown (KZ.cell (i := 1) rfl) d os
                go_wp2
                refine wp_region_quiet_below mixedP (by kernel_rfl) ?_
                iterate 13 (go_big_quiet_step (fail))
                go_big_quiet_step (exact cA _ _)
                repeat (go_big_quiet_step (fail))
                refine wpQuiet_nil ?_
                intro _ hw'
                obtain ⟨⟨dr, osr⟩, hw''⟩ := hw'
                subst hw''
                have BY := below_step BZ (below_regrown WZ dr osr) BZ.size
                clear qz_0 qz_1 KZ BZ
                generalize grow (redrawn WZ dr) osr = WY at *
                clear cA P0 P1 P2
                go_wp2
                go_round
                case rel => exact ⟨i + 1, Nat.succ_le_of_lt hlt, HNX, by go_num, BY⟩
                case measure => exact meas_step hlt
          · have d1 : decide (f.R i < 0) = false := decide_eq_false hr0
            have HR := Lib.hid hr
            clear hr hr0
            go_wp2
            generalize wr.alloc (.cells #[.int .i64 (f.F i), .int .i64 (f.V i), .int .i64 (f.R i)] 37) = wk at *
            have kx_0 := fun d os => cell_regrown (KX.cell (i := 0) rfl) d os
            have kx_1 := fun d os => cell_regrown (KX.cell (i := 1) rfl) d os
            have kx_2 := fun d os => cell_regrown (KX.cell (i := 2) rfl) d os
            refine wp_region_quiet_below mixedP (by kernel_rfl) ?_
            repeat (go_big_quiet_step (fail))
            refine wpQuiet_nil ?_
            intro _ hw'
            obtain ⟨⟨dq, osq⟩, hw''⟩ := hw'
            subst hw''
            have BX := below_regrown wk dq osq
            have KZ := KX.below BX
            have BZ := below_step NX BX NX.size
            clear kx_0 kx_1 kx_2 KX NX
            generalize grow (redrawn wk dq) osq = WZ at *
            rcases Nat.eq_zero_or_pos i with hi0 | hi0
            · have g0 : decide (0 < (i : Int)) = false := by simp; omega
              have g1 : decide (0 < i) = false := by simp; omega
              have HNX := Lib.hid (Lf.fal_succ HS.out (fun h => h.elim HR.out fun h => by omega))
              clear hi0
              have qz_0 := fun d os => cell_regrown (KZ.cell (i := 0) rfl) d os
              have qz_1 := fun d os => cell_regrown (KZ.cell (i := 1) rfl) d os
              go_wp2
              refine wp_region_quiet_below mixedP (by kernel_rfl) ?_
              repeat (go_big_quiet_step (fail))
              refine wpQuiet_nil ?_
              intro _ hw'
              obtain ⟨⟨dr, osr⟩, hw''⟩ := hw'
              subst hw''
              have BY := below_step BZ (below_regrown WZ dr osr) BZ.size
              clear qz_0 qz_1 KZ BZ
              generalize grow (redrawn WZ dr) osr = WY at *
              go_wp2
              go_round
              case rel => exact ⟨i + 1, Nat.succ_le_of_lt hlt, HNX, by go_num, BY⟩
              case measure => exact meas_step hlt
            · have g0 : decide (0 < (i : Int)) = true := by simp; omega
              have g1 : decide (0 < i) = true := by simp; omega
              have e1 : ((i : Int) - 1).toNat = i - 1 := by omega
              have w1' : IntKind.i64.wrap ((i : Int) - 1) = (i : Int) - 1 := IntWalk.i64_in _ (by omega)
              have i0 : 0 ≤ (i : Int) - 1 := by omega
              have i1 : (i : Int) - 1 < (f.n : Int) := by omega
              have hlp : i - 1 < f.n := by omega
              have hf1 := HOK.out.fb i hlt
              have hf2 := HOK.out.fb (i - 1) hlp
              have hr2 := HOK.out.rb (i - 1) hlp
              have hv2 := HOK.out.vb (i - 1) hlp
              have w2' : IntKind.i64.wrap (f.F i - 1) = f.F i - 1 := IntWalk.i64_in _ (by omega)
              have hpb := Lf.prod_bd (d := f.F i - 1 - f.F (i - 1)) (r := f.R (i - 1)) (by have := HOK.out.toOrd.mono (i := i - 1) (j := i) (by omega) hlt; omega) (by omega) (by omega) (by omega)
              obtain ⟨bb, oo, hbb, p0, p1, p2⟩ := lm_at (HL.out.below BX) hlp
              obtain ⟨rfl, rfl⟩ : b = bb ∧ o = oo := by simpa using hbb
              have P0 := fun d os => cell_regrown p0 d os
              have P1 := fun d os => cell_regrown p1 d os
              have P2 := fun d os => cell_regrown p2 d os
              have cA := fun (d : Nat) (os : Array Obj) => Calls.regrown_of (d := d) (os := os) (w := WZ) (lat_any (f.F (i - 1)) (f.V (i - 1)) (f.R (i - 1)) (f.F i - 1) _ (by omega) (by omega) (by omega))
              rw [show f.V (i - 1) + (f.F i - 1 - f.F (i - 1)) * f.R (i - 1) = f.ln (i - 1) (f.F i - 1) from rfl] at cA
              clear hf1 hf2 hr2 hv2 hpb p0 p1 p2
              by_cases hfl : f.V i < f.ln (i - 1) (f.F i - 1)
              · have d3 : decide (f.V i < f.ln (i - 1) (f.F i - 1)) = true := decide_eq_true hfl
                have HS2 := Lib.hid (HFL.out.trans (Lf.fal_stop hlt (.inr ⟨hi0, hfl⟩)))
                clear hfl hi0
                have qz_0 := fun d os => cell_regrown (KZ.cell (i := 0) rfl) d os
                have qz_1 := fun d os => cell_regrown (KZ.cell (i := 1) rfl) d os
                go_wp2
                refine wp_region_quiet_below mixedP (by kernel_rfl) ?_
                iterate 13 (go_big_quiet_step (fail))
                go_big_quiet_step (exact cA _ _)
                repeat (go_big_quiet_step (fail))
                refine wpQuiet_nil ?_
                intro _ hw'
                obtain ⟨⟨dr, osr⟩, hw''⟩ := hw'
                subst hw''
                have BY := below_step BZ (below_regrown WZ dr osr) BZ.size
                clear qz_0 qz_1 KZ BZ
                generalize grow (redrawn WZ dr) osr = WY at *
                clear cA P0 P1 P2
                go_wp2
                go_ret
                exact ⟨ret_b HS2.out.symm, BY⟩
              · have d3 : decide (f.V i < f.ln (i - 1) (f.F i - 1)) = false := decide_eq_false hfl
                have HNX := Lib.hid (Lf.fal_succ HS.out (fun h => h.elim HR.out fun h => hfl h.2))
                clear hfl hi0
                have qz_0 := fun d os => cell_regrown (KZ.cell (i := 0) rfl) d os
                have qz_1 := fun d os => cell_regrown (KZ.cell (i := 1) rfl) d os
                go_wp2
                refine wp_region_quiet_below mixedP (by kernel_rfl) ?_
                iterate 13 (go_big_quiet_step (fail))
                go_big_quiet_step (exact cA _ _)
                repeat (go_big_quiet_step (fail))
                refine wpQuiet_nil ?_
                intro _ hw'
                obtain ⟨⟨dr, osr⟩, hw''⟩ := hw'
                subst hw''
                have BY := below_step BZ (below_regrown WZ dr osr) BZ.size
                clear qz_0 qz_1 KZ BZ
                generalize grow (redrawn WZ dr) osr = WY at *
                clear cA P0 P1 P2
                go_wp2
                go_round
                case rel => exact ⟨i + 1, Nat.succ_le_of_lt hlt, HNX, by go_num, BY⟩
                case measure => exact meas_step hlt
      · obtain rfl : i = f.n := by omega
        have HS2 := Lib.hid (HFL.out.trans HS.out)
        clear HS
        go_wp2
        go_ret
        exact ⟨ret_b HS2.out.symm, hb⟩
  · have hF : flB f = false := if_neg hc
    rw [hF]
    have b1 : (f.chk != 0) = true := by simp; exact hc
    clear hc hF
    generalize hq : f.chk = q at *
    clear hq
    go_enter Try.func19, Try.ntmps19
    go_wp2_with (fail)
    refine cC.mono ?_
    rintro e w1 ⟨rfl, hb1⟩
    go_wp2
    go_ret
    exact ⟨rfl, hb1⟩
end Go.Proofs.Ytcldknmhmbpboaa
