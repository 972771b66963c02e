/- What the laws' own Check of pieces answers. -/
import Derived.Test.YtcldknmhmbpboaaPcE
namespace Go.Proofs.Ytcldknmhmbpboaa
open Go.RowKit Go.Sort
set_option linter.unusedVariables false
set_option linter.unusedSimpArgs false

set_option maxHeartbeats 4000000 in
set_option maxRecDepth 100000 in
theorem wrong_any (A : Option Addr) (c : Nat) (f : Lf) (w : World) (h : Lm w A f) (hn : f.n ≤ 4611686018427387904) :
    Calls Try.prog 10 #[.slice A f.n c] w fun e w' => e = .returned (.int .i64 f.chk) ∧ Below w.heap.size w w' := by
  have hself := Below.refl w.heap.size w
  by_cases h1 : f.n < 1 ∨ 256 < f.n
  · have HE := Lib.hid (Lf.chk_size h1)
    rcases (show f.n < 1 ∨ (¬ f.n < 1 ∧ 256 < f.n) by omega) with h2 | ⟨h0, h2⟩
    · have b1 : decide ((f.n : Int) < 1) = true := by simp; omega
      go_enter Try.func10, Try.ntmps10
      clear h1 h2
      go_wp2
      go_ret
      exact ⟨ret_i HE.out.symm, hself⟩
    · have b1 : decide ((f.n : Int) < 1) = false := by simp; omega
      have b2 : decide (256 < (f.n : Int)) = true := by simp; omega
      go_enter Try.func10, Try.ntmps10
      clear h1 h2
      go_wp2
      go_ret
      exact ⟨ret_i HE.out.symm, hself⟩
  · have H1 := Lib.hid h1
    have H := Lib.hid h
    have b1 : decide ((f.n : Int) < 1) = false := by simp; omega
    have b2 : decide (256 < (f.n : Int)) = false := by simp; omega
    have hn2 : f.n ≤ 256 := by omega
    clear h1 h
    go_enter Try.func10, Try.ntmps10
    go_wp2
    go_loopw [20] (fun k W => ∃ i : Nat, i ≤ f.n ∧ Lf.fst f.stP i = 0 ∧ k = .int .i64 i ∧ Below w.heap.size w W) (fun k _ => f.n - (intOf k).toNat)
    case atStart => exact ⟨0, Nat.zero_le _, rfl, rfl, hself⟩
    case round =>
      obtain ⟨i, hi, hs, rfl, hb⟩ := hrel
      by_cases hlt : i < f.n
      · obtain ⟨b, o, rfl, hc⟩ := H.out (by omega)
        obtain ⟨c0, c1, c2⟩ := hc i hlt
        replace c0 := cell_later hb c0
        replace c1 := cell_later hb c1
        replace c2 := cell_later hb c2
        by_cases hw : f.F i < 0 ∨ 10000000000 < f.F i
        · have HS := Lib.hid (Lf.chk_P H1.out hlt hs (Lf.P_range hw) (by decide))
          have B3 := hb.alloc hb.size (.cells #[.int .i64 (f.F i), .int .i64 (f.V i), .int .i64 (f.R i)] 37)
          clear hc hs hb
          rcases (show f.F i < 0 ∨ (¬ f.F i < 0 ∧ 10000000000 < f.F i) by omega) with h2 | ⟨h2, h3⟩
          · have d1 : decide (f.F i < 0) = true := decide_eq_true h2
            go_wp2
            go_ret
            exact ⟨ret_i HS.out.symm, B3⟩
          · have d1 : decide (f.F i < 0) = false := decide_eq_false h2
            have d2 : decide (10000000000 < f.F i) = true := decide_eq_true h3
            go_wp2
            go_ret
            exact ⟨ret_i HS.out.symm, B3⟩
        · have hr : ¬ (f.F i < 0 ∨ 10000000000 < f.F i) := hw
          have d1 : decide (f.F i < 0) = false := by simp; omega
          have d2 : decide (10000000000 < f.F i) = false := by simp; omega
          by_cases hz : i = 0 ∧ f.F i ≠ 0
          · have HS := Lib.hid (Lf.chk_P H1.out hlt hs (Lf.P_first hr hz) (by decide))
            have t1 : ((i : Int) == 0) = true := by simp; omega
            have t2 : (f.F i != 0) = true := by simp; exact hz.2
            have B3 := hb.alloc hb.size (.cells #[.int .i64 (f.F i), .int .i64 (f.V i), .int .i64 (f.R i)] 37)
            clear hc hs hz hr hw hb
            go_wp2
            go_ret
            exact ⟨ret_i HS.out.symm, B3⟩
          · by_cases h6 : 0 < i ∧ f.F i ≤ f.F (i - 1)
            · have HS := Lib.hid (Lf.chk_P H1.out hlt hs (Lf.P_order hr hz h6) (by decide))
              have t1 : ((i : Int) == 0) = false := by simp; omega
              have p0 := cell_later hb (hc (i - 1) (by omega)).1
              obtain ⟨h6a, h6b⟩ := h6
              have e1 : ((i : Int) - 1).toNat = i - 1 := by omega
              have w1 : IntKind.i64.wrap ((i : Int) - 1) = (i : Int) - 1 := IntWalk.i64_in _ (by omega)
              have i0 : 0 ≤ (i : Int) - 1 := by omega
              have i1 : (i : Int) - 1 < (f.n : Int) := by omega
              have g0 : decide (0 < (i : Int)) = true := by simp; omega
              have g1 : decide (0 < i) = true := by simp; omega
              have B3 := hb.alloc hb.size (.cells #[.int .i64 (f.F i), .int .i64 (f.V i), .int .i64 (f.R i)] 37)
              have p1 := ca_later (.cells #[.int .i64 (f.F i), .int .i64 (f.V i), .int .i64 (f.R i)] 37) p0
              clear hc hs hz hr hw hb
              go_wp2
              go_quiet (fail)
              go_wp2
              go_ret
              exact ⟨ret_i HS.out.symm, below_drewN B3 _⟩
            · have p0 : 0 < i → wr.cell? ⟨b, o + (i - 1) * 3, none⟩ = some (.int .i64 (f.F (i - 1))) := fun _ => cell_later hb (hc (i - 1) (by omega)).1
              by_cases h50 : f.R i < -40000 ∨ 40000 < f.R i
              · have HS := Lib.hid (Lf.chk_P H1.out hlt hs (Lf.P_rate hr hz h6 h50) (by decide))
                clear hc hs hw
                rcases Nat.eq_zero_or_pos i with hi0 | hi0
                · have t1 : ((i : Int) == 0) = true := by simp; omega
                  have t2 : (f.F i != 0) = false := by simp; exact Classical.byContradiction fun e => hz ⟨hi0, e⟩
                  have g0 : decide (0 < (i : Int)) = false := by simp; omega
                  have g1 : decide (0 < i) = false := by simp; omega
                  have B3 := hb.alloc hb.size (.cells #[.int .i64 (f.F i), .int .i64 (f.V i), .int .i64 (f.R i)] 37)
                  clear hz h6 hr p0 hi0 hb
                  go_wp2
                  go_quiet (fail)
                  rename_i nq _ _
                  have B4 := below_drewN B3 nq
                  rcases h50 with h50 | h50
                  · have r0 : decide (40000 < f.R i) = false := by simp; omega
                    have r1 : decide (f.R i < -40000) = true := by simp; omega
                    go_wp2
                    go_ret
                    exact ⟨ret_i HS.out.symm, B4⟩
                  · have r2 : decide (40000 < f.R i) = true := by simp; omega
                    go_wp2
                    go_ret
                    exact ⟨ret_i HS.out.symm, B4⟩
                · have t1 : ((i : Int) == 0) = false := by simp; omega
                  replace p0 := p0 hi0
                  have e1 : ((i : Int) - 1).toNat = i - 1 := by omega
                  have w1 : IntKind.i64.wrap ((i : Int) - 1) = (i : Int) - 1 := IntWalk.i64_in _ (by omega)
                  have i0 : 0 ≤ (i : Int) - 1 := by omega
                  have i1 : (i : Int) - 1 < (f.n : Int) := by omega
                  have g0 : decide (0 < (i : Int)) = true := by simp; omega
                  have g1 : decide (0 < i) = true := by simp; omega
                  have g2 : decide (f.F i ≤ f.F (i - 1)) = false := by simp; have := h6; omega
                  have B3 := hb.alloc hb.size (.cells #[.int .i64 (f.F i), .int .i64 (f.V i), .int .i64 (f.R i)] 37)
                  have p1 := ca_later (.cells #[.int .i64 (f.F i), .int .i64 (f.V i), .int .i64 (f.R i)] 37) p0
                  clear hz h6 hr hb
                  go_wp2
                  go_quiet (fail)
                  rename_i nq _ _
                  have B4 := below_drewN B3 nq
                  rcases h50 with h50 | h50
                  · have r0 : decide (40000 < f.R i) = false := by simp; omega
                    have r1 : decide (f.R i < -40000) = true := by simp; omega
                    go_wp2
                    go_ret
                    exact ⟨ret_i HS.out.symm, B4⟩
                  · have r2 : decide (40000 < f.R i) = true := by simp; omega
                    go_wp2
                    go_ret
                    exact ⟨ret_i HS.out.symm, B4⟩
              · have HS := Lib.hid (Lf.fst_succ hs (Lf.P_ok hr hz h6 h50))
                have r1 : decide (f.R i < -40000) = false := by simp; omega
                have r2 : decide (40000 < f.R i) = false := by simp; omega
                clear hc hs h50 hw
                rcases Nat.eq_zero_or_pos i with hi0 | hi0
                · have t1 : ((i : Int) == 0) = true := by simp; omega
                  have t2 : (f.F i != 0) = false := by simp; exact Classical.byContradiction fun e => hz ⟨hi0, e⟩
                  have g0 : decide (0 < (i : Int)) = false := by simp; omega
                  have g1 : decide (0 < i) = false := by simp; omega
                  have B3 := hb.alloc hb.size (.cells #[.int .i64 (f.F i), .int .i64 (f.V i), .int .i64 (f.R i)] 37)
                  clear hz h6 hr p0 hi0 hb
                  go_wp2
                  go_quiet (fail)
                  rename_i nq _ _
                  have B4 := below_drewN B3 nq
                  go_wp2
                  go_round
                  case rel => exact ⟨i + 1, Nat.succ_le_of_lt hlt, HS.out, by go_num, B4⟩
                  case measure => exact meas_step hlt
                · have t1 : ((i : Int) == 0) = false := by simp; omega
                  replace p0 := p0 hi0
                  have e1 : ((i : Int) - 1).toNat = i - 1 := by omega
                  have w1 : IntKind.i64.wrap ((i : Int) - 1) = (i : Int) - 1 := IntWalk.i64_in _ (by omega)
                  have i0 : 0 ≤ (i : Int) - 1 := by omega
                  have i1 : (i : Int) - 1 < (f.n : Int) := by omega
                  have g0 : decide (0 < (i : Int)) = true := by simp; omega
                  have g1 : decide (0 < i) = true := by simp; omega
                  have g2 : decide (f.F i ≤ f.F (i - 1)) = false := by simp; have := h6; omega
                  have B3 := hb.alloc hb.size (.cells #[.int .i64 (f.F i), .int .i64 (f.V i), .int .i64 (f.R i)] 37)
                  have p1 := ca_later (.cells #[.int .i64 (f.F i), .int .i64 (f.V i), .int .i64 (f.R i)] 37) p0
                  clear hz h6 hr hb
                  go_wp2
                  go_quiet (fail)
                  rename_i nq _ _
                  have B4 := below_drewN B3 nq
                  go_wp2
                  go_round
                  case rel => exact ⟨i + 1, Nat.succ_le_of_lt hlt, HS.out, by go_num, B4⟩
                  case measure => exact meas_step hlt
      · obtain rfl : i = f.n := by omega
        have HP := Lib.hid hs
        clear hs
        go_wp2
        go_loopw [66] (fun k W => ∃ i : Nat, i ≤ f.n ∧ Lf.fst f.stQ i = 0 ∧ k = .int .i64 i ∧ Below w.heap.size w W) (fun k _ => f.n - (intOf k).toNat)
        case atStart => exact ⟨0, Nat.zero_le _, rfl, rfl, hb⟩
        case round =>
          clear hb hlt hi
          obtain ⟨i, hi, hs, rfl, hb⟩ := hrel
          by_cases hlt : i < f.n
          · obtain ⟨b, o, hA, hc⟩ := H.out (by omega)
            subst hA
            obtain ⟨c0, c1, c2⟩ := hc i hlt
            replace c0 := cell_later hb c0
            replace c1 := cell_later hb c1
            replace c2 := cell_later hb c2
            have hP := fun j hj => Lf.stP_zero (Lf.fst_zero HP.out j hj)
            have hFb := fun j hj => (hP j hj).1
            have hFi := hFb i hlt
            have hlb : f.F i ≤ f.lst i ∧ f.lst i ≤ 10000000000 := by
              have h1 := hFb i hlt
              by_cases e : i + 1 < f.n
              · have h2 := hFb (i + 1) e
                have h3 := (hP (i + 1) e).2.2.1 (by omega)
                rw [Lf.lst_in e]; simp only [Nat.add_sub_cancel] at h3; omega
              · rw [Lf.lst_out e]; omega
            have hpb := Lf.prod_bd (d := f.lst i - f.F i) (r := f.R i) (by have := hFb i hlt; omega) (by have := hFb i hlt; omega) (by have := (hP i hlt).2.2.2; omega) (by have := (hP i hlt).2.2.2; omega)
            have hQI : f.ln i (f.lst i) = f.V i + (f.lst i - f.F i) * f.R i := rfl
            have B3 := hb.alloc hb.size (.cells #[.int .i64 (f.F i), .int .i64 (f.V i), .int .i64 (f.R i)] 37)
            have w1 : IntKind.i64.wrap ((i : Int) + 1) = (i : Int) + 1 := IntWalk.i64_in _ (by omega)
            have w2 : IntKind.i64.wrap (f.lst i - f.F i) = f.lst i - f.F i := IntWalk.i64_in _ (by omega)
            have w3 : IntKind.i64.wrap ((f.lst i - f.F i) * f.R i) = (f.lst i - f.F i) * f.R i := IntWalk.i64_in _ (by omega)
            have HC := Lib.hid hc
            clear hP hFb hc
            by_cases e : i + 1 < f.n
            · have t1 : decide ((i : Int) + 1 < (f.n : Int)) = true := by simp; omega
              have e1 : ((i : Int) + 1).toNat = i + 1 := by omega
              have n0 := cell_later B3 (HC.out (i + 1) e).1
              have n1 := Lf.lst_in e
              have HSL := Lib.hid hs
              clear hs
              rw [n1] at w2 w3 hpb hQI hlb
              have w4 : IntKind.i64.wrap (f.F (i + 1) - 1) = f.F (i + 1) - 1 := IntWalk.i64_in _ (by omega)
              have HQI : Hid (f.ln i (f.lst i) = f.V i + (f.F (i + 1) - 1 - f.F i) * f.R i) := Lib.hid (by rw [n1]; rfl)
              have i1 : (i : Int) + 1 < (f.n : Int) := by omega
              have i0 : 0 ≤ (i : Int) + 1 := by omega
              clear n1 hFi
              by_cases v1 : f.V i < -4000000000000000 ∨ 4000000000000000 < f.V i
              · have HS := Lib.hid (Lf.chk_Q H1.out HP.out hlt HSL.out (Lf.Q_val v1))
                clear hlb hpb hQI w2 w3
                rcases (show 4000000000000000 < f.V i ∨ (¬ 4000000000000000 < f.V i ∧ f.V i < -4000000000000000) by omega) with h2 | ⟨h2, h3⟩
                · have d1 : decide (4000000000000000 < f.V i) = true := decide_eq_true h2
                  go_wp2
                  go_ret
                  exact ⟨ret_i HS.out.symm, B3⟩
                · have d1 : decide (4000000000000000 < f.V i) = false := decide_eq_false h2
                  have d2 : decide (f.V i < -4000000000000000) = true := decide_eq_true h3
                  go_wp2
                  go_ret
                  exact ⟨ret_i HS.out.symm, B3⟩
              · have d1 : decide (4000000000000000 < f.V i) = false := by simp; omega
                have d2 : decide (f.V i < -4000000000000000) = false := by simp; omega
                obtain ⟨y, hy⟩ : ∃ y, f.V i + (f.F (i + 1) - 1 - f.F i) * f.R i = y := ⟨_, rfl⟩
                have w5 : IntKind.i64.wrap (f.V i + (f.F (i + 1) - 1 - f.F i) * f.R i) = y := (IntWalk.i64_in _ (by omega)).trans hy
                have HV1 := Lib.hid v1
                replace HQI := Lib.hid (HQI.out.trans hy)
                clear v1 hlb hpb hQI hy
                by_cases v2 : y < -4000000000000000 ∨ 4000000000000000 < y
                · have HS := Lib.hid (Lf.chk_Q H1.out HP.out hlt HSL.out (Lf.Q_end (by rw [HQI.out]; exact v2)))
                  rcases (show 4000000000000000 < y ∨ (¬ 4000000000000000 < y ∧ y < -4000000000000000) by omega) with h2 | ⟨h2, h3⟩
                  · have d3 : decide (4000000000000000 < y) = true := decide_eq_true h2
                    clear v2
                    go_wp2
                    go_ret
                    exact ⟨ret_i HS.out.symm, B3⟩
                  · have d3 : decide (4000000000000000 < y) = false := decide_eq_false h2
                    have d4 : decide (y < -4000000000000000) = true := decide_eq_true h3
                    clear v2
                    go_wp2
                    go_ret
                    exact ⟨ret_i HS.out.symm, B3⟩
                · have d3 : decide (4000000000000000 < y) = false := by simp; omega
                  have d4 : decide (y < -4000000000000000) = false := by simp; omega
                  have HS := Lib.hid (Lf.fst_succ HSL.out (Lf.Q_ok HV1.out (by rw [HQI.out]; exact v2)))
                  clear v2
                  go_wp2
                  go_round
                  case rel => exact ⟨i + 1, Nat.succ_le_of_lt hlt, HS.out, by go_num, B3⟩
                  case measure => exact meas_step hlt
            · have t1 : decide ((i : Int) + 1 < (f.n : Int)) = false := by simp; omega
              have n1 := Lf.lst_out e
              have HSL := Lib.hid hs
              clear hs
              rw [n1] at w2 w3 hpb hQI hlb
              have HQI : Hid (f.ln i (f.lst i) = f.V i + (10000000000 - f.F i) * f.R i) := Lib.hid (by rw [n1]; rfl)
              clear n1 e hFi
              by_cases v1 : f.V i < -4000000000000000 ∨ 4000000000000000 < f.V i
              · have HS := Lib.hid (Lf.chk_Q H1.out HP.out hlt HSL.out (Lf.Q_val v1))
                clear hlb hpb hQI w2 w3
                rcases (show 4000000000000000 < f.V i ∨ (¬ 4000000000000000 < f.V i ∧ f.V i < -4000000000000000) by omega) with h2 | ⟨h2, h3⟩
                · have d1 : decide (4000000000000000 < f.V i) = true := decide_eq_true h2
                  go_wp2
                  go_ret
                  exact ⟨ret_i HS.out.symm, B3⟩
                · have d1 : decide (4000000000000000 < f.V i) = false := decide_eq_false h2
                  have d2 : decide (f.V i < -4000000000000000) = true := decide_eq_true h3
                  go_wp2
                  go_ret
                  exact ⟨ret_i HS.out.symm, B3⟩
              · have d1 : decide (4000000000000000 < f.V i) = false := by simp; omega
                have d2 : decide (f.V i < -4000000000000000) = false := by simp; omega
                obtain ⟨y, hy⟩ : ∃ y, f.V i + (10000000000 - f.F i) * f.R i = y := ⟨_, rfl⟩
                have w5 : IntKind.i64.wrap (f.V i + (10000000000 - f.F i) * f.R i) = y := (IntWalk.i64_in _ (by omega)).trans hy
                have HV1 := Lib.hid v1
                replace HQI := Lib.hid (HQI.out.trans hy)
                clear v1 hlb hpb hQI hy
                by_cases v2 : y < -4000000000000000 ∨ 4000000000000000 < y
                · have HS := Lib.hid (Lf.chk_Q H1.out HP.out hlt HSL.out (Lf.Q_end (by rw [HQI.out]; exact v2)))
                  rcases (show 4000000000000000 < y ∨ (¬ 4000000000000000 < y ∧ y < -4000000000000000) by omega) with h2 | ⟨h2, h3⟩
                  · have d3 : decide (4000000000000000 < y) = true := decide_eq_true h2
                    clear v2
                    go_wp2
                    go_ret
                    exact ⟨ret_i HS.out.symm, B3⟩
                  · have d3 : decide (4000000000000000 < y) = false := decide_eq_false h2
                    have d4 : decide (y < -4000000000000000) = true := decide_eq_true h3
                    clear v2
                    go_wp2
                    go_ret
                    exact ⟨ret_i HS.out.symm, B3⟩
                · have d3 : decide (4000000000000000 < y) = false := by simp; omega
                  have d4 : decide (y < -4000000000000000) = false := by simp; omega
                  have HS := Lib.hid (Lf.fst_succ HSL.out (Lf.Q_ok HV1.out (by rw [HQI.out]; exact v2)))
                  clear v2
                  go_wp2
                  go_round
                  case rel => exact ⟨i + 1, Nat.succ_le_of_lt hlt, HS.out, by go_num, B3⟩
                  case measure => exact meas_step hlt
          · obtain rfl : i = f.n := by omega
            have HS := Lib.hid (Lf.chk_no H1.out HP.out hs)
            clear hs
            go_wp2
            go_ret
            exact ⟨ret_i HS.out.symm, hb⟩
end Go.Proofs.Ytcldknmhmbpboaa
