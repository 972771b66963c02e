/- What piece.Check answers of any pieces. -/
import Derived.Test.YtcldknmhmbpboaaPcM
namespace Go.Proofs.Ytcldknmhmbpboaa
open Go.RowKit Go.Sort
set_option linter.unusedVariables false
set_option linter.unusedSimpArgs false

theorem mixedP : Try.prog.follows .mixedOrders = true := by kernel_rfl
namespace Lf
theorem chk_size {f : Lf} (h : f.n < 1 ∨ 256 < f.n) : f.chk = 2 := if_pos h
theorem chk_P {f : Lf} (h : ¬ (f.n < 1 ∨ 256 < f.n)) {i : Nat} (hi : i < f.n) (h0 : fst f.stP i = 0) {e : Int} (hs : f.stP i = e) (he : e ≠ 0) : f.chk = e := by
  have := fst_stop hi h0 (by rw [hs]; exact he)
  unfold chk
  rw [if_neg h, this, hs, if_pos he]
theorem chk_Q {f : Lf} (h : ¬ (f.n < 1 ∨ 256 < f.n)) (hp : fst f.stP f.n = 0) {i : Nat} (hi : i < f.n) (h0 : fst f.stQ i = 0) (hs : f.stQ i = 10) : f.chk = 10 := by
  have := fst_stop hi h0 (by rw [hs]; decide)
  unfold chk
  rw [if_neg h, hp, if_neg (by simp), this, hs]
theorem chk_no {f : Lf} (h : ¬ (f.n < 1 ∨ 256 < f.n)) (hp : fst f.stP f.n = 0) (h0 : fst f.stQ f.n = 0) : f.chk = 0 := by
  unfold chk
  rw [if_neg h, hp, if_neg (by simp), h0]
theorem P_range {f : Lf} {i : Nat} (h : f.F i < 0 ∨ 10000000000 < f.F i) : f.stP i = 1 := if_pos h
theorem P_first {f : Lf} {i : Nat} (h : ¬ (f.F i < 0 ∨ 10000000000 < f.F i)) (h2 : i = 0 ∧ f.F i ≠ 0) : f.stP i = 1 := by unfold stP; rw [if_neg h, if_pos h2]
theorem P_order {f : Lf} {i : Nat} (h : ¬ (f.F i < 0 ∨ 10000000000 < f.F i)) (h2 : ¬ (i = 0 ∧ f.F i ≠ 0)) (h3 : 0 < i ∧ f.F i ≤ f.F (i - 1)) : f.stP i = 6 := by unfold stP; rw [if_neg h, if_neg h2, if_pos h3]
theorem P_rate {f : Lf} {i : Nat} (h : ¬ (f.F i < 0 ∨ 10000000000 < f.F i)) (h2 : ¬ (i = 0 ∧ f.F i ≠ 0)) (h3 : ¬ (0 < i ∧ f.F i ≤ f.F (i - 1))) (h4 : f.R i < -40000 ∨ 40000 < f.R i) : f.stP i = 50 := by unfold stP; rw [if_neg h, if_neg h2, if_neg h3, if_pos h4]
theorem P_ok {f : Lf} {i : Nat} (h : ¬ (f.F i < 0 ∨ 10000000000 < f.F i)) (h2 : ¬ (i = 0 ∧ f.F i ≠ 0)) (h3 : ¬ (0 < i ∧ f.F i ≤ f.F (i - 1))) (h4 : ¬ (f.R i < -40000 ∨ 40000 < f.R i)) : f.stP i = 0 := by unfold stP; rw [if_neg h, if_neg h2, if_neg h3, if_neg h4]
theorem Q_val {f : Lf} {i : Nat} (h : f.V i < -4000000000000000 ∨ 4000000000000000 < f.V i) : f.stQ i = 10 := if_pos h
theorem Q_end {f : Lf} {i : Nat} (h : f.ln i (f.lst i) < -4000000000000000 ∨ 4000000000000000 < f.ln i (f.lst i)) : f.stQ i = 10 := by
  unfold stQ
  rw [if_pos h]
  split <;> rfl
theorem Q_ok {f : Lf} {i : Nat} (h : ¬ (f.V i < -4000000000000000 ∨ 4000000000000000 < f.V i)) (h2 : ¬ (f.ln i (f.lst i) < -4000000000000000 ∨ 4000000000000000 < f.ln i (f.lst i))) : f.stQ i = 0 := by unfold stQ; rw [if_neg h, if_neg h2]
end Lf
theorem xB_yes {x : Int} (h : xB x = true) : 0 ≤ x ∧ x ≤ 10000000000 := by simpa [xB] using h
theorem xB_no {x : Int} (h : xB x = false) : x < 0 ∨ 10000000000 < x := by
  have : ¬ (0 ≤ x ∧ x ≤ 10000000000) := by simpa [xB] using h
  omega
theorem vB_yes {x : Int} (h : vB x = true) : -4000000000000000 ≤ x ∧ x ≤ 4000000000000000 := by simpa [vB] using h
theorem vB_no {x : Int} (h : vB x = false) : x < -4000000000000000 ∨ 4000000000000000 < x := by
  have : ¬ (-4000000000000000 ≤ x ∧ x ≤ 4000000000000000) := by simpa [vB] using h
  omega
theorem meas_step {n i : Nat} (h : i < n) : n - (intOf (.int .i64 ((i : Int) + 1))).toNat < n - (intOf (.int .i64 (i : Int))).toNat := by
  simp [intOf]; omega
theorem ca_later {W : World} {a : Addr} {v : Value} (o : Obj) (h : W.cell? a = some v) : (W.alloc o).cell? a = some v := cell_later (below_new W o) h
set_option maxHeartbeats 4000000 in
set_option maxRecDepth 100000 in
theorem check_any (A : Option Addr) (c : Nat) (f : Lf) (w : World) (h : Lm w A f) (hn : f.n ≤ 4611686018427387904) :
    Calls Try.prog 12 #[.slice A f.n c] w fun e w' => e = .returned (.int .i64 f.chk) ∧ Below w.heap.size w w' := by
  have hself := Below.refl w.heap.size w
  by_cases h1 : f.n < 1 ∨ 256 < f.n
  · have HE := Lib.hid (Lf.chk_size h1)
    rcases (show f.n = 0 ∨ 256 < f.n by omega) with h2 | h2
    · have b1 : ((f.n : Int) == 0) = true := by simp; omega
      go_enter Try.func12, Try.ntmps12
      clear h1 h2
      go_wp2
      go_ret
      exact ⟨ret_i HE.out.symm, hself⟩
    · have b1 : ((f.n : Int) == 0) = false := by simp; omega
      have b2 : decide (256 < (f.n : Int)) = true := by simp; omega
      go_enter Try.func12, Try.ntmps12
      clear h1 h2
      go_wp2
      go_ret
      exact ⟨ret_i HE.out.symm, hself⟩
  · have H1 := Lib.hid h1
    have H := Lib.hid h
    have b1 : ((f.n : Int) == 0) = false := by simp; omega
    have b2 : decide (256 < (f.n : Int)) = false := by simp; omega
    have hn2 : f.n ≤ 256 := by omega
    clear h1 h
    go_enter Try.func12, Try.ntmps12
    go_wp2
    go_loopw [17] (fun k W => ∃ i : Nat, i ≤ f.n ∧ Lf.fst f.stP i = 0 ∧ k = .int .i64 i ∧ Below w.heap.size w W) (fun k _ => f.n - (intOf k).toNat)
    case atStart => exact ⟨0, Nat.zero_le _, rfl, rfl, hself⟩
    case round =>
      obtain ⟨i, hi, hs, rfl, hb⟩ := hrel
      by_cases hlt : i < f.n
      · obtain ⟨b, o, rfl, hc⟩ := H.out (by omega)
        obtain ⟨c0, c1, c2⟩ := hc i hlt
        replace c0 := cell_later hb c0
        replace c1 := cell_later hb c1
        replace c2 := cell_later hb c2
        cases hw : xB (f.F i)
        · have HS := Lib.hid (Lf.chk_P H1.out hlt hs (Lf.P_range (xB_no hw)) (by decide))
          clear hc hs
          go_wp2_with (fail)
          refine (within_any (f.F i) _).mono ?_
          rintro e w3 ⟨rfl, hb3⟩
          have K := (bx_new wr [.int .i64 (f.F i), .int .i64 (f.V i), .int .i64 (f.R i)] 37).below hb3
          have B3 := below_step (hb.alloc hb.size _) hb3 (by have := hb.size; simp; omega)
          have k0 := K.cell (i := 0) rfl
          have k1 := K.cell (i := 1) rfl
          have k2 := K.cell (i := 2) rfl
          rw [hw]
          skip
          clear c0 c1 c2 hb hb3 K
          go_wp2
          go_ret
          exact ⟨ret_i HS.out.symm, B3⟩
        · have hr : ¬ (f.F i < 0 ∨ 10000000000 < f.F i) := by have := xB_yes hw; omega
          by_cases hz : i = 0 ∧ f.F i ≠ 0
          · have HS := Lib.hid (Lf.chk_P H1.out hlt hs (Lf.P_first hr hz) (by decide))
            have t1 : ((i : Int) == 0) = true := by simp; omega
            have t2 : (f.F i != 0) = true := by simp; exact hz.2
            clear hc hs hz hr
            go_wp2_with (fail)
            refine (within_any (f.F i) _).mono ?_
            rintro e w3 ⟨rfl, hb3⟩
            have K := (bx_new wr [.int .i64 (f.F i), .int .i64 (f.V i), .int .i64 (f.R i)] 37).below hb3
            have B3 := below_step (hb.alloc hb.size _) hb3 (by have := hb.size; simp; omega)
            have k0 := K.cell (i := 0) rfl
            have k1 := K.cell (i := 1) rfl
            have k2 := K.cell (i := 2) rfl
            rw [hw]
            skip
            clear c0 c1 c2 hb hb3 K
            go_wp2
            go_ret
            exact ⟨ret_i HS.out.symm, B3⟩
          · by_cases h6 : 0 < i ∧ f.F i ≤ f.F (i - 1)
            · have HS := Lib.hid (Lf.chk_P H1.out hlt hs (Lf.P_order hr hz h6) (by decide))
              have t1 : ((i : Int) == 0) = false := by simp; omega
              have p0 := cell_later hb (hc (i - 1) (by omega)).1
              obtain ⟨h6a, h6b⟩ := h6
              have e1 : ((i : Int) - 1).toNat = i - 1 := by omega
              have w1 : IntKind.i64.wrap ((i : Int) - 1) = (i : Int) - 1 := IntWalk.i64_in _ (by omega)
              have i0 : 0 ≤ (i : Int) - 1 := by omega
              have i1 : (i : Int) - 1 < (f.n : Int) := by omega
              have g0 : decide (0 < (i : Int)) = true := by simp; omega
              have g1 : decide (0 < i) = true := by simp; omega
              clear hc hs hz hr
              go_wp2_with (fail)
              refine (within_any (f.F i) _).mono ?_
              rintro e w3 ⟨rfl, hb3⟩
              have K := (bx_new wr [.int .i64 (f.F i), .int .i64 (f.V i), .int .i64 (f.R i)] 37).below hb3
              have B3 := below_step (hb.alloc hb.size _) hb3 (by have := hb.size; simp; omega)
              have k0 := K.cell (i := 0) rfl
              have k1 := K.cell (i := 1) rfl
              have k2 := K.cell (i := 2) rfl
              rw [hw]
              have p1 := cell_later hb3 (ca_later _ p0)
              clear c0 c1 c2 hb hb3 K
              clear p0
              go_wp2
              go_quiet (fail)
              go_wp2
              go_ret
              exact ⟨ret_i HS.out.symm, below_drewN B3 _⟩
            · have p0 : 0 < i → wr.cell? ⟨b, o + (i - 1) * 3, none⟩ = some (.int .i64 (f.F (i - 1))) := fun _ => cell_later hb (hc (i - 1) (by omega)).1
              by_cases h50 : f.R i < -40000 ∨ 40000 < f.R i
              · have HS := Lib.hid (Lf.chk_P H1.out hlt hs (Lf.P_rate hr hz h6 h50) (by decide))
                clear hc hs
                rcases Nat.eq_zero_or_pos i with hi0 | hi0
                · have t1 : ((i : Int) == 0) = true := by simp; omega
                  have t2 : (f.F i != 0) = false := by simp; exact Classical.byContradiction fun e => hz ⟨hi0, e⟩
                  have g0 : decide (0 < (i : Int)) = false := by simp; omega
                  have g1 : decide (0 < i) = false := by simp; omega
                  clear hz h6 hr p0 hi0
                  go_wp2_with (fail)
                  refine (within_any (f.F i) _).mono ?_
                  rintro e w3 ⟨rfl, hb3⟩
                  have K := (bx_new wr [.int .i64 (f.F i), .int .i64 (f.V i), .int .i64 (f.R i)] 37).below hb3
                  have B3 := below_step (hb.alloc hb.size _) hb3 (by have := hb.size; simp; omega)
                  have k0 := K.cell (i := 0) rfl
                  have k1 := K.cell (i := 1) rfl
                  have k2 := K.cell (i := 2) rfl
                  rw [hw]
                  skip
                  clear c0 c1 c2 hb hb3 K
                  go_wp2
                  go_quiet (fail)
                  rename_i nq _ _
                  have B4 := below_drewN B3 nq
                  rcases h50 with h50 | h50
                  · have r1 : decide (f.R i < -40000) = true := by simp; omega
                    go_wp2
                    go_ret
                    exact ⟨ret_i HS.out.symm, B4⟩
                  · have r1 : decide (f.R i < -40000) = false := by simp; omega
                    have r2 : decide (40000 < f.R i) = true := by simp; omega
                    go_wp2
                    go_ret
                    exact ⟨ret_i HS.out.symm, B4⟩
                · have t1 : ((i : Int) == 0) = false := by simp; omega
                  replace p0 := p0 hi0
                  have e1 : ((i : Int) - 1).toNat = i - 1 := by omega
                  have w1 : IntKind.i64.wrap ((i : Int) - 1) = (i : Int) - 1 := IntWalk.i64_in _ (by omega)
                  have i0 : 0 ≤ (i : Int) - 1 := by omega
                  have i1 : (i : Int) - 1 < (f.n : Int) := by omega
                  have g0 : decide (0 < (i : Int)) = true := by simp; omega
                  have g1 : decide (0 < i) = true := by simp; omega
                  have g2 : decide (f.F i ≤ f.F (i - 1)) = false := by simp; have := h6; omega
                  clear hz h6 hr
                  go_wp2_with (fail)
                  refine (within_any (f.F i) _).mono ?_
                  rintro e w3 ⟨rfl, hb3⟩
                  have K := (bx_new wr [.int .i64 (f.F i), .int .i64 (f.V i), .int .i64 (f.R i)] 37).below hb3
                  have B3 := below_step (hb.alloc hb.size _) hb3 (by have := hb.size; simp; omega)
                  have k0 := K.cell (i := 0) rfl
                  have k1 := K.cell (i := 1) rfl
                  have k2 := K.cell (i := 2) rfl
                  rw [hw]
                  have p1 := cell_later hb3 (ca_later _ p0)
                  clear c0 c1 c2 hb hb3 K
                  clear p0
                  go_wp2
                  go_quiet (fail)
                  rename_i nq _ _
                  have B4 := below_drewN B3 nq
                  rcases h50 with h50 | h50
                  · have r1 : decide (f.R i < -40000) = true := by simp; omega
                    go_wp2
                    go_ret
                    exact ⟨ret_i HS.out.symm, B4⟩
                  · have r1 : decide (f.R i < -40000) = false := by simp; omega
                    have r2 : decide (40000 < f.R i) = true := by simp; omega
                    go_wp2
                    go_ret
                    exact ⟨ret_i HS.out.symm, B4⟩
              · have HS := Lib.hid (Lf.fst_succ hs (Lf.P_ok hr hz h6 h50))
                have r1 : decide (f.R i < -40000) = false := by simp; omega
                have r2 : decide (40000 < f.R i) = false := by simp; omega
                clear hc hs h50
                rcases Nat.eq_zero_or_pos i with hi0 | hi0
                · have t1 : ((i : Int) == 0) = true := by simp; omega
                  have t2 : (f.F i != 0) = false := by simp; exact Classical.byContradiction fun e => hz ⟨hi0, e⟩
                  have g0 : decide (0 < (i : Int)) = false := by simp; omega
                  have g1 : decide (0 < i) = false := by simp; omega
                  clear hz h6 hr p0 hi0
                  go_wp2_with (fail)
                  refine (within_any (f.F i) _).mono ?_
                  rintro e w3 ⟨rfl, hb3⟩
                  have K := (bx_new wr [.int .i64 (f.F i), .int .i64 (f.V i), .int .i64 (f.R i)] 37).below hb3
                  have B3 := below_step (hb.alloc hb.size _) hb3 (by have := hb.size; simp; omega)
                  have k0 := K.cell (i := 0) rfl
                  have k1 := K.cell (i := 1) rfl
                  have k2 := K.cell (i := 2) rfl
                  rw [hw]
                  skip
                  clear c0 c1 c2 hb hb3 K
                  go_wp2
                  go_quiet (fail)
                  rename_i nq _ _
                  have B4 := below_drewN B3 nq
                  go_wp2
                  go_round
                  case rel => exact ⟨i + 1, Nat.succ_le_of_lt hlt, HS.out, by go_num, B4⟩
                  case measure => exact meas_step hlt
                · have t1 : ((i : Int) == 0) = false := by simp; omega
                  replace p0 := p0 hi0
                  have e1 : ((i : Int) - 1).toNat = i - 1 := by omega
                  have w1 : IntKind.i64.wrap ((i : Int) - 1) = (i : Int) - 1 := IntWalk.i64_in _ (by omega)
                  have i0 : 0 ≤ (i : Int) - 1 := by omega
                  have i1 : (i : Int) - 1 < (f.n : Int) := by omega
                  have g0 : decide (0 < (i : Int)) = true := by simp; omega
                  have g1 : decide (0 < i) = true := by simp; omega
                  have g2 : decide (f.F i ≤ f.F (i - 1)) = false := by simp; have := h6; omega
                  clear hz h6 hr
                  go_wp2_with (fail)
                  refine (within_any (f.F i) _).mono ?_
                  rintro e w3 ⟨rfl, hb3⟩
                  have K := (bx_new wr [.int .i64 (f.F i), .int .i64 (f.V i), .int .i64 (f.R i)] 37).below hb3
                  have B3 := below_step (hb.alloc hb.size _) hb3 (by have := hb.size; simp; omega)
                  have k0 := K.cell (i := 0) rfl
                  have k1 := K.cell (i := 1) rfl
                  have k2 := K.cell (i := 2) rfl
                  rw [hw]
                  have p1 := cell_later hb3 (ca_later _ p0)
                  clear c0 c1 c2 hb hb3 K
                  clear p0
                  go_wp2
                  go_quiet (fail)
                  rename_i nq _ _
                  have B4 := below_drewN B3 nq
                  go_wp2
                  go_round
                  case rel => exact ⟨i + 1, Nat.succ_le_of_lt hlt, HS.out, by go_num, B4⟩
                  case measure => exact meas_step hlt
      · obtain rfl : i = f.n := by omega
        have HP := Lib.hid hs
        clear hs
        go_wp2
        go_loopw [59] (fun k W => ∃ i : Nat, i ≤ f.n ∧ Lf.fst f.stQ i = 0 ∧ k = .int .i64 i ∧ Below w.heap.size w W) (fun k _ => f.n - (intOf k).toNat)
        case atStart => exact ⟨0, Nat.zero_le _, rfl, rfl, hb⟩
        case round =>
          clear hb hlt hi
          obtain ⟨i, hi, hs, rfl, hb⟩ := hrel
          by_cases hlt : i < f.n
          · obtain ⟨b, o, hA, hc⟩ := H.out (by omega)
            subst hA
            obtain ⟨c0, c1, c2⟩ := hc i hlt
            replace c0 := cell_later hb c0
            replace c1 := cell_later hb c1
            replace c2 := cell_later hb c2
            have hP := fun j hj => Lf.stP_zero (Lf.fst_zero HP.out j hj)
            have hFb := fun j hj => (hP j hj).1
            have hlb : f.F i ≤ f.lst i ∧ f.lst i ≤ 10000000000 := by
              have h1 := hFb i hlt
              by_cases e : i + 1 < f.n
              · have h2 := hFb (i + 1) e
                have h3 := (hP (i + 1) e).2.2.1 (by omega)
                rw [Lf.lst_in e]; simp only [Nat.add_sub_cancel] at h3; omega
              · rw [Lf.lst_out e]; omega
            have hpb := Lf.prod_bd (d := f.lst i - f.F i) (r := f.R i) (by have := hFb i hlt; omega) (by have := hFb i hlt; omega) (by have := (hP i hlt).2.2.2; omega) (by have := (hP i hlt).2.2.2; omega)
            have hFi := hFb i hlt
            have HL := Lib.hid (H.out.below hb)
            have HFb := Lib.hid hFb
            have HQI := Lib.hid (show f.ln i (f.lst i) = f.V i + (f.lst i - f.F i) * f.R i from rfl)
            clear hc hP hFb
            have KX := bx_new wr [.int .i64 (f.F i), .int .i64 (f.V i), .int .i64 (f.R i)] 37
            have NX := below_new wr (.cells #[.int .i64 (f.F i), .int .i64 (f.V i), .int .i64 (f.R i)] 37)
            cases hw : vB (f.V i)
            · have HS := Lib.hid (Lf.chk_Q H1.out HP.out hlt hs (Lf.Q_val (vB_no hw)))
              clear hs hlb hpb hFi
              go_wp2
              have cR := fun (x : Int) (d : Nat) (os : Array Obj) => Calls.regrown_of (d := d) (os := os) (w := wr.alloc (.cells #[.int .i64 (f.F i), .int .i64 (f.V i), .int .i64 (f.R i)] 37)) (right_any x _)
              generalize wr.alloc (.cells #[.int .i64 (f.F i), .int .i64 (f.V i), .int .i64 (f.R i)] 37) = wk at *
              have kx_0 := fun d os => cell_regrown (KX.cell (i := 0) rfl) d os
              have kx_1 := fun d os => cell_regrown (KX.cell (i := 1) rfl) d os
              have kx_2 := fun d os => cell_regrown (KX.cell (i := 2) rfl) d os
              replace cR := fun d os => cR (f.V i) d os
              rw [hw] at cR
              refine wp_region_quiet_below mixedP (by kernel_rfl) ?_
              iterate 2 (go_big_quiet_step (fail))
              go_big_quiet_step (exact cR _ _)
              repeat (go_big_quiet_step (fail))
              refine wpQuiet_nil ?_
              intro _ hw'
              obtain ⟨⟨dq, osq⟩, hw''⟩ := hw'
              subst hw''
              have B3 := below_step (below_step hb NX hb.size) (below_regrown wk dq osq) (below_step hb NX hb.size).size
              clear cR kx_0 kx_1 kx_2 KX NX
              go_wp2
              go_ret
              exact ⟨ret_i HS.out.symm, B3⟩
            · have hV := vB_yes hw
              have cL : ∀ d os, Calls Try.prog 29 #[.slice (some ⟨b, o, none⟩) f.n c, .int .i64 (i : Int)] (grow (redrawn (wr.alloc (.cells #[.int .i64 (f.F i), .int .i64 (f.V i), .int .i64 (f.R i)] 37)) d) os) _ := fun d os => Calls.regrown_of (last_any _ c f i _ ((HL.out.below NX).below (below_regrown _ d os)) hlt hn HFb.out)
              have cA : ∀ d os, Calls Try.prog 27 #[.agg #[.int .i64 (f.F i), .int .i64 (f.V i), .int .i64 (f.R i)], .int .i64 (f.lst i)] (grow (redrawn (wr.alloc (.cells #[.int .i64 (f.F i), .int .i64 (f.V i), .int .i64 (f.R i)] 37)) d) os) _ := fun d os => Calls.regrown_of (lat_any (f.F i) (f.V i) (f.R i) (f.lst i) _ (by omega) (by omega) (by omega))
              rw [← HQI.out] at cA
              cases hw2 : vB (f.ln i (f.lst i))
              · have HS := Lib.hid (Lf.chk_Q H1.out HP.out hlt hs (Lf.Q_end (vB_no hw2)))
                clear hs hlb hpb hFi
                go_wp2
                have cR := fun (x : Int) (d : Nat) (os : Array Obj) => Calls.regrown_of (d := d) (os := os) (w := wr.alloc (.cells #[.int .i64 (f.F i), .int .i64 (f.V i), .int .i64 (f.R i)] 37)) (right_any x _)
                generalize wr.alloc (.cells #[.int .i64 (f.F i), .int .i64 (f.V i), .int .i64 (f.R i)] 37) = wk at *
                have kx_0 := fun d os => cell_regrown (KX.cell (i := 0) rfl) d os
                have kx_1 := fun d os => cell_regrown (KX.cell (i := 1) rfl) d os
                have kx_2 := fun d os => cell_regrown (KX.cell (i := 2) rfl) d os
                replace cR := fun d os => cR (f.V i) d os
                rw [hw] at cR
                refine wp_region_quiet_below mixedP (by kernel_rfl) ?_
                have cR2 := fun (d : Nat) (os : Array Obj) => Calls.regrown_of (d := d) (os := os) (w := wk) (right_any (f.ln i (f.lst i)) _)
                rw [hw2] at cR2
                iterate 2 (go_big_quiet_step (fail))
                go_big_quiet_step (exact cR _ _)
                iterate 5 (go_big_quiet_step (fail))
                go_big_quiet_step (exact cL _ _)
                go_big_quiet_step (exact cA _ _)
                go_big_quiet_step (exact cR2 _ _)
                repeat (go_big_quiet_step (fail))
                refine wpQuiet_nil ?_
                intro _ hw'
                obtain ⟨⟨dq, osq⟩, hw''⟩ := hw'
                subst hw''
                have B3 := below_step (below_step hb NX hb.size) (below_regrown wk dq osq) (below_step hb NX hb.size).size
                clear cR kx_0 kx_1 kx_2 KX NX
                go_wp2
                go_ret
                exact ⟨ret_i HS.out.symm, B3⟩
              · have HS := Lib.hid (Lf.fst_succ hs (Lf.Q_ok (by omega) (by have := vB_yes hw2; omega)))
                clear hs hlb hpb hFi
                go_wp2
                have cR := fun (x : Int) (d : Nat) (os : Array Obj) => Calls.regrown_of (d := d) (os := os) (w := wr.alloc (.cells #[.int .i64 (f.F i), .int .i64 (f.V i), .int .i64 (f.R i)] 37)) (right_any x _)
                generalize wr.alloc (.cells #[.int .i64 (f.F i), .int .i64 (f.V i), .int .i64 (f.R i)] 37) = wk at *
                have kx_0 := fun d os => cell_regrown (KX.cell (i := 0) rfl) d os
                have kx_1 := fun d os => cell_regrown (KX.cell (i := 1) rfl) d os
                have kx_2 := fun d os => cell_regrown (KX.cell (i := 2) rfl) d os
                replace cR := fun d os => cR (f.V i) d os
                rw [hw] at cR
                refine wp_region_quiet_below mixedP (by kernel_rfl) ?_
                have cR2 := fun (d : Nat) (os : Array Obj) => Calls.regrown_of (d := d) (os := os) (w := wk) (right_any (f.ln i (f.lst i)) _)
                rw [hw2] at cR2
                iterate 2 (go_big_quiet_step (fail))
                go_big_quiet_step (exact cR _ _)
                iterate 5 (go_big_quiet_step (fail))
                go_big_quiet_step (exact cL _ _)
                go_big_quiet_step (exact cA _ _)
                go_big_quiet_step (exact cR2 _ _)
                repeat (go_big_quiet_step (fail))
                refine wpQuiet_nil ?_
                intro _ hw'
                obtain ⟨⟨dq, osq⟩, hw''⟩ := hw'
                subst hw''
                have B3 := below_step (below_step hb NX hb.size) (below_regrown wk dq osq) (below_step hb NX hb.size).size
                clear cR kx_0 kx_1 kx_2 KX NX
                go_wp2
                go_round
                case rel => exact ⟨i + 1, Nat.succ_le_of_lt hlt, HS.out, by go_num, B3⟩
                case measure => exact meas_step hlt
          · obtain rfl : i = f.n := by omega
            have HS := Lib.hid (Lf.chk_no H1.out HP.out hs)
            clear hs
            go_wp2
            go_ret
            exact ⟨ret_i HS.out.symm, hb⟩
end Go.Proofs.Ytcldknmhmbpboaa
