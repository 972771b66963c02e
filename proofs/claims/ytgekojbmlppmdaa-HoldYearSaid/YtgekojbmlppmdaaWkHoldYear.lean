/- The law HoldYear: where a step is refused, and put together. -/
import Derived.Test.YtgekojbmlppmdaaWkHoldYearA
namespace Go.Proofs.Ytgekojbmlppmdaa
open Go.RowKit Go.Sort
set_option linter.unusedVariables false
set_option linter.unusedSimpArgs false
set_option maxRecDepth 100000 in
theorem hy_bad (r : Int) (A : Option Addr) (n c : Nat) (f : Nat → Py) (w : World) (h : Pys w A n f) (hn : n ≤ 60) (hF : firstE (yrE r f) n ≠ 0) :
    Calls Try.prog 4 #[.int .i64 r, .slice A n c] w fun e w' => e = .returned (.bool true) ∧ Below w.heap.size w w' := by
  have yr := fun w (h : Pys w A n f) => year_any none none none 0 0 0 0 0 0 r 0 A n c f w h (by omega)
  have hn2 : ¬ (60 : Int) < (n : Int) := by omega
  go_enter Try.func4, Try.ntmps4
  go_wp2_with (fail)
  with_reducible refine (holds_any _).mono ?_
  rintro e w1 ⟨rfl, hb1⟩
  have h1 := h.below hb1
  have Nt := below_new w1 (.cells #[.slice none 0 0, .slice none 0 0, .slice none 0 0, .int .i64 r, .int .i64 0] 31)
  have Kt := bx_new w1 [.slice none 0 0, .slice none 0 0, .slice none 0 0, .int .i64 r, .int .i64 0] 31
  have h2 := h1.below Nt
  have B2 := below_step hb1 Nt hb1.size
  have t0 := Kt.cell (i := 0) rfl
  have t1 := Kt.cell (i := 1) rfl
  have t2 := Kt.cell (i := 2) rfl
  have t3 := Kt.cell (i := 3) rfl
  have t4 := Kt.cell (i := 4) rfl
  clear h h1 hb1
  go_wp2_with (fail)
  generalize w1.alloc (.cells #[.slice none 0 0, .slice none 0 0, .slice none 0 0, .int .i64 r, .int .i64 0] 31) = wt at *
  with_reducible refine (yr _ h2).mono ?_
  rintro e w2 ⟨_, hy, hb2⟩
  have hy := hy hF
  subst hy
  have h3 := h2.below hb2
  have Kt2 := Kt.below hb2
  have B3 := below_step B2 hb2 B2.size
  have Ns := below_new w2 (.cells #[.int .i64 0, .int .i64 0] 23)
  have h4 := h3.below Ns
  have B4 := below_step B3 Ns B3.size
  have L4 : Lh ((w2.alloc (.cells #[.int .i64 0, .int .i64 0] 23)).alloc (.cells #[.int .i64 0, .int .i64 0] 23)) w1.heap.size w2.heap.size r f 0 0 0 0 :=
    ⟨(Kt2.alloc _).alloc _, (bx_new w2 [.int .i64 0, .int .i64 0] 23).alloc _, bx_at _ [.int .i64 0, .int .i64 0] 23 (by simp)⟩
  have N5 := below_new (w2.alloc (.cells #[.int .i64 0, .int .i64 0] 23)) (.cells #[.int .i64 0, .int .i64 0] 23)
  have hl12 : w1.heap.size < w2.heap.size := Kt2.lt
  have hs4 : (w2.alloc (.cells #[.int .i64 0, .int .i64 0] 23)).heap.size = w2.heap.size + 1 := by simp
  have HY := Lib.hid (fun i (h0 : firstE (yrE r f) i = 0) => yrS_bd r f i (first_zero h0))
  have HF := Lib.hid hF
  have hF1 : (firstE (yrE r f) n == 0) = false := by simpa using hF
  clear h2 h3 hb2 B2 B3 Ns Kt Kt2 Nt yr hF t0 t1 t2 t3 t4
  go_wp2_with (fail)
  generalize w2.alloc (.cells #[.int .i64 0, .int .i64 0] 23) = w4 at *
  generalize hE : firstE (yrE r f) n = E at *
  have HE := Lib.hid hE
  clear hE
  go_loopw [32, 10] (fun k s X => ∃ i : Nat, i ≤ n ∧ k = .int .i64 i ∧ s = .int .i64 (yrS r f i).1 ∧ Lh X w1.heap.size w2.heap.size r f 0 0 (yrS r f i).1 (yrS r f i).2 ∧ firstE (yrE r f) i = 0 ∧ Below w4.heap.size w4 X) (fun k _ _ => n - (intOf k).toNat)
  case atStart => exact ⟨0, Nat.zero_le _, rfl, rfl, L4, rfl, N5⟩
  case round =>
    obtain ⟨i, hi, rfl, rfl, ⟨Q0, Q1, Q2⟩, h0, hb⟩ := hrel
    by_cases hlt : i < n
    · obtain ⟨b, o, rfl, hc⟩ := id (h4 (by omega))
      obtain ⟨g0, g1, g2⟩ := hc i hlt
      have d0 := cell_later hb g0
      have d1 := cell_later hb g1
      have d2 := cell_later hb g2
      clear hc g0 g1 g2
      have b1 := HY.out i h0
      by_cases hE : yrE r f i = 0
      · have hF2 := first_succ h0 hE
        have b2 := HY.out (i + 1) hF2
        have HF2 := Lib.hid hF2
        rw [yrS_succ] at b2
        have kc := fun w => step_yes none none none 0 0 0 0 0 0 r 0 (yrS r f i).1 (yrS r f i).2 (f i).c (f i).D (f i).b w hE
        rw [show stepH r (yrS r f i).1 (f i).c (f i).D (f i).b = yrH r f i from rfl] at kc
        have hsn : ∀ u v : Int, (yrS r f i).1 + yrH r f i = u → (f i).D - (yrS r f i).1 - yrH r f i = v → yrS r f (i + 1) = (u, v) := fun u v hu hv => by rw [yrS_succ, hu, hv]
        have HSV := Lib.hid hsn
        clear hsn hF2 hE h0
        generalize (f i).c = fc at *
        generalize (f i).D = fD at *
        generalize (f i).b = fb at *
        generalize yrH r f i = x at *
        generalize yrS r f i = st at *
        obtain ⟨sW, sS⟩ := st
        dsimp only at *
        have HSV2 := Lib.hid (HSV.out _ _ rfl rfl)
        clear HSV
        generalize hu : sW + x = u at *
        generalize hv : fD - sW - x = v at *
        have HU := Lib.hid hu
        clear hu hv
        have Np := below_new wr (.cells #[.int .i64 fc, .int .i64 fD, .bool fb] 25)
        have Qp := bx_new wr [.int .i64 fc, .int .i64 fD, .bool fb] 25
        have P0 := Q0.below Np
        have P1 := Q1.below Np
        have P2 := Q2.below Np
        have Bp := below_step hb Np hb.size
        have x0 := P0.cell (i := 0) rfl
        have x1 := P0.cell (i := 1) rfl
        have x2 := P0.cell (i := 2) rfl
        have x3 := P0.cell (i := 3) rfl
        have x4 := P0.cell (i := 4) rfl
        have s0 := P2.cell (i := 0) rfl
        have s1 := P2.cell (i := 1) rfl
        have p0 := Qp.cell (i := 0) rfl
        have p1 := Qp.cell (i := 1) rfl
        have p2 := Qp.cell (i := 2) rfl
        go_wp2_with (fail)
        generalize wr.alloc (.cells #[.int .i64 fc, .int .i64 fD, .bool fb] 25) = w6 at *
        with_reducible refine (kc _).mono ?_
        rintro e w7 ⟨rfl, hb7⟩
        have N8 := below_new w7 (.cells #[.int .i64 u, .int .i64 v] 23)
        have T8 := bx_new w7 [.int .i64 u, .int .i64 v] 23
        have R0 := (P0.below hb7).below N8
        have R1 := (P1.below hb7).below N8
        have R2 := (P2.below hb7).below N8
        have B7 := below_step (below_step Bp hb7 Bp.size) N8 (below_step Bp hb7 Bp.size).size
        have y0 := T8.cell (i := 0) rfl
        have y1 := T8.cell (i := 1) rfl
        have z0 := R2.cell (i := 0) rfl
        have z1 := R2.cell (i := 1) rfl
        have z2 := R2.fr 0
        have z3 := R2.fr 1
        have hne : w7.heap.size ≠ w2.heap.size + 1 := by have := Q2.lt; have := hb7.size; have := Np.size; omega
        clear d0 d1 d2 x0 x1 x2 x3 x4 s0 s1 p0 p1 p2 P0 P1 P2 Qp Np Bp Q0 Q1 Q2 hb kc hb7 N8
        go_wp2
        generalize w7.alloc (.cells #[.int .i64 u, .int .i64 v] 23) = w9 at *
        have Z := (R2.set 0 (.int .i64 u)).set 1 (.int .i64 v)
        have Z0 := (R0.other (q := w2.heap.size + 1) (by omega) 0 (.int .i64 u)).other (q := w2.heap.size + 1) (by omega) 1 (.int .i64 v)
        have Z1 := (R1.other (q := w2.heap.size + 1) (by omega) 0 (.int .i64 u)).other (q := w2.heap.size + 1) (by omega) 1 (.int .i64 v)
        have ZB := (B7.setCell (p := ⟨w2.heap.size + 1, 0, none⟩) (by rw [hs4]; exact Nat.le_refl _) (.int .i64 u)).setCell (p := ⟨w2.heap.size + 1, 1, none⟩) (by rw [hs4]; exact Nat.le_refl _) (.int .i64 v)
        refine ⟨⟨i + 1, hlt, by go_num, by rw [HU.out, HSV2.out]; exact congrArg _ (IntWalk.wrap64_in _ (by omega)), ⟨Z0, Z1, by rw [HSV2.out]; exact Z⟩, HF2.out, ZB⟩, ?_⟩
        simp [intOf]; omega
      · have hF2 := first_stop hlt h0 hE
        have hEE : E = yrE r f i := HE.out.symm.trans hF2
        have kc := fun w => step_err none none none 0 0 0 0 0 0 r 0 (yrS r f i).1 (yrS r f i).2 (f i).c (f i).D (f i).b w hE
        rw [show stepE r (yrS r f i).1 (yrS r f i).2 (f i).c (f i).D = E from hEE.symm] at kc
        have hE1 : (E != 0) = true := by rw [hEE]; simpa using hE
        clear hF2 hEE hE h0 HE HF
        generalize (f i).c = fc at *
        generalize (f i).D = fD at *
        generalize (f i).b = fb at *
        generalize yrS r f i = st at *
        obtain ⟨sW, sS⟩ := st
        dsimp only at *
        have Np := below_new wr (.cells #[.int .i64 fc, .int .i64 fD, .bool fb] 25)
        have Qp := bx_new wr [.int .i64 fc, .int .i64 fD, .bool fb] 25
        have P0 := Q0.below Np
        have P1 := Q1.below Np
        have P2 := Q2.below Np
        have Bp := below_step (below_step B4 hb B4.size) Np (below_step B4 hb B4.size).size
        have x0 := P0.cell (i := 0) rfl
        have x1 := P0.cell (i := 1) rfl
        have x2 := P0.cell (i := 2) rfl
        have x3 := P0.cell (i := 3) rfl
        have x4 := P0.cell (i := 4) rfl
        have s0 := P2.cell (i := 0) rfl
        have s1 := P2.cell (i := 1) rfl
        have p0 := Qp.cell (i := 0) rfl
        have p1 := Qp.cell (i := 1) rfl
        have p2 := Qp.cell (i := 2) rfl
        go_wp2_with (fail)
        generalize wr.alloc (.cells #[.int .i64 fc, .int .i64 fD, .bool fb] 25) = w6 at *
        with_reducible refine (kc _).mono ?_
        rintro e w7 ⟨rfl, hb7⟩
        have N8 := below_new w7 (.cells #[.int .i64 sW, .int .i64 sS] 23)
        have R1 := (P1.below hb7).below N8
        have B7 := below_step (below_step Bp hb7 Bp.size) N8 (below_step Bp hb7 Bp.size).size
        have z0 := R1.cell (i := 0) rfl
        have z1 := R1.cell (i := 1) rfl
        clear d0 d1 d2 x0 x1 x2 x3 x4 s0 s1 p0 p1 p2 P0 P1 P2 Qp Np Bp Q0 Q1 Q2 hb kc hb7 N8
        go_wp2
        go_ret
        exact ⟨rfl, B7⟩
    · obtain rfl : i = n := by omega
      exact absurd (HE.out.symm.trans h0) HF.out
theorem wHoldYear (r : Int) (A : Option Addr) (n c : Nat) (f : Nat → Py) (w : World) (hr : -9223372036854775808 ≤ r ∧ r ≤ 9223372036854775807) (h : Pys w A n f) (hn : n ≤ 9223372036854775807) (hf : ∀ i, i < n → pyF (f i)) :
    Calls Try.prog 4 #[.int .i64 r, .slice A n c] w fun e w' => e = .returned (.bool true) ∧ Below w.heap.size w w' := by
  by_cases h1 : n ≤ 60
  · by_cases hF : firstE (yrE r f) n = 0
    · exact hy_ok r A n c f w h h1 hF
    · exact hy_bad r A n c f w h h1 hF
  · exact hy_long r A n c f w (by omega)
end Go.Proofs.Ytgekojbmlppmdaa
