/- The walk of the law HoldYear. -/
import Derived.Test.YtgekojbmlppmdaaHldD
import Derived.Test.YtgekojbmlppmdaaOpenS
import Derived.Test.YtgekojbmlppmdaaWkHoldStepsB
namespace Go.Proofs.Ytgekojbmlppmdaa
open Go.RowKit Go.Sort
set_option linter.unusedVariables false
set_option linter.unusedSimpArgs false

theorem rowAt_below {W W' : World} {A : Option Addr} {n : Nat} {f : Nat → Value} (h : rowAt W A n f) (hb : Below W.heap.size W W') : rowAt W' A n f := fun h0 => by
  obtain ⟨b, o, hA, hc⟩ := h h0
  exact ⟨b, o, hA, fun i hi => cell_later hb (hc i hi)⟩
theorem ri_rowAt {w : World} {B : Nat} {v : Value} {l : List Int} (h : Ri w B v l) : ∃ A c, v = .slice A l.length c ∧ rowAt w A l.length (fun i => .int .i64 (l.getD i 0)) := by
  by_cases h0 : 0 < l.length
  · obtain ⟨g, c, hv, _, hc⟩ := ri_cell h h0
    exact ⟨_, _, hv, fun _ => ⟨g, 0, rfl, fun i hi => by
      rw [Nat.zero_add, hc i hi]
      simp [List.getD, List.getElem?_eq_getElem hi]⟩⟩
  · obtain ⟨A, c, hv⟩ := ri_len h
    exact ⟨A, c, hv, fun h1 => absurd h1 h0⟩
theorem yrL_getD (L : Int) (f : Nat → Py) (n i : Nat) (h : i < n) : (yrL L f n).getD i 0 = yrH L f i := by
  rw [List.getD, List.getElem?_eq_getElem (by rw [yrL_len]; exact h), yrL_get L f n i h]; rfl
/-- what the law's loop holds of memory -/
def Lh (X : World) (p q : Nat) (r : Int) (f : Nat → Py) (sW sS u v : Int) : Prop :=
  Bx X p 31 [.slice none 0 0, .slice none 0 0, .slice none 0 0, .int .i64 r, .int .i64 0] ∧ Bx X q 23 [.int .i64 sW, .int .i64 sS] ∧ Bx X (q + 1) 23 [.int .i64 u, .int .i64 v]
theorem Lh.below {X Y : World} {p q : Nat} {r sW sS u v : Int} {f : Nat → Py} (h : Lh X p q r f sW sS u v) (hb : Below X.heap.size X Y) : Lh Y p q r f sW sS u v := ⟨h.1.below hb, h.2.1.below hb, h.2.2.below hb⟩
theorem hy_long (r : Int) (A : Option Addr) (n c : Nat) (f : Nat → Py) (w : World) (hn : (60 : Int) < n) :
    Calls Try.prog 4 #[.int .i64 r, .slice A n c] w fun e w' => e = .returned (.bool true) ∧ Below w.heap.size w w' := by
  go_enter Try.func4, Try.ntmps4
  go_wp2_with (fail)
  with_reducible refine (holds_any _).mono ?_
  rintro e w1 ⟨rfl, hb⟩
  go_wp2
  go_ret
  exact ⟨rfl, hb⟩
set_option maxHeartbeats 2000000 in
set_option maxRecDepth 100000 in
theorem hy_ok (r : Int) (A : Option Addr) (n c : Nat) (f : Nat → Py) (w : World) (h : Pys w A n f) (hn : n ≤ 60) (hF : firstE (yrE r f) n = 0) :
    Calls Try.prog 4 #[.int .i64 r, .slice A n c] w fun e w' => e = .returned (.bool true) ∧ Below w.heap.size w w' := by
  have yr := fun w (h : Pys w A n f) => year_any none none none 0 0 0 0 0 0 r 0 A n c f w h (by omega)
  have hn2 : ¬ (60 : Int) < (n : Int) := by omega
  go_enter Try.func4, Try.ntmps4
  go_wp2_with (fail)
  with_reducible refine (holds_any _).mono ?_
  rintro e w1 ⟨rfl, hb1⟩
  have h1 := h.below hb1
  have Nt := below_new w1 (.cells #[.slice none 0 0, .slice none 0 0, .slice none 0 0, .int .i64 r, .int .i64 0] 31)
  have Kt := bx_new w1 [.slice none 0 0, .slice none 0 0, .slice none 0 0, .int .i64 r, .int .i64 0] 31
  have h2 := h1.below Nt
  have B2 := below_step hb1 Nt hb1.size
  have t0 := Kt.cell (i := 0) rfl
  have t1 := Kt.cell (i := 1) rfl
  have t2 := Kt.cell (i := 2) rfl
  have t3 := Kt.cell (i := 3) rfl
  have t4 := Kt.cell (i := 4) rfl
  clear h h1 hb1
  go_wp2_with (fail)
  generalize w1.alloc (.cells #[.slice none 0 0, .slice none 0 0, .slice none 0 0, .int .i64 r, .int .i64 0] 31) = wt at *
  with_reducible refine (yr _ h2).mono ?_
  rintro e w2 ⟨hy, _, hb2⟩
  obtain ⟨v, rfl, hv⟩ := hy hF
  have hall := first_zero hF
  obtain ⟨A', c', rfl, hrow⟩ := ri_rowAt hv
  rw [yrL_len] at hrow
  have hrow : rowAt w2 A' n fun i => .int .i64 (yrH r f i) := fun h0 => by
    obtain ⟨b, o, hA, hc⟩ := hrow h0
    exact ⟨b, o, hA, fun i hi => by rw [hc i hi]; show some (Value.int .i64 ((yrL r f n).getD i 0)) = _; rw [yrL_getD r f n i hi]⟩
  rw [yrL_len]
  have h3 := h2.below hb2
  have Kt2 := Kt.below hb2
  have B3 := below_step B2 hb2 B2.size
  have Ns := below_new w2 (.cells #[.int .i64 (yrS r f n).1, .int .i64 (yrS r f n).2] 23)
  have h4 := h3.below Ns
  have hrow4 := rowAt_below hrow Ns
  have B4 := below_step B3 Ns B3.size
  have L4 : Lh ((w2.alloc (.cells #[.int .i64 (yrS r f n).1, .int .i64 (yrS r f n).2] 23)).alloc (.cells #[.int .i64 0, .int .i64 0] 23)) w1.heap.size w2.heap.size r f (yrS r f n).1 (yrS r f n).2 0 0 :=
    ⟨(Kt2.alloc _).alloc _, (bx_new w2 [.int .i64 (yrS r f n).1, .int .i64 (yrS r f n).2] 23).alloc _, bx_at _ [.int .i64 0, .int .i64 0] 23 (by simp)⟩
  have N5 := below_new (w2.alloc (.cells #[.int .i64 (yrS r f n).1, .int .i64 (yrS r f n).2] 23)) (.cells #[.int .i64 0, .int .i64 0] 23)
  have hl12 : w1.heap.size < w2.heap.size := Kt2.lt
  have hs4 : (w2.alloc (.cells #[.int .i64 (yrS r f n).1, .int .i64 (yrS r f n).2] 23)).heap.size = w2.heap.size + 1 := by simp
  have HY := Lib.hid (fun i (hi : i ≤ n) => yrS_bd r f i (fun j hj => hall j (by omega)))
  have HA := Lib.hid hall
  have HD := Lib.hid (fun i => yrS_due r f i)
  clear hy hv hrow h2 h3 hb2 B2 B3 Ns Kt Kt2 Nt yr hF t0 t1 t2 t3 t4 hall
  go_wp2_with (fail)
  generalize w2.alloc (.cells #[.int .i64 (yrS r f n).1, .int .i64 (yrS r f n).2] 23) = w4 at *
  go_loopw [32, 10] (fun k s X => ∃ i : Nat, i ≤ n ∧ k = .int .i64 i ∧ s = .int .i64 (yrS r f i).1 ∧ Lh X w1.heap.size w2.heap.size r f (yrS r f n).1 (yrS r f n).2 (yrS r f i).1 (yrS r f i).2 ∧ Below w4.heap.size w4 X) (fun k _ _ => n - (intOf k).toNat)
  case atStart => exact ⟨0, Nat.zero_le _, rfl, rfl, L4, N5⟩
  case round =>
    obtain ⟨i, hi, rfl, rfl, ⟨Q0, Q1, Q2⟩, hb⟩ := hrel
    by_cases hlt : i < n
    · obtain ⟨b, o, rfl, hc⟩ := id (h4 (by omega))
      obtain ⟨g0, g1, g2⟩ := hc i hlt
      obtain ⟨b', o', rfl, hc'⟩ := id (hrow4 (by omega))
      have g3 : w4.cell? ⟨b', o' + i, none⟩ = some (.int .i64 (yrH r f i)) := hc' i hlt
      have d0 := cell_later hb g0
      have d1 := cell_later hb g1
      have d2 := cell_later hb g2
      have d3 := cell_later hb g3
      clear hc g0 g1 g2 g3 hc'
      have b1 := HY.out i hi
      have b2 := HY.out (i + 1) hlt
      have HSN := Lib.hid (yrS_succ r f i)
      rw [yrS_succ] at b2
      have kc := fun w => step_yes none none none 0 0 0 0 0 0 r 0 (yrS r f i).1 (yrS r f i).2 (f i).c (f i).D (f i).b w (HA.out i hlt)
      rw [show stepH r (yrS r f i).1 (f i).c (f i).D (f i).b = yrH r f i from rfl] at kc
      have hsn : ∀ u v : Int, (yrS r f i).1 + yrH r f i = u → (f i).D - (yrS r f i).1 - yrH r f i = v → yrS r f (i + 1) = (u, v) := fun u v hu hv => by rw [yrS_succ, hu, hv]
      have HSV := Lib.hid hsn
      clear HSN hsn
      generalize (f i).c = fc at *
      generalize (f i).D = fD at *
      generalize (f i).b = fb at *
      generalize yrH r f i = x at *
      generalize yrS r f n = sn at *
      generalize yrS r f i = st at *
      obtain ⟨sW, sS⟩ := st
      obtain ⟨nW, nS⟩ := sn
      dsimp only at *
      have HSV2 := Lib.hid (HSV.out _ _ rfl rfl)
      clear HSV
      generalize hu : sW + x = u at *
      generalize hv : fD - sW - x = v at *
      have HU := Lib.hid hu
      clear hu hv
      have Np := below_new wr (.cells #[.int .i64 fc, .int .i64 fD, .bool fb] 25)
      have Qp := bx_new wr [.int .i64 fc, .int .i64 fD, .bool fb] 25
      have P0 := Q0.below Np
      have P1 := Q1.below Np
      have P2 := Q2.below Np
      have e3 := cell_later Np d3
      have Bp := below_step hb Np hb.size
      have x0 := P0.cell (i := 0) rfl
      have x1 := P0.cell (i := 1) rfl
      have x2 := P0.cell (i := 2) rfl
      have x3 := P0.cell (i := 3) rfl
      have x4 := P0.cell (i := 4) rfl
      have s0 := P2.cell (i := 0) rfl
      have s1 := P2.cell (i := 1) rfl
      have p0 := Qp.cell (i := 0) rfl
      have p1 := Qp.cell (i := 1) rfl
      have p2 := Qp.cell (i := 2) rfl
      go_wp2_with (fail)
      generalize wr.alloc (.cells #[.int .i64 fc, .int .i64 fD, .bool fb] 25) = w6 at *
      with_reducible refine (kc _).mono ?_
      rintro e w7 ⟨rfl, hb7⟩
      have N8 := below_new w7 (.cells #[.int .i64 u, .int .i64 v] 23)
      have T8 := bx_new w7 [.int .i64 u, .int .i64 v] 23
      have R0 := (P0.below hb7).below N8
      have R1 := (P1.below hb7).below N8
      have R2 := (P2.below hb7).below N8
      have e4 := cell_later N8 (cell_later hb7 e3)
      have B7 := below_step (below_step Bp hb7 Bp.size) N8 (below_step Bp hb7 Bp.size).size
      have y0 := T8.cell (i := 0) rfl
      have y1 := T8.cell (i := 1) rfl
      have z0 := R2.cell (i := 0) rfl
      have z1 := R2.cell (i := 1) rfl
      have z2 := R2.fr 0
      have z3 := R2.fr 1
      have hne : w7.heap.size ≠ w2.heap.size + 1 := by have := Q2.lt; have := hb7.size; have := Np.size; omega
      clear d0 d1 d2 d3 x0 x1 x2 x3 x4 s0 s1 p0 p1 p2 P0 P1 P2 Qp Np Bp e3 Q0 Q1 Q2 hb kc hb7 N8
      go_wp2
      generalize w7.alloc (.cells #[.int .i64 u, .int .i64 v] 23) = w9 at *
      have Z := (R2.set 0 (.int .i64 u)).set 1 (.int .i64 v)
      have Z0 := (R0.other (q := w2.heap.size + 1) (by omega) 0 (.int .i64 u)).other (q := w2.heap.size + 1) (by omega) 1 (.int .i64 v)
      have Z1 := (R1.other (q := w2.heap.size + 1) (by omega) 0 (.int .i64 u)).other (q := w2.heap.size + 1) (by omega) 1 (.int .i64 v)
      have ZB := (B7.setCell (p := ⟨w2.heap.size + 1, 0, none⟩) (by rw [hs4]; exact Nat.le_refl _) (.int .i64 u)).setCell (p := ⟨w2.heap.size + 1, 1, none⟩) (by rw [hs4]; exact Nat.le_refl _) (.int .i64 v)
      refine ⟨⟨i + 1, hlt, by go_num, by rw [HU.out, HSV2.out]; exact congrArg _ (IntWalk.wrap64_in _ (by omega)), ⟨Z0, Z1, by rw [HSV2.out]; exact Z⟩, ZB⟩, ?_⟩
      simp [intOf]; omega
    · obtain rfl : i = n := by omega
      have b1 := HY.out i hi
      have hdu := fun m (h : i = m + 1) => show (yrS r f i).1 + (yrS r f i).2 = (f m).D by rw [h]; exact HD.out m
      have BX := below_step B4 hb B4.size
      have h6 := h4.below hb
      clear hrow4 L4 N5 HA HD HY hb Q0 h4
      generalize yrS r f i = st at *
      obtain ⟨sW, sS⟩ := st
      dsimp only at *
      have s0 := Q1.cell (i := 0) rfl
      have s1 := Q1.cell (i := 1) rfl
      have z0 := Q2.cell (i := 0) rfl
      have z1 := Q2.cell (i := 1) rfl
      by_cases hn0 : i = 0
      · subst hn0
        clear hdu h6
        have hq : ∀ W0, (binOp .neq 23 (.agg #[.int .i64 sW, .int .i64 sS]) (.agg #[.int .i64 sW, .int .i64 sS])).run Try.prog W0 = .ok (.bool false) W0 := fun W0 => by simp [go_sem]
        go_wp2_with (fail)
        go_quiet (fail)
        go_wp2
        go_ret
        exact ⟨rfl, below_drewN BX _⟩
      · obtain ⟨m, rfl⟩ : ∃ m, i = m + 1 := ⟨i - 1, by omega⟩
        have hd := hdu m rfl
        obtain ⟨b, o, rfl, hc⟩ := h6 (by omega)
        obtain ⟨_, d1, _⟩ := hc m (by omega)
        have du := fun w => due_any sW sS w (by omega) (by omega)
        rw [hd] at du
        clear hdu hc h6 hd
        generalize (f m).D = fD at *
        have e1 : IntKind.i64.wrap (((m + 1 : Nat) : Int) - 1) = (m : Int) := by rw [IntWalk.i64_in _ (by omega)]; omega
        have e2 : (m : Int) < ((m + 1 : Nat) : Int) := by omega
        have e3 : (((m + 1 : Nat) : Int) == 0) = false := by simp; omega
        have e4 : (0 : Int) ≤ (m : Int) := by omega
        have e5 : ((m : Int) + 1 == 0) = false := by simp; omega
        have e6 : IntKind.i64.wrap ((m : Int) + 1 - 1) = (m : Int) := by rw [IntWalk.i64_in _ (by omega)]; omega
        have e7 : IntKind.i64.wrap (m : Int) = (m : Int) := IntWalk.i64_in _ (by omega)
        have e8 : (m : Int) < (m : Int) + 1 := by omega
        have e9 : ¬ ((m : Int) + 1 = 0) := by omega
        have g0 := fun d os => cell_regrown s0 d os
        have g1 := fun d os => cell_regrown s1 d os
        have g2 := fun d os => cell_regrown d1 d os
        have cX : ∀ dd os, Calls Try.prog 11 #[.agg #[.int .i64 sW, .int .i64 sS]] (grow (redrawn wr dd) os) fun e w'' => e = .returned (.int .i64 fD) ∧ ∃ p : Regrown, w'' = grow (redrawn wr p.d) p.os := fun dd os => Calls.regrown_of (du _)
        go_wp2_with (fail)
        refine wp_region_quiet_below mixedAll (by kernel_rfl) ?_
        repeat (quiet_step (exact cX _ _))
        refine wpQuiet_nil ?_
        intro _ hw'
        obtain ⟨⟨dq, osq⟩, hw''⟩ := hw'
        subst hw''
        have B7 := below_step BX (below_regrown wr dq osq) BX.size
        clear s0 s1 z0 z1 d1 g0 g1 g2 cX du
        go_wp2
        go_ret
        exact ⟨rfl, B7⟩
end Go.Proofs.Ytgekojbmlppmdaa
