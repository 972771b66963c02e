/- What Steepest and Same answer of functions. -/
import Derived.Test.YtcldknmhmbpboaaPcY
namespace Go.Proofs.Ytcldknmhmbpboaa
open Go.RowKit Go.Sort
set_option linter.unusedVariables false
set_option linter.unusedSimpArgs false
namespace Lf
def stM (f : Lf) : Nat → Int
  | 0 => -40000
  | k + 1 => if f.F k < f.lst k then max (f.stM k) (f.R k) else f.stM k
def stL (f : Lf) : Nat → Int
  | 0 => 40000
  | k + 1 => if f.F k < f.lst k then min (f.stL k) (f.R k) else f.stL k
theorem st_bd (f : Lf) : ∀ k i, i < k → f.F i < f.lst i → f.R i ≤ f.stM k ∧ f.stL k ≤ f.R i
  | 0, i, hi, _ => absurd hi (Nat.not_lt_zero i)
  | k + 1, i, hi, h => by
    have eM : f.stM (k + 1) = if f.F k < f.lst k then max (f.stM k) (f.R k) else f.stM k := rfl
    have eL : f.stL (k + 1) = if f.F k < f.lst k then min (f.stL k) (f.R k) else f.stL k := rfl
    rw [eM, eL]
    by_cases e : i = k
    · subst e
      rw [if_pos h, if_pos h]; omega
    · have := st_bd f k i (by omega) h
      split <;> omega
/-- does one of the first k have the greatest rate? -/
def smB (f : Lf) (m : Int) : Nat → Bool
  | 0 => false
  | k + 1 => if f.F k < f.lst k then (smB f m k || decide (f.R k = m)) else smB f m k
theorem st_some {f : Lf} (hr : ∀ i, i < f.n → -40000 ≤ f.R i) : ∀ k, k ≤ f.n → (f.stM k = -40000 ∧ ∀ i, i < k → ¬ f.F i < f.lst i) ∨ f.smB (f.stM k) k = true ∧ ∃ i, i < k ∧ f.F i < f.lst i ∧ f.R i = f.stM k
  | 0, _ => .inl ⟨rfl, fun i hi => absurd hi (Nat.not_lt_zero i)⟩
  | k + 1, hk => by
    have ih := st_some hr k (by omega)
    have r := hr k (by omega)
    have eM : f.stM (k + 1) = if f.F k < f.lst k then max (f.stM k) (f.R k) else f.stM k := rfl
    have eB : ∀ m, f.smB m (k + 1) = if f.F k < f.lst k then (f.smB m k || decide (f.R k = m)) else f.smB m k := fun _ => rfl
    by_cases h : f.F k < f.lst k
    · rw [if_pos h] at eM
      right
      by_cases h2 : f.stM k ≤ f.R k
      · have e : f.stM (k + 1) = f.R k := by omega
        refine ⟨?_, k, by omega, h, e.symm⟩
        rw [eB, if_pos h, e]; simp
      · have e : f.stM (k + 1) = f.stM k := by omega
        rcases ih with ⟨a, _⟩ | ⟨a, i, hi, b, c⟩
        · omega
        · refine ⟨?_, i, by omega, b, by omega⟩
          rw [eB, if_pos h, e, a]; rfl
    · rw [if_neg h] at eM
      rcases ih with ⟨a, b⟩ | ⟨a, i, hi, b, c⟩
      · refine .inl ⟨by omega, fun i hi => ?_⟩
        by_cases e : i = k
        · subst e; exact h
        · exact b i (by omega)
      · refine .inr ⟨?_, i, by omega, b, by omega⟩
        rw [eB, if_neg h, eM]; exact a
theorem st_all {f : Lf} (hf : f.OK) : f.smB (f.stM f.n) f.n = true := by
  rcases st_some (fun i hi => (hf.rb i hi).1) f.n (Nat.le_refl _) with ⟨_, h⟩ | ⟨h, _⟩
  · exfalso
    have key : ∀ i, i < f.n → f.F i = (i : Int) := fun i hi => by
      induction i with
      | zero => exact hf.f0
      | succ i ih =>
        have a := ih (by omega)
        have b := h i (by omega)
        have c := hf.toOrd.lst_bd (i := i) (by omega)
        rw [lst_in (by omega)] at b c
        omega
    have n1 := hf.n1
    have n2 := hf.n2
    have a := key (f.n - 1) (by omega)
    have b := h (f.n - 1) (by omega)
    rw [lst_out (by omega)] at b
    omega
  · exact h
end Lf
set_option maxHeartbeats 4000000 in
set_option maxRecDepth 100000 in
theorem steepest_ok (A : Option Addr) (c : Nat) (f : Lf) (w : World) (h : Lm w A f) (hf : f.chk = 0) :
    Calls Try.prog 23 #[.slice A f.n c] w fun e w' => e = .returned (.tuple #[.int .i64 (f.stM f.n), .int .i64 (f.stL f.n)]) ∧ Below w.heap.size w w' := by
  have HOK := Lib.hid (Lf.chk_zero hf)
  have hn2 := HOK.out.n2
  have cC := check_any A c f w h (by omega)
  rw [hf] at cC
  have H := Lib.hid h
  clear hf h
  go_enter Try.func23, Try.ntmps23
  go_wp2_with (fail)
  refine cC.mono ?_
  rintro e w1 ⟨rfl, hb1⟩
  go_wp2
  go_loopw [4, 5, 13] (fun s4 s5 k W => ∃ i : Nat, i ≤ f.n ∧ s4 = .int .i64 (f.stM i) ∧ s5 = .int .i64 (f.stL i) ∧ k = .int .i64 i ∧ Below w.heap.size w W) (fun _ _ k _ => f.n - (intOf k).toNat)
  case atStart => exact ⟨0, Nat.zero_le _, rfl, rfl, rfl, hb1⟩
  case round =>
    clear hb1 cC
    obtain ⟨i, hi, rfl, rfl, rfl, hb⟩ := hrel
    by_cases hlt : i < f.n
    · have HL0 := H.out.below hb
      obtain ⟨b, o, rfl, c0, c1, c2⟩ := lm_at HL0 hlt
      have KX := bx_new wr [.int .i64 (f.F i), .int .i64 (f.V i), .int .i64 (f.R i)] 37
      have NX' := below_new wr (.cells #[.int .i64 (f.F i), .int .i64 (f.V i), .int .i64 (f.R i)] 37)
      have HL := Lib.hid (HL0.below NX')
      have NX := below_step hb NX' hb.size
      have eM : f.stM (i + 1) = if f.F i < f.lst i then max (f.stM i) (f.R i) else f.stM i := rfl
      have eL : f.stL (i + 1) = if f.F i < f.lst i then min (f.stL i) (f.R i) else f.stL i := rfl
      clear HL0 hb NX'
      by_cases hw : f.F i < f.lst i
      · have d2 : decide (f.F i < f.lst i) = true := decide_eq_true hw
        rw [if_pos hw] at eM eL
        have HE := Lib.hid (And.intro eM eL)
        clear eM eL hw
        go_wp2
        generalize wr.alloc (.cells #[.int .i64 (f.F i), .int .i64 (f.V i), .int .i64 (f.R i)] 37) = wk at *
        have kx_0 := fun d os => cell_regrown (KX.cell (i := 0) rfl) d os
        have cL := fun (d : Nat) (os : Array Obj) => Calls.regrown_of (d := d) (os := os) (w := wk) (last_any _ c f i _ (HL.out.below (below_regrown wk d os)) hlt (by omega) HOK.out.fb)
        refine wp_region_quiet_below mixedP (by kernel_rfl) ?_
        iterate 4 (go_big_quiet_step (fail))
        go_big_quiet_step (exact cL _ _)
        repeat (go_big_quiet_step (fail))
        refine wpQuiet_nil ?_
        intro _ hw'
        obtain ⟨⟨dq, osq⟩, hw''⟩ := hw'
        subst hw''
        have BX := below_regrown wk dq osq
        have KZ := KX.below BX
        have BZ := below_step NX BX NX.size
        clear kx_0 KX NX BX cL
        generalize grow (redrawn wk dq) osq = WZ at *
        have z_0 := KZ.cell (i := 0) rfl
        have z_1 := KZ.cell (i := 1) rfl
        have z_2 := KZ.cell (i := 2) rfl
        generalize f.stM i = m1 at *
        generalize f.stL i = m2 at *
        go_wp2
        go_quiet (fail)
        have B9 := below_drewN BZ nq
        clear z_0 z_1 z_2 KZ BZ
        go_wp2
        go_round
        case rel => exact ⟨i + 1, Nat.succ_le_of_lt hlt, by rw [HE.out.1], by rw [HE.out.2], by go_num, B9⟩
        case measure => exact meas_step hlt
      · have d2 : decide (f.F i < f.lst i) = false := decide_eq_false hw
        rw [if_neg hw] at eM eL
        have HE := Lib.hid (And.intro eM eL)
        clear eM eL hw
        go_wp2
        generalize wr.alloc (.cells #[.int .i64 (f.F i), .int .i64 (f.V i), .int .i64 (f.R i)] 37) = wk at *
        have kx_0 := fun d os => cell_regrown (KX.cell (i := 0) rfl) d os
        have cL := fun (d : Nat) (os : Array Obj) => Calls.regrown_of (d := d) (os := os) (w := wk) (last_any _ c f i _ (HL.out.below (below_regrown wk d os)) hlt (by omega) HOK.out.fb)
        refine wp_region_quiet_below mixedP (by kernel_rfl) ?_
        iterate 4 (go_big_quiet_step (fail))
        go_big_quiet_step (exact cL _ _)
        repeat (go_big_quiet_step (fail))
        refine wpQuiet_nil ?_
        intro _ hw'
        obtain ⟨⟨dq, osq⟩, hw''⟩ := hw'
        subst hw''
        have BX := below_regrown wk dq osq
        have KZ := KX.below BX
        have BZ := below_step NX BX NX.size
        clear kx_0 KX NX BX cL
        generalize grow (redrawn wk dq) osq = WZ at *
        clear KZ
        go_wp2
        go_round
        case rel => exact ⟨i + 1, Nat.succ_le_of_lt hlt, by rw [HE.out.1], by rw [HE.out.2], by go_num, BZ⟩
        case measure => exact meas_step hlt
    · obtain rfl : i = f.n := by omega
      go_wp2
      go_ret2
      exact ⟨rfl, hb⟩
set_option maxHeartbeats 4000000 in
set_option maxRecDepth 100000 in
theorem same_ok (A B : Option Addr) (c d : Nat) (f g : Lf) (w : World) (h : Lm w A f) (h2 : Lm w B g) (hf : f.chk = 0) (hg : g.chk = 0) (hv : ∀ x, 0 ≤ x → x ≤ 10000000000 → f.val x = g.val x) :
    Calls Try.prog 24 #[.slice A f.n c, .slice B g.n d] w fun e w' => e = .returned (.bool true) ∧ Below w.heap.size w w' := by
  have kf := Lf.chk_zero hf
  have kg := Lf.chk_zero hg
  have cB := both_any A B c d f g w h h2 (by have := kf.n2; omega) (by have := kg.n2; omega)
  rw [show botE f g = 0 by unfold botE; rw [if_pos hf, hg]] at cB
  have HF := Lib.hid (And.intro kf kg)
  have HV := Lib.hid hv
  have HLM := Lib.hid (And.intro h h2)
  clear hf hg kf kg h h2 hv
  go_enter Try.func24, Try.ntmps24
  go_wp2_with (fail)
  refine cB.mono ?_
  rintro e w1 ⟨rfl, hb1⟩
  go_wp2_with (fail)
  refine (stretches_any A B c d f g w1 (HLM.out.1.below hb1) (HLM.out.2.below hb1) HF.out.1 HF.out.2).mono ?_
  rintro e w2 ⟨SA, m, sc, rfl, hS, hcut, hend, hmn, hb2⟩
  have B2 := below_step hb1 hb2 hb1.size
  have HCU := Lib.hid hcut
  have HB2 := Lib.hid B2
  have HSR := Lib.hid hS
  have hself := Below.refl w2.heap.size w2
  have hmb : m ≤ 1000 := by have := HF.out.1.n2; have := HF.out.2.n2; omega
  clear hcut hend hmn hb1 hb2 B2 hS cB
  go_wp2
  go_loopw [15] (fun s15 W => ∃ k : Nat, k ≤ m ∧ s15 = .int .i64 (k : Nat) ∧ Below w2.heap.size w2 W) (fun s15 _ => m - (intOf s15).toNat)
  case atStart => exact ⟨0, Nat.zero_le _, rfl, hself⟩
  case round =>
    clear hself
    obtain ⟨k, hk, rfl, hb⟩ := hrel
    by_cases hlt : k < m
    · obtain ⟨A', c', he, _, hg⟩ := own_len HSR.out
      obtain ⟨g0, rfl⟩ := hg (by omega)
      obtain ⟨rfl, _, rfl⟩ := Value.slice.inj he
      clear he hg
      obtain ⟨x0, x1, x2, x3, x4, x5, x6, x7⟩ := st_row HSR.out hlt hb
      have hcT := HCU.out k hlt
      have hcb := Lf.cut_bd HF.out.1.toOrd HF.out.2.toOrd (k := k) fun j hj => HCU.out j (by omega)
      obtain ⟨e1, e2, e3, e4⟩ := Lf.ce_bd HF.out.1.toOrd HF.out.2.toOrd hcb.1 hcT
      have r1 := HF.out.1.rb _ (HF.out.1.toOrd.idx_bd hcb.1 hcT).1
      have r2 := HF.out.2.rb _ (HF.out.2.toOrd.idx_bd hcb.1 hcT).1
      have v1 := HF.out.1.val_bd hcb.1 hcT
      have v2 := HF.out.2.val_bd hcb.1 hcT
      have o1 := (HF.out.1.toOrd.over hcb.1 hcT e1 e3).2
      have o2 := (HF.out.2.toOrd.over hcb.1 hcT e1 e4).2
      have hcs : Lf.cut f g (k + 1) - 1 = Lf.ce f g (Lf.cut f g k) := by rw [Lf.cut_succ]; omega
      rw [hcs] at x1
      have q1 := HV.out _ hcb.1 hcT
      have q2 := HV.out _ (show 0 ≤ Lf.ce f g (Lf.cut f g k) by omega) e2
      have p1 := Lf.prod_bd (d := Lf.ce f g (Lf.cut f g k) - Lf.cut f g k) (r := f.R (f.idx (Lf.cut f g k))) (by omega) (by omega) (by omega) (by omega)
      have p2 := Lf.prod_bd (d := Lf.ce f g (Lf.cut f g k) - Lf.cut f g k) (r := g.R (g.idx (Lf.cut f g k))) (by omega) (by omega) (by omega) (by omega)
      have KX := bx_new wr [.int .i64 (Lf.cut f g k), .int .i64 (Lf.ce f g (Lf.cut f g k)), .int .i64 (Lf.cut f g k), .int .i64 (f.val (Lf.cut f g k)), .int .i64 (f.R (f.idx (Lf.cut f g k))), .int .i64 (Lf.cut f g k), .int .i64 (g.val (Lf.cut f g k)), .int .i64 (g.R (g.idx (Lf.cut f g k)))] 60
      have NX' := below_new wr (.cells #[.int .i64 (Lf.cut f g k), .int .i64 (Lf.ce f g (Lf.cut f g k)), .int .i64 (Lf.cut f g k), .int .i64 (f.val (Lf.cut f g k)), .int .i64 (f.R (f.idx (Lf.cut f g k))), .int .i64 (Lf.cut f g k), .int .i64 (g.val (Lf.cut f g k)), .int .i64 (g.R (g.idx (Lf.cut f g k)))] 60)
      have NX := below_step hb NX' hb.size
      have cA := fun W => lat_any (Lf.cut f g k) (f.val (Lf.cut f g k)) (f.R (f.idx (Lf.cut f g k))) (Lf.ce f g (Lf.cut f g k)) W (by omega) (by omega) (by omega)
      have cD := fun W => lat_any (Lf.cut f g k) (g.val (Lf.cut f g k)) (g.R (g.idx (Lf.cut f g k))) (Lf.ce f g (Lf.cut f g k)) W (by omega) (by omega) (by omega)
      rw [← o1] at cA
      rw [← o2, ← q2] at cD
      rw [← q1] at x6 KX cD NX
      have t1 : (f.val (Lf.cut f g k) != f.val (Lf.cut f g k)) = false := by simp
      have t2 : (f.val (Lf.ce f g (Lf.cut f g k)) != f.val (Lf.ce f g (Lf.cut f g k))) = false := by simp
      clear hcT hcb e1 e2 e3 e4 r1 r2 v1 v2 o1 o2 hcs q1 q2 p1 p2 NX' hb
      generalize f.val (Lf.ce f g (Lf.cut f g k)) = ye at *
      generalize f.val (Lf.cut f g k) = ya at *
      generalize f.R (f.idx (Lf.cut f g k)) = ra at *
      generalize g.R (g.idx (Lf.cut f g k)) = rb at *
      generalize Lf.ce f g (Lf.cut f g k) = ec at *
      generalize Lf.cut f g k = ca at *
      go_wp2
      generalize wr.alloc (.cells #[.int .i64 ca, .int .i64 ec, .int .i64 ca, .int .i64 ya, .int .i64 ra, .int .i64 ca, .int .i64 ya, .int .i64 rb] 60) = wk at *
      have z1 := fun d os => cell_regrown (KX.cell (i := 1) rfl) d os
      have z2 := fun d os => cell_regrown (KX.cell (i := 2) rfl) d os
      have z3 := fun d os => cell_regrown (KX.cell (i := 3) rfl) d os
      have z4 := fun d os => cell_regrown (KX.cell (i := 4) rfl) d os
      have z5 := fun d os => cell_regrown (KX.cell (i := 5) rfl) d os
      have z6 := fun d os => cell_regrown (KX.cell (i := 6) rfl) d os
      have z7 := fun d os => cell_regrown (KX.cell (i := 7) rfl) d os
      have cR1 := fun (d : Nat) (os : Array Obj) => Calls.regrown_of (d := d) (os := os) (w := wk) (cA _)
      have cR2 := fun (d : Nat) (os : Array Obj) => Calls.regrown_of (d := d) (os := os) (w := wk) (cD _)
      refine wp_region_quiet_below mixedP (by kernel_rfl) ?_
      iterate 12 (go_big_quiet_step (fail))
      go_big_quiet_step (exact cR1 _ _)
      iterate 4 (go_big_quiet_step (fail))
      go_big_quiet_step (exact cR2 _ _)
      repeat (go_big_quiet_step (fail))
      refine wpQuiet_nil ?_
      intro _ hw'
      obtain ⟨⟨dq, osq⟩, hw''⟩ := hw'
      subst hw''
      have BZ := below_step NX (below_regrown wk dq osq) NX.size
      clear z1 z2 z3 z4 z5 z6 z7 cR1 cR2 cA cD KX NX x0 x1 x2 x3 x4 x5 x6 x7
      generalize grow (redrawn wk dq) osq = WZ at *
      go_wp2
      go_round
      case rel => exact ⟨k + 1, Nat.succ_le_of_lt hlt, by go_num, BZ⟩
      case measure => exact meas_step hlt
    · obtain rfl : k = m := by omega
      have B5 := below_step HB2.out hb HB2.out.size
      clear hb
      go_wp2
      go_ret
      exact ⟨rfl, B5⟩
end Go.Proofs.Ytcldknmhmbpboaa
