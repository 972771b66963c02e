/- What year.Check answers. -/
import Derived.Test.YtfnjhalpedccaaaYrA
namespace Go.Proofs.Ytfnjhalpedccaaa
open Go.RowKit Go.Sort
set_option linter.unusedVariables false
set_option linter.unusedSimpArgs false

set_option maxRecDepth 100000 in
set_option maxHeartbeats 4000000 in
theorem ycheck_raw (k ca tb so tx sf : Int) (A : Option Addr) (n c : Nat) (net : Int) (T : Option Addr) (m d : Nat) (pay : Int) (X Y : Nat → Int) (f : Nat → Tkn) (N : Int) (w : World) (hS : Shs w A n X Y) (hT : Tks w T m f) (hn : n ≤ 1000000) (hm : m ≤ 1000000) (v : Int) (hv : (⟨k, ca, tb, so, tx, sf, A, n, c, net, T, m, d, pay, X, Y, f⟩ : Slp).chk N = v) :
    Calls Try.prog 40 #[.agg #[.int .i64 k, .int .i64 ca, .int .i64 tb, .int .i64 so, .int .i64 tx, .int .i64 sf, .slice A n c, .int .i64 net, .slice T m d, .int .i64 pay], .int .i64 N] w fun e w' => e = .returned (.int .i64 v) ∧ Below w.heap.size w w' := by
  unfold Slp.chk Slp.amB at hv
  simp only at hv
  have K0 : Bx (w.alloc (.cells #[.int .i64 k, .int .i64 ca, .int .i64 tb, .int .i64 so, .int .i64 tx, .int .i64 sf, .slice A n c, .int .i64 net, .slice T m d, .int .i64 pay] 37)) (w.heap.size) 37 [.int .i64 k, .int .i64 ca, .int .i64 tb, .int .i64 so, .int .i64 tx, .int .i64 sf, .slice A n c, .int .i64 net, .slice T m d, .int .i64 pay] := bx_new w [.int .i64 k, .int .i64 ca, .int .i64 tb, .int .i64 so, .int .i64 tx, .int .i64 sf, .slice A n c, .int .i64 net, .slice T m d, .int .i64 pay] 37
  have B : Below w.heap.size w (w.alloc (.cells #[.int .i64 k, .int .i64 ca, .int .i64 tb, .int .i64 so, .int .i64 tx, .int .i64 sf, .slice A n c, .int .i64 net, .slice T m d, .int .i64 pay] 37)) := ((Below.refl _ _).alloc (Nat.le_refl _) _)
  have k0_0 := K0.cell (i := 0) rfl
  have k0_1 := K0.cell (i := 1) rfl
  have k0_2 := K0.cell (i := 2) rfl
  have k0_3 := K0.cell (i := 3) rfl
  have k0_4 := K0.cell (i := 4) rfl
  have k0_5 := K0.cell (i := 5) rfl
  have k0_6 := K0.cell (i := 6) rfl
  have k0_7 := K0.cell (i := 7) rfl
  have k0_8 := K0.cell (i := 8) rfl
  have k0_9 := K0.cell (i := 9) rfl
  replace hS := hS.below (below_new w (.cells #[.int .i64 k, .int .i64 ca, .int .i64 tb, .int .i64 so, .int .i64 tx, .int .i64 sf, .slice A n c, .int .i64 net, .slice T m d, .int .i64 pay] 37))
  replace hT := hT.below (below_new w (.cells #[.int .i64 k, .int .i64 ca, .int .i64 tb, .int .i64 so, .int .i64 tx, .int .i64 sf, .slice A n c, .int .i64 net, .slice T m d, .int .i64 pay] 37))
  by_cases b1 : k < 1
  · have HR : Hid (v = 1) := Lib.hid (hv.symm.trans (if_pos (.inl b1)))
    clear hv hS hT
    go_enter Try.func40, Try.ntmps40
    go_wp2
    go_ret
    exact ⟨ret_i HR.out.symm, B⟩
  by_cases b2 : 53 < k
  · have HR : Hid (v = 1) := Lib.hid (hv.symm.trans (if_pos (.inr b2)))
    clear hv hS hT
    go_enter Try.func40, Try.ntmps40
    go_wp2
    go_ret
    exact ⟨ret_i HR.out.symm, B⟩
  rw [if_neg (show ¬ (k < 1 ∨ 53 < k) by omega)] at hv
  by_cases b3 : (n : Int) = N
  rotate_left
  · have HR : Hid (v = 3) := Lib.hid (hv.symm.trans (if_pos b3))
    have t3 : ((n : Int) != N) = true := by simp [b3]
    clear hv hS hT
    go_enter Try.func40, Try.ntmps40
    go_wp2
    go_ret
    exact ⟨ret_i HR.out.symm, B⟩
  rw [if_neg (by rw [b3]; simp)] at hv
  have t3 : ((n : Int) != N) = false := by simp [b3]
  clear b3
  have cE := fun r hr => employee_any A n c _ X Y hS (by omega) r hr
  have hTT := okT_amt (X := X) (Y := Y) (k := n)
  clear hS
  cases q1 : okT X Y n
  · have HR : Hid (v = 10) := Lib.hid (hv.symm.trans (if_pos q1))
    replace cE := cE false q1
    simp only [if_neg Bool.false_ne_true] at cE
    clear hv hT hTT
    go_enter Try.func40, Try.ntmps40
    go_wp2_with (fail)
    with_reducible refine (cE).mono ?_
    rintro e w1 ⟨rfl, hb⟩
    clear k0_0 k0_1 k0_2 k0_3 k0_4 k0_5 k0_6 k0_7 k0_8 k0_9
    replace K0 := K0.below hb
    replace B := below_step B hb B.size
    clear hb
    have k0_0 := K0.cell (i := 0) rfl
    have k0_1 := K0.cell (i := 1) rfl
    have k0_2 := K0.cell (i := 2) rfl
    have k0_3 := K0.cell (i := 3) rfl
    have k0_4 := K0.cell (i := 4) rfl
    have k0_5 := K0.cell (i := 5) rfl
    have k0_6 := K0.cell (i := 6) rfl
    have k0_7 := K0.cell (i := 7) rfl
    have k0_8 := K0.cell (i := 8) rfl
    have k0_9 := K0.cell (i := 9) rfl
    go_wp2
    go_ret
    exact ⟨ret_i HR.out.symm, B⟩
  rw [if_neg (by rw [q1]; decide)] at hv
  replace cE := cE true q1
  simp only [if_true] at cE
  have side_bd := amtB_yes (hTT q1).1
  clear hTT
  generalize tsm X n = side at *
  go_enter Try.func40, Try.ntmps40
  go_wp2_with (fail)
  with_reducible refine (cE).mono ?_
  rintro e w1 ⟨rfl, hb⟩
  clear k0_0 k0_1 k0_2 k0_3 k0_4 k0_5 k0_6 k0_7 k0_8 k0_9
  replace K0 := K0.below hb
  replace hT := hT.below hb
  replace B := below_step B hb B.size
  clear hb
  have k0_0 := K0.cell (i := 0) rfl
  have k0_1 := K0.cell (i := 1) rfl
  have k0_2 := K0.cell (i := 2) rfl
  have k0_3 := K0.cell (i := 3) rfl
  have k0_4 := K0.cell (i := 4) rfl
  have k0_5 := K0.cell (i := 5) rfl
  have k0_6 := K0.cell (i := 6) rfl
  have k0_7 := K0.cell (i := 7) rfl
  have k0_8 := K0.cell (i := 8) rfl
  have k0_9 := K0.cell (i := 9) rfl
  have cB := fun w r hr => baseright_any ca tb so w r hr
  cases q2 : (amtB ca && amtB tb && amtB so)
  · have HR : Hid (v = 10) := Lib.hid (hv.symm.trans (if_pos (by rw [q2]; rfl)))
    replace cB := fun w => cB w false q2
    clear hv hT
    go_wp2_with (fail)
    with_reducible refine (cB _).mono ?_
    rintro e w2 ⟨rfl, hb⟩
    clear k0_0 k0_1 k0_2 k0_3 k0_4 k0_5 k0_6 k0_7 k0_8 k0_9
    replace K0 := K0.below hb
    replace B := below_step B hb B.size
    clear hb
    have k0_0 := K0.cell (i := 0) rfl
    have k0_1 := K0.cell (i := 1) rfl
    have k0_2 := K0.cell (i := 2) rfl
    have k0_3 := K0.cell (i := 3) rfl
    have k0_4 := K0.cell (i := 4) rfl
    have k0_5 := K0.cell (i := 5) rfl
    have k0_6 := K0.cell (i := 6) rfl
    have k0_7 := K0.cell (i := 7) rfl
    have k0_8 := K0.cell (i := 8) rfl
    have k0_9 := K0.cell (i := 9) rfl
    go_wp2
    go_ret
    exact ⟨ret_i HR.out.symm, B⟩
  replace cB := fun w => cB w true q2
  go_wp2_with (fail)
  with_reducible refine (cB _).mono ?_
  rintro e w2 ⟨rfl, hb⟩
  clear k0_0 k0_1 k0_2 k0_3 k0_4 k0_5 k0_6 k0_7 k0_8 k0_9
  replace K0 := K0.below hb
  replace hT := hT.below hb
  replace B := below_step B hb B.size
  clear hb
  have k0_0 := K0.cell (i := 0) rfl
  have k0_1 := K0.cell (i := 1) rfl
  have k0_2 := K0.cell (i := 2) rfl
  have k0_3 := K0.cell (i := 3) rfl
  have k0_4 := K0.cell (i := 4) rfl
  have k0_5 := K0.cell (i := 5) rfl
  have k0_6 := K0.cell (i := 6) rfl
  have k0_7 := K0.cell (i := 7) rfl
  have k0_8 := K0.cell (i := 8) rfl
  have k0_9 := K0.cell (i := 9) rfl
  clear cB
  have NB4 := below_new w2 (.cells #[.int .i64 tx, .int .i64 sf, .int .i64 net, .int .i64 pay] 2)
  have cR := fun r hr => right4 tx sf net pay w2 2 r hr w2.heap.size rfl
  cases q3 : (amtB tx && amtB sf && amtB net && amtB pay)
  · have HR : Hid (v = 10) := Lib.hid (hv.symm.trans (if_pos (by rw [q2, q3]; rfl)))
    replace cR := cR false q3
    have BX := below_step B NB4 B.size
    clear hv hT
    go_wp2_with (fail)
    with_reducible refine cR.mono ?_
    rintro e w3 ⟨rfl, rfl⟩
    go_wp2
    go_ret
    exact ⟨ret_i HR.out.symm, BX⟩
  rw [if_neg (by rw [q2, q3]; decide)] at hv
  replace cR := cR true q3
  go_wp2_with (fail)
  with_reducible refine cR.mono ?_
  rintro e w3 ⟨rfl, rfl⟩
  clear cR
  clear k0_0 k0_1 k0_2 k0_3 k0_4 k0_5 k0_6 k0_7 k0_8 k0_9
  replace K0 := K0.below NB4
  replace hT := hT.below NB4
  replace B := below_step B NB4 B.size
  clear NB4
  have k0_0 := K0.cell (i := 0) rfl
  have k0_1 := K0.cell (i := 1) rfl
  have k0_2 := K0.cell (i := 2) rfl
  have k0_3 := K0.cell (i := 3) rfl
  have k0_4 := K0.cell (i := 4) rfl
  have k0_5 := K0.cell (i := 5) rfl
  have k0_6 := K0.cell (i := 6) rfl
  have k0_7 := K0.cell (i := 7) rfl
  have k0_8 := K0.cell (i := 8) rfl
  have k0_9 := K0.cell (i := 9) rfl
  generalize w2.alloc (.cells #[.int .i64 tx, .int .i64 sf, .int .i64 net, .int .i64 pay] 2) = w3 at *
  simp only [Bool.and_eq_true] at q2 q3
  obtain ⟨⟨a1, a2⟩, a3⟩ := q2
  obtain ⟨⟨⟨a4, a5⟩, a6⟩, a7⟩ := q3
  replace a1 := amtB_yes a1
  replace a4 := amtB_yes a4
  replace a6 := amtB_yes a6
  replace a7 := amtB_yes a7
  have cT := fun r hr u q hu hq => tsum_any T m d f w3 hT (by omega) r hr u q hu hq
  have hTT := okS_amt (f := f) (k := m)
  clear hT a2 a3 a5
  cases q4 : okS f m
  · have HR : Hid (v = 10) := Lib.hid (hv.symm.trans (if_pos q4))
    replace cT := cT false q4 0 10 rfl rfl
    clear hv hTT
    go_wp2_with (fail)
    with_reducible refine (cT).mono ?_
    rintro e w3 ⟨rfl, hb⟩
    clear k0_0 k0_1 k0_2 k0_3 k0_4 k0_5 k0_6 k0_7 k0_8 k0_9
    replace K0 := K0.below hb
    replace B := below_step B hb B.size
    clear hb
    have k0_0 := K0.cell (i := 0) rfl
    have k0_1 := K0.cell (i := 1) rfl
    have k0_2 := K0.cell (i := 2) rfl
    have k0_3 := K0.cell (i := 3) rfl
    have k0_4 := K0.cell (i := 4) rfl
    have k0_5 := K0.cell (i := 5) rfl
    have k0_6 := K0.cell (i := 6) rfl
    have k0_7 := K0.cell (i := 7) rfl
    have k0_8 := K0.cell (i := 8) rfl
    have k0_9 := K0.cell (i := 9) rfl
    go_wp2
    go_ret
    exact ⟨ret_i HR.out.symm, B⟩
  rw [if_neg (by rw [q4]; decide)] at hv
  replace cT := cT true q4 (sumT f m) 0 rfl rfl
  have sum_bd := amtB_yes (hTT q4)
  clear hTT
  generalize sumT f m = sm at *
  go_wp2_with (fail)
  with_reducible refine (cT).mono ?_
  rintro e w3 ⟨rfl, hb⟩
  clear k0_0 k0_1 k0_2 k0_3 k0_4 k0_5 k0_6 k0_7 k0_8 k0_9
  replace K0 := K0.below hb
  replace B := below_step B hb B.size
  clear hb
  have k0_0 := K0.cell (i := 0) rfl
  have k0_1 := K0.cell (i := 1) rfl
  have k0_2 := K0.cell (i := 2) rfl
  have k0_3 := K0.cell (i := 3) rfl
  have k0_4 := K0.cell (i := 4) rfl
  have k0_5 := K0.cell (i := 5) rfl
  have k0_6 := K0.cell (i := 6) rfl
  have k0_7 := K0.cell (i := 7) rfl
  have k0_8 := K0.cell (i := 8) rfl
  have k0_9 := K0.cell (i := 9) rfl
  have w1 : wrap64 (ca - tx) = ca - tx := IntWalk.wrap64_in _ (by omega)
  have w2' : wrap64 (ca - tx - side) = ca - tx - side := IntWalk.wrap64_in _ (by omega)
  have w3' : wrap64 (net - sm) = net - sm := IntWalk.wrap64_in _ (by omega)
  by_cases e1 : net = ca - tx - side
  rotate_left
  · have HR : Hid (v = 5) := Lib.hid (hv.symm.trans (if_neg (fun h => e1 h.1)))
    have t4 : (net != ca - tx - side) = true := by simp [e1]
    clear hv e1 a1 a4 a6 a7 side_bd sum_bd
    go_wp2
    go_ret
    exact ⟨ret_i HR.out.symm, B⟩
  have t4 : (net != ca - tx - side) = false := by simp [e1]
  by_cases e2 : pay = net - sm
  rotate_left
  · have HR : Hid (v = 5) := Lib.hid (hv.symm.trans (if_neg (fun h => e2 h.2)))
    have t5 : (pay != net - sm) = true := by simp [e2]
    clear hv e1 e2 a1 a4 a6 a7 side_bd sum_bd
    go_wp2
    go_ret
    exact ⟨ret_i HR.out.symm, B⟩
  have HR : Hid (v = 0) := Lib.hid (hv.symm.trans (if_pos ⟨e1, e2⟩))
  have t5 : (pay != net - sm) = false := by simp [e2]
  clear hv e1 e2 a1 a4 a6 a7 side_bd sum_bd
  go_wp2
  go_ret
  exact ⟨ret_i HR.out.symm, B⟩
end Go.Proofs.Ytfnjhalpedccaaa
