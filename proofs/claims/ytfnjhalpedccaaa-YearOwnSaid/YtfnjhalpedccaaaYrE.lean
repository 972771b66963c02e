/- What year.with answers: totals with a payslip more. -/
import Derived.Test.YtfnjhalpedccaaaYrE0
import Derived.Deep.RegionHeld3
namespace Go.Proofs.Ytfnjhalpedccaaa
open Go.RowKit Go.Sort
set_option linter.unusedVariables false
set_option linter.unusedSimpArgs false

set_option maxRecDepth 100000 in
set_option maxHeartbeats 8000000 in
theorem with_base (k ca tb so tx sf : Int) (A : Option Addr) (n c : Nat) (net : Int) (T : Option Addr) (m d : Nat) (pay : Int) (X Y : Nat → Int) (f : Nat → Tkn) (ca0 tb0 so0 tx0 sf0 : Int) (A0 : Option Addr) (c0 : Nat) (net0 tk0 pay0 : Int) (X0 Y0 : Nat → Int) (w : World) (h0 : Shs w A0 n X0 Y0) (hS : Shs w A n X Y) (hT : Tks w T m f) (hn : n ≤ 64) (hm : m ≤ 4611686018427387904) (hO : okS f m = true) (sm : Int) (hsm : sumT f m = sm) (u0 u1 u2 : Int) (hB : (eB ca0 ca && eB tb0 tb && eB so0 so) = false) (hu0 : (if false = true then ca0 + ca else 0) = u0) (hu1 : (if false = true then tb0 + tb else 0) = u1) (hu2 : (if false = true then so0 + so else 0) = u2) :
    Calls Try.prog 41 #[.agg #[.int .i64 ca0, .int .i64 tb0, .int .i64 so0, .int .i64 tx0, .int .i64 sf0, .slice A0 n c0, .int .i64 net0, .int .i64 tk0, .int .i64 pay0], .agg #[.int .i64 k, .int .i64 ca, .int .i64 tb, .int .i64 so, .int .i64 tx, .int .i64 sf, .slice A n c, .int .i64 net, .slice T m d, .int .i64 pay]] w fun e w' => e = .returned (.tuple #[.agg #[.int .i64 0, .int .i64 0, .int .i64 0, .int .i64 0, .int .i64 0, .slice none 0 0, .int .i64 0, .int .i64 0, .int .i64 0], .int .i64 10]) ∧ Below w.heap.size w w' := by
  have K0 : Bx (((w.alloc (.cells #[.int .i64 ca0, .int .i64 tb0, .int .i64 so0, .int .i64 tx0, .int .i64 sf0, .slice A0 n c0, .int .i64 net0, .int .i64 tk0, .int .i64 pay0] 34)).alloc (.cells #[.int .i64 k, .int .i64 ca, .int .i64 tb, .int .i64 so, .int .i64 tx, .int .i64 sf, .slice A n c, .int .i64 net, .slice T m d, .int .i64 pay] 37)).alloc (.cells #[.int .i64 0, .int .i64 0, .int .i64 0, .int .i64 0, .int .i64 0, .slice none 0 0, .int .i64 0, .int .i64 0, .int .i64 0] 34)) (w.heap.size) 34 [.int .i64 ca0, .int .i64 tb0, .int .i64 so0, .int .i64 tx0, .int .i64 sf0, .slice A0 n c0, .int .i64 net0, .int .i64 tk0, .int .i64 pay0] := ((bx_new w [.int .i64 ca0, .int .i64 tb0, .int .i64 so0, .int .i64 tx0, .int .i64 sf0, .slice A0 n c0, .int .i64 net0, .int .i64 tk0, .int .i64 pay0] 34).alloc _).alloc _
  have K1 : Bx (((w.alloc (.cells #[.int .i64 ca0, .int .i64 tb0, .int .i64 so0, .int .i64 tx0, .int .i64 sf0, .slice A0 n c0, .int .i64 net0, .int .i64 tk0, .int .i64 pay0] 34)).alloc (.cells #[.int .i64 k, .int .i64 ca, .int .i64 tb, .int .i64 so, .int .i64 tx, .int .i64 sf, .slice A n c, .int .i64 net, .slice T m d, .int .i64 pay] 37)).alloc (.cells #[.int .i64 0, .int .i64 0, .int .i64 0, .int .i64 0, .int .i64 0, .slice none 0 0, .int .i64 0, .int .i64 0, .int .i64 0] 34)) (w.heap.size + 1) 37 [.int .i64 k, .int .i64 ca, .int .i64 tb, .int .i64 so, .int .i64 tx, .int .i64 sf, .slice A n c, .int .i64 net, .slice T m d, .int .i64 pay] := (bx_at _ [.int .i64 k, .int .i64 ca, .int .i64 tb, .int .i64 so, .int .i64 tx, .int .i64 sf, .slice A n c, .int .i64 net, .slice T m d, .int .i64 pay] 37 (by simp)).alloc _
  have K2 : Bx (((w.alloc (.cells #[.int .i64 ca0, .int .i64 tb0, .int .i64 so0, .int .i64 tx0, .int .i64 sf0, .slice A0 n c0, .int .i64 net0, .int .i64 tk0, .int .i64 pay0] 34)).alloc (.cells #[.int .i64 k, .int .i64 ca, .int .i64 tb, .int .i64 so, .int .i64 tx, .int .i64 sf, .slice A n c, .int .i64 net, .slice T m d, .int .i64 pay] 37)).alloc (.cells #[.int .i64 0, .int .i64 0, .int .i64 0, .int .i64 0, .int .i64 0, .slice none 0 0, .int .i64 0, .int .i64 0, .int .i64 0] 34)) (w.heap.size + 1 + 1) 34 [.int .i64 0, .int .i64 0, .int .i64 0, .int .i64 0, .int .i64 0, .slice none 0 0, .int .i64 0, .int .i64 0, .int .i64 0] := bx_at _ [.int .i64 0, .int .i64 0, .int .i64 0, .int .i64 0, .int .i64 0, .slice none 0 0, .int .i64 0, .int .i64 0, .int .i64 0] 34 (by simp)
  have B : Below w.heap.size w (((w.alloc (.cells #[.int .i64 ca0, .int .i64 tb0, .int .i64 so0, .int .i64 tx0, .int .i64 sf0, .slice A0 n c0, .int .i64 net0, .int .i64 tk0, .int .i64 pay0] 34)).alloc (.cells #[.int .i64 k, .int .i64 ca, .int .i64 tb, .int .i64 so, .int .i64 tx, .int .i64 sf, .slice A n c, .int .i64 net, .slice T m d, .int .i64 pay] 37)).alloc (.cells #[.int .i64 0, .int .i64 0, .int .i64 0, .int .i64 0, .int .i64 0, .slice none 0 0, .int .i64 0, .int .i64 0, .int .i64 0] 34)) := ((((Below.refl _ _).alloc (Nat.le_refl _) _).alloc (by simp) _).alloc (by simp; omega) _)
  have k0_0 := K0.cell (i := 0) rfl
  have k0_1 := K0.cell (i := 1) rfl
  have k0_2 := K0.cell (i := 2) rfl
  have k0_3 := K0.cell (i := 3) rfl
  have k0_4 := K0.cell (i := 4) rfl
  have k0_5 := K0.cell (i := 5) rfl
  have k0_6 := K0.cell (i := 6) rfl
  have k0_7 := K0.cell (i := 7) rfl
  have k0_8 := K0.cell (i := 8) rfl
  have k1_0 := K1.cell (i := 0) rfl
  have k1_1 := K1.cell (i := 1) rfl
  have k1_2 := K1.cell (i := 2) rfl
  have k1_3 := K1.cell (i := 3) rfl
  have k1_4 := K1.cell (i := 4) rfl
  have k1_5 := K1.cell (i := 5) rfl
  have k1_6 := K1.cell (i := 6) rfl
  have k1_7 := K1.cell (i := 7) rfl
  have k1_8 := K1.cell (i := 8) rfl
  have k1_9 := K1.cell (i := 9) rfl
  have k2_0 := K2.cell (i := 0) rfl
  have k2_1 := K2.cell (i := 1) rfl
  have k2_2 := K2.cell (i := 2) rfl
  have k2_3 := K2.cell (i := 3) rfl
  have k2_4 := K2.cell (i := 4) rfl
  have k2_5 := K2.cell (i := 5) rfl
  have k2_6 := K2.cell (i := 6) rfl
  have k2_7 := K2.cell (i := 7) rfl
  have k2_8 := K2.cell (i := 8) rfl
  replace h0 := h0.below (show Below w.heap.size w (((w.alloc (.cells #[.int .i64 ca0, .int .i64 tb0, .int .i64 so0, .int .i64 tx0, .int .i64 sf0, .slice A0 n c0, .int .i64 net0, .int .i64 tk0, .int .i64 pay0] 34)).alloc (.cells #[.int .i64 k, .int .i64 ca, .int .i64 tb, .int .i64 so, .int .i64 tx, .int .i64 sf, .slice A n c, .int .i64 net, .slice T m d, .int .i64 pay] 37)).alloc (.cells #[.int .i64 0, .int .i64 0, .int .i64 0, .int .i64 0, .int .i64 0, .slice none 0 0, .int .i64 0, .int .i64 0, .int .i64 0] 34)) from B)
  replace hS := hS.below (show Below w.heap.size w (((w.alloc (.cells #[.int .i64 ca0, .int .i64 tb0, .int .i64 so0, .int .i64 tx0, .int .i64 sf0, .slice A0 n c0, .int .i64 net0, .int .i64 tk0, .int .i64 pay0] 34)).alloc (.cells #[.int .i64 k, .int .i64 ca, .int .i64 tb, .int .i64 so, .int .i64 tx, .int .i64 sf, .slice A n c, .int .i64 net, .slice T m d, .int .i64 pay] 37)).alloc (.cells #[.int .i64 0, .int .i64 0, .int .i64 0, .int .i64 0, .int .i64 0, .slice none 0 0, .int .i64 0, .int .i64 0, .int .i64 0] 34)) from B)
  replace hT := hT.below (show Below w.heap.size w (((w.alloc (.cells #[.int .i64 ca0, .int .i64 tb0, .int .i64 so0, .int .i64 tx0, .int .i64 sf0, .slice A0 n c0, .int .i64 net0, .int .i64 tk0, .int .i64 pay0] 34)).alloc (.cells #[.int .i64 k, .int .i64 ca, .int .i64 tb, .int .i64 so, .int .i64 tx, .int .i64 sf, .slice A n c, .int .i64 net, .slice T m d, .int .i64 pay] 37)).alloc (.cells #[.int .i64 0, .int .i64 0, .int .i64 0, .int .i64 0, .int .i64 0, .slice none 0 0, .int .i64 0, .int .i64 0, .int .i64 0] 34)) from B)
  have cT := fun w h => tsum_any T m d f w h hm true hO sm 0 (by rw [if_pos rfl]; exact hsm) rfl
  have cB := fun w => badd_any ca0 tb0 so0 ca tb so w false hB u0 u1 u2 10 hu0 hu1 hu2 rfl
  clear hB hu0 hu1 hu2 hO hsm
  go_enter Try.func41, Try.ntmps41
  go_wp2_with (fail)
  with_reducible refine (cT _ hT).mono ?_
  clear hT
  rintro e w1 ⟨rfl, hb⟩
  clear k0_0 k0_1 k0_2 k0_3 k0_4 k0_5 k0_6 k0_7 k0_8 k1_0 k1_1 k1_2 k1_3 k1_4 k1_5 k1_6 k1_7 k1_8 k1_9 k2_0 k2_1 k2_2 k2_3 k2_4 k2_5 k2_6 k2_7 k2_8
  replace K0 := K0.below hb
  replace K1 := K1.below hb
  replace K2 := K2.below hb
  replace h0 := h0.below hb
  replace hS := hS.below hb
  replace B := below_step B hb B.size
  clear hb
  have k0_0 := K0.cell (i := 0) rfl
  have k0_1 := K0.cell (i := 1) rfl
  have k0_2 := K0.cell (i := 2) rfl
  have k0_3 := K0.cell (i := 3) rfl
  have k0_4 := K0.cell (i := 4) rfl
  have k0_5 := K0.cell (i := 5) rfl
  have k0_6 := K0.cell (i := 6) rfl
  have k0_7 := K0.cell (i := 7) rfl
  have k0_8 := K0.cell (i := 8) rfl
  have k1_0 := K1.cell (i := 0) rfl
  have k1_1 := K1.cell (i := 1) rfl
  have k1_2 := K1.cell (i := 2) rfl
  have k1_3 := K1.cell (i := 3) rfl
  have k1_4 := K1.cell (i := 4) rfl
  have k1_5 := K1.cell (i := 5) rfl
  have k1_6 := K1.cell (i := 6) rfl
  have k1_7 := K1.cell (i := 7) rfl
  have k1_8 := K1.cell (i := 8) rfl
  have k1_9 := K1.cell (i := 9) rfl
  have k2_0 := K2.cell (i := 0) rfl
  have k2_1 := K2.cell (i := 1) rfl
  have k2_2 := K2.cell (i := 2) rfl
  have k2_3 := K2.cell (i := 3) rfl
  have k2_4 := K2.cell (i := 4) rfl
  have k2_5 := K2.cell (i := 5) rfl
  have k2_6 := K2.cell (i := 6) rfl
  have k2_7 := K2.cell (i := 7) rfl
  have k2_8 := K2.cell (i := 8) rfl
  go_wp2_with (fail)
  with_reducible refine (cB _).mono ?_
  rintro e w2 ⟨rfl, hb⟩
  clear k0_0 k0_1 k0_2 k0_3 k0_4 k0_5 k0_6 k0_7 k0_8 k1_0 k1_1 k1_2 k1_3 k1_4 k1_5 k1_6 k1_7 k1_8 k1_9 k2_0 k2_1 k2_2 k2_3 k2_4 k2_5 k2_6 k2_7 k2_8
  replace K0 := K0.below hb
  replace K1 := K1.below hb
  replace K2 := K2.below hb
  replace h0 := h0.below hb
  replace hS := hS.below hb
  replace B := below_step B hb B.size
  clear hb
  have k0_0 := K0.cell (i := 0) rfl
  have k0_1 := K0.cell (i := 1) rfl
  have k0_2 := K0.cell (i := 2) rfl
  have k0_3 := K0.cell (i := 3) rfl
  have k0_4 := K0.cell (i := 4) rfl
  have k0_5 := K0.cell (i := 5) rfl
  have k0_6 := K0.cell (i := 6) rfl
  have k0_7 := K0.cell (i := 7) rfl
  have k0_8 := K0.cell (i := 8) rfl
  have k1_0 := K1.cell (i := 0) rfl
  have k1_1 := K1.cell (i := 1) rfl
  have k1_2 := K1.cell (i := 2) rfl
  have k1_3 := K1.cell (i := 3) rfl
  have k1_4 := K1.cell (i := 4) rfl
  have k1_5 := K1.cell (i := 5) rfl
  have k1_6 := K1.cell (i := 6) rfl
  have k1_7 := K1.cell (i := 7) rfl
  have k1_8 := K1.cell (i := 8) rfl
  have k1_9 := K1.cell (i := 9) rfl
  have k2_0 := K2.cell (i := 0) rfl
  have k2_1 := K2.cell (i := 1) rfl
  have k2_2 := K2.cell (i := 2) rfl
  have k2_3 := K2.cell (i := 3) rfl
  have k2_4 := K2.cell (i := 4) rfl
  have k2_5 := K2.cell (i := 5) rfl
  have k2_6 := K2.cell (i := 6) rfl
  have k2_7 := K2.cell (i := 7) rfl
  have k2_8 := K2.cell (i := 8) rfl
  clear cB cT
  have NBn := below_new w2 (.cells #[.int .i64 u0, .int .i64 u1, .int .i64 u2] 30)
  have K3 := bx_new w2 [.int .i64 u0, .int .i64 u1, .int .i64 u2] 30
  clear k0_0 k0_1 k0_2 k0_3 k0_4 k0_5 k0_6 k0_7 k0_8 k1_0 k1_1 k1_2 k1_3 k1_4 k1_5 k1_6 k1_7 k1_8 k1_9 k2_0 k2_1 k2_2 k2_3 k2_4 k2_5 k2_6 k2_7 k2_8
  replace K0 := K0.below NBn
  replace K1 := K1.below NBn
  replace K2 := K2.below NBn
  replace h0 := h0.below NBn
  replace hS := hS.below NBn
  replace B := below_step B NBn B.size
  clear NBn
  have k0_0 := K0.cell (i := 0) rfl
  have k0_1 := K0.cell (i := 1) rfl
  have k0_2 := K0.cell (i := 2) rfl
  have k0_3 := K0.cell (i := 3) rfl
  have k0_4 := K0.cell (i := 4) rfl
  have k0_5 := K0.cell (i := 5) rfl
  have k0_6 := K0.cell (i := 6) rfl
  have k0_7 := K0.cell (i := 7) rfl
  have k0_8 := K0.cell (i := 8) rfl
  have k1_0 := K1.cell (i := 0) rfl
  have k1_1 := K1.cell (i := 1) rfl
  have k1_2 := K1.cell (i := 2) rfl
  have k1_3 := K1.cell (i := 3) rfl
  have k1_4 := K1.cell (i := 4) rfl
  have k1_5 := K1.cell (i := 5) rfl
  have k1_6 := K1.cell (i := 6) rfl
  have k1_7 := K1.cell (i := 7) rfl
  have k1_8 := K1.cell (i := 8) rfl
  have k1_9 := K1.cell (i := 9) rfl
  have k2_0 := K2.cell (i := 0) rfl
  have k2_1 := K2.cell (i := 1) rfl
  have k2_2 := K2.cell (i := 2) rfl
  have k2_3 := K2.cell (i := 3) rfl
  have k2_4 := K2.cell (i := 4) rfl
  have k2_5 := K2.cell (i := 5) rfl
  have k2_6 := K2.cell (i := 6) rfl
  have k2_7 := K2.cell (i := 7) rfl
  have k2_8 := K2.cell (i := 8) rfl
  have k3_0 := K3.cell (i := 0) rfl
  have k3_1 := K3.cell (i := 1) rfl
  have k3_2 := K3.cell (i := 2) rfl
  clear k0_0 k0_1 k0_2 k0_3 k0_4 k0_5 k0_6 k0_7 k0_8 K0
  clear k1_0 k1_1 k1_2 k1_3 k1_4 k1_5 k1_6 k1_7 k1_8 k1_9 K1
  clear k3_0 k3_1 k3_2 K3
  have gr_0 := K2.fr 0
  have gr_1 := K2.fr 1
  have gr_2 := K2.fr 2
  have gr_3 := K2.fr 3
  have gr_4 := K2.fr 4
  have gr_5 := K2.fr 5
  have gr_6 := K2.fr 6
  have gr_7 := K2.fr 7
  have gr_8 := K2.fr 8
  have Z := (((((((((K2.set 0 (.int .i64 0)).set 1 (.int .i64 0)).set 2 (.int .i64 0)).set 3 (.int .i64 0)).set 4 (.int .i64 0)).set 5 (.slice none 0 0)).set 6 (.int .i64 0)).set 7 (.int .i64 0)).set 8 (.int .i64 0))
  have z0 := Z.cell (i := 0) rfl
  have z1 := Z.cell (i := 1) rfl
  have z2 := Z.cell (i := 2) rfl
  have z3 := Z.cell (i := 3) rfl
  have z4 := Z.cell (i := 4) rfl
  have z5 := Z.cell (i := 5) rfl
  have z6 := Z.cell (i := 6) rfl
  have z7 := Z.cell (i := 7) rfl
  have z8 := Z.cell (i := 8) rfl
  have hp : w.heap.size ≤ w.heap.size + 1 + 1 := by omega
  clear Z
  go_wp2
  exact bodyPost_ret (v := .tuple #[.agg #[.int .i64 0, .int .i64 0, .int .i64 0, .int .i64 0, .int .i64 0, .slice none 0 0, .int .i64 0, .int .i64 0, .int .i64 0], .int .i64 10]) (by simp [results, Try.results41, go_sem, z0, z1, z2, z3, z4, z5, z6, z7, z8]) rfl ⟨rfl, (((((((((B.setCell (p := ⟨w.heap.size + 1 + 1, 0, none⟩) hp _).setCell (p := ⟨w.heap.size + 1 + 1, 1, none⟩) hp _).setCell (p := ⟨w.heap.size + 1 + 1, 2, none⟩) hp _).setCell (p := ⟨w.heap.size + 1 + 1, 3, none⟩) hp _).setCell (p := ⟨w.heap.size + 1 + 1, 4, none⟩) hp _).setCell (p := ⟨w.heap.size + 1 + 1, 5, none⟩) hp _).setCell (p := ⟨w.heap.size + 1 + 1, 6, none⟩) hp _).setCell (p := ⟨w.heap.size + 1 + 1, 7, none⟩) hp _).setCell (p := ⟨w.heap.size + 1 + 1, 8, none⟩) hp _)⟩
set_option maxRecDepth 100000 in
set_option maxHeartbeats 8000000 in
theorem with_post (k ca tb so tx sf : Int) (A : Option Addr) (n c : Nat) (net : Int) (T : Option Addr) (m d : Nat) (pay : Int) (X Y : Nat → Int) (f : Nat → Tkn) (ca0 tb0 so0 tx0 sf0 : Int) (A0 : Option Addr) (c0 : Nat) (net0 tk0 pay0 : Int) (X0 Y0 : Nat → Int) (w : World) (h0 : Shs w A0 n X0 Y0) (hS : Shs w A n X Y) (hT : Tks w T m f) (hn : n ≤ 64) (hm : m ≤ 4611686018427387904) (hO : okS f m = true) (sm : Int) (hsm : sumT f m = sm) (u0 u1 u2 : Int) (hB : (eB ca0 ca && eB tb0 tb && eB so0 so) = true) (hu0 : (if true = true then ca0 + ca else 0) = u0) (hu1 : (if true = true then tb0 + tb else 0) = u1) (hu2 : (if true = true then so0 + so else 0) = u2) (hr0 : ∀ i, i < n → (amtB (X0 i) && amtB (Y0 i)) = true) (hr1 : ∀ i, i < n → (amtB (X i) && amtB (Y i)) = true) (hP : pstB X0 Y0 X Y n = false) :
    Calls Try.prog 41 #[.agg #[.int .i64 ca0, .int .i64 tb0, .int .i64 so0, .int .i64 tx0, .int .i64 sf0, .slice A0 n c0, .int .i64 net0, .int .i64 tk0, .int .i64 pay0], .agg #[.int .i64 k, .int .i64 ca, .int .i64 tb, .int .i64 so, .int .i64 tx, .int .i64 sf, .slice A n c, .int .i64 net, .slice T m d, .int .i64 pay]] w fun e w' => e = .returned (.tuple #[.agg #[.int .i64 0, .int .i64 0, .int .i64 0, .int .i64 0, .int .i64 0, .slice none 0 0, .int .i64 0, .int .i64 0, .int .i64 0], .int .i64 10]) ∧ Below w.heap.size w w' := by
  have K0 : Bx (((w.alloc (.cells #[.int .i64 ca0, .int .i64 tb0, .int .i64 so0, .int .i64 tx0, .int .i64 sf0, .slice A0 n c0, .int .i64 net0, .int .i64 tk0, .int .i64 pay0] 34)).alloc (.cells #[.int .i64 k, .int .i64 ca, .int .i64 tb, .int .i64 so, .int .i64 tx, .int .i64 sf, .slice A n c, .int .i64 net, .slice T m d, .int .i64 pay] 37)).alloc (.cells #[.int .i64 0, .int .i64 0, .int .i64 0, .int .i64 0, .int .i64 0, .slice none 0 0, .int .i64 0, .int .i64 0, .int .i64 0] 34)) (w.heap.size) 34 [.int .i64 ca0, .int .i64 tb0, .int .i64 so0, .int .i64 tx0, .int .i64 sf0, .slice A0 n c0, .int .i64 net0, .int .i64 tk0, .int .i64 pay0] := ((bx_new w [.int .i64 ca0, .int .i64 tb0, .int .i64 so0, .int .i64 tx0, .int .i64 sf0, .slice A0 n c0, .int .i64 net0, .int .i64 tk0, .int .i64 pay0] 34).alloc _).alloc _
  have K1 : Bx (((w.alloc (.cells #[.int .i64 ca0, .int .i64 tb0, .int .i64 so0, .int .i64 tx0, .int .i64 sf0, .slice A0 n c0, .int .i64 net0, .int .i64 tk0, .int .i64 pay0] 34)).alloc (.cells #[.int .i64 k, .int .i64 ca, .int .i64 tb, .int .i64 so, .int .i64 tx, .int .i64 sf, .slice A n c, .int .i64 net, .slice T m d, .int .i64 pay] 37)).alloc (.cells #[.int .i64 0, .int .i64 0, .int .i64 0, .int .i64 0, .int .i64 0, .slice none 0 0, .int .i64 0, .int .i64 0, .int .i64 0] 34)) (w.heap.size + 1) 37 [.int .i64 k, .int .i64 ca, .int .i64 tb, .int .i64 so, .int .i64 tx, .int .i64 sf, .slice A n c, .int .i64 net, .slice T m d, .int .i64 pay] := (bx_at _ [.int .i64 k, .int .i64 ca, .int .i64 tb, .int .i64 so, .int .i64 tx, .int .i64 sf, .slice A n c, .int .i64 net, .slice T m d, .int .i64 pay] 37 (by simp)).alloc _
  have K2 : Bx (((w.alloc (.cells #[.int .i64 ca0, .int .i64 tb0, .int .i64 so0, .int .i64 tx0, .int .i64 sf0, .slice A0 n c0, .int .i64 net0, .int .i64 tk0, .int .i64 pay0] 34)).alloc (.cells #[.int .i64 k, .int .i64 ca, .int .i64 tb, .int .i64 so, .int .i64 tx, .int .i64 sf, .slice A n c, .int .i64 net, .slice T m d, .int .i64 pay] 37)).alloc (.cells #[.int .i64 0, .int .i64 0, .int .i64 0, .int .i64 0, .int .i64 0, .slice none 0 0, .int .i64 0, .int .i64 0, .int .i64 0] 34)) (w.heap.size + 1 + 1) 34 [.int .i64 0, .int .i64 0, .int .i64 0, .int .i64 0, .int .i64 0, .slice none 0 0, .int .i64 0, .int .i64 0, .int .i64 0] := bx_at _ [.int .i64 0, .int .i64 0, .int .i64 0, .int .i64 0, .int .i64 0, .slice none 0 0, .int .i64 0, .int .i64 0, .int .i64 0] 34 (by simp)
  have B : Below w.heap.size w (((w.alloc (.cells #[.int .i64 ca0, .int .i64 tb0, .int .i64 so0, .int .i64 tx0, .int .i64 sf0, .slice A0 n c0, .int .i64 net0, .int .i64 tk0, .int .i64 pay0] 34)).alloc (.cells #[.int .i64 k, .int .i64 ca, .int .i64 tb, .int .i64 so, .int .i64 tx, .int .i64 sf, .slice A n c, .int .i64 net, .slice T m d, .int .i64 pay] 37)).alloc (.cells #[.int .i64 0, .int .i64 0, .int .i64 0, .int .i64 0, .int .i64 0, .slice none 0 0, .int .i64 0, .int .i64 0, .int .i64 0] 34)) := ((((Below.refl _ _).alloc (Nat.le_refl _) _).alloc (by simp) _).alloc (by simp; omega) _)
  have k0_0 := K0.cell (i := 0) rfl
  have k0_1 := K0.cell (i := 1) rfl
  have k0_2 := K0.cell (i := 2) rfl
  have k0_3 := K0.cell (i := 3) rfl
  have k0_4 := K0.cell (i := 4) rfl
  have k0_5 := K0.cell (i := 5) rfl
  have k0_6 := K0.cell (i := 6) rfl
  have k0_7 := K0.cell (i := 7) rfl
  have k0_8 := K0.cell (i := 8) rfl
  have k1_0 := K1.cell (i := 0) rfl
  have k1_1 := K1.cell (i := 1) rfl
  have k1_2 := K1.cell (i := 2) rfl
  have k1_3 := K1.cell (i := 3) rfl
  have k1_4 := K1.cell (i := 4) rfl
  have k1_5 := K1.cell (i := 5) rfl
  have k1_6 := K1.cell (i := 6) rfl
  have k1_7 := K1.cell (i := 7) rfl
  have k1_8 := K1.cell (i := 8) rfl
  have k1_9 := K1.cell (i := 9) rfl
  have k2_0 := K2.cell (i := 0) rfl
  have k2_1 := K2.cell (i := 1) rfl
  have k2_2 := K2.cell (i := 2) rfl
  have k2_3 := K2.cell (i := 3) rfl
  have k2_4 := K2.cell (i := 4) rfl
  have k2_5 := K2.cell (i := 5) rfl
  have k2_6 := K2.cell (i := 6) rfl
  have k2_7 := K2.cell (i := 7) rfl
  have k2_8 := K2.cell (i := 8) rfl
  replace h0 := h0.below (show Below w.heap.size w (((w.alloc (.cells #[.int .i64 ca0, .int .i64 tb0, .int .i64 so0, .int .i64 tx0, .int .i64 sf0, .slice A0 n c0, .int .i64 net0, .int .i64 tk0, .int .i64 pay0] 34)).alloc (.cells #[.int .i64 k, .int .i64 ca, .int .i64 tb, .int .i64 so, .int .i64 tx, .int .i64 sf, .slice A n c, .int .i64 net, .slice T m d, .int .i64 pay] 37)).alloc (.cells #[.int .i64 0, .int .i64 0, .int .i64 0, .int .i64 0, .int .i64 0, .slice none 0 0, .int .i64 0, .int .i64 0, .int .i64 0] 34)) from B)
  replace hS := hS.below (show Below w.heap.size w (((w.alloc (.cells #[.int .i64 ca0, .int .i64 tb0, .int .i64 so0, .int .i64 tx0, .int .i64 sf0, .slice A0 n c0, .int .i64 net0, .int .i64 tk0, .int .i64 pay0] 34)).alloc (.cells #[.int .i64 k, .int .i64 ca, .int .i64 tb, .int .i64 so, .int .i64 tx, .int .i64 sf, .slice A n c, .int .i64 net, .slice T m d, .int .i64 pay] 37)).alloc (.cells #[.int .i64 0, .int .i64 0, .int .i64 0, .int .i64 0, .int .i64 0, .slice none 0 0, .int .i64 0, .int .i64 0, .int .i64 0] 34)) from B)
  replace hT := hT.below (show Below w.heap.size w (((w.alloc (.cells #[.int .i64 ca0, .int .i64 tb0, .int .i64 so0, .int .i64 tx0, .int .i64 sf0, .slice A0 n c0, .int .i64 net0, .int .i64 tk0, .int .i64 pay0] 34)).alloc (.cells #[.int .i64 k, .int .i64 ca, .int .i64 tb, .int .i64 so, .int .i64 tx, .int .i64 sf, .slice A n c, .int .i64 net, .slice T m d, .int .i64 pay] 37)).alloc (.cells #[.int .i64 0, .int .i64 0, .int .i64 0, .int .i64 0, .int .i64 0, .slice none 0 0, .int .i64 0, .int .i64 0, .int .i64 0] 34)) from B)
  have cT := fun w h => tsum_any T m d f w h hm true hO sm 0 (by rw [if_pos rfl]; exact hsm) rfl
  have cB := fun w => badd_any ca0 tb0 so0 ca tb so w true hB u0 u1 u2 0 hu0 hu1 hu2 rfl
  clear hB hu0 hu1 hu2 hO hsm
  go_enter Try.func41, Try.ntmps41
  go_wp2_with (fail)
  with_reducible refine (cT _ hT).mono ?_
  clear hT
  rintro e w1 ⟨rfl, hb⟩
  clear k0_0 k0_1 k0_2 k0_3 k0_4 k0_5 k0_6 k0_7 k0_8 k1_0 k1_1 k1_2 k1_3 k1_4 k1_5 k1_6 k1_7 k1_8 k1_9 k2_0 k2_1 k2_2 k2_3 k2_4 k2_5 k2_6 k2_7 k2_8
  replace K0 := K0.below hb
  replace K1 := K1.below hb
  replace K2 := K2.below hb
  replace h0 := h0.below hb
  replace hS := hS.below hb
  replace B := below_step B hb B.size
  clear hb
  have k0_0 := K0.cell (i := 0) rfl
  have k0_1 := K0.cell (i := 1) rfl
  have k0_2 := K0.cell (i := 2) rfl
  have k0_3 := K0.cell (i := 3) rfl
  have k0_4 := K0.cell (i := 4) rfl
  have k0_5 := K0.cell (i := 5) rfl
  have k0_6 := K0.cell (i := 6) rfl
  have k0_7 := K0.cell (i := 7) rfl
  have k0_8 := K0.cell (i := 8) rfl
  have k1_0 := K1.cell (i := 0) rfl
  have k1_1 := K1.cell (i := 1) rfl
  have k1_2 := K1.cell (i := 2) rfl
  have k1_3 := K1.cell (i := 3) rfl
  have k1_4 := K1.cell (i := 4) rfl
  have k1_5 := K1.cell (i := 5) rfl
  have k1_6 := K1.cell (i := 6) rfl
  have k1_7 := K1.cell (i := 7) rfl
  have k1_8 := K1.cell (i := 8) rfl
  have k1_9 := K1.cell (i := 9) rfl
  have k2_0 := K2.cell (i := 0) rfl
  have k2_1 := K2.cell (i := 1) rfl
  have k2_2 := K2.cell (i := 2) rfl
  have k2_3 := K2.cell (i := 3) rfl
  have k2_4 := K2.cell (i := 4) rfl
  have k2_5 := K2.cell (i := 5) rfl
  have k2_6 := K2.cell (i := 6) rfl
  have k2_7 := K2.cell (i := 7) rfl
  have k2_8 := K2.cell (i := 8) rfl
  go_wp2_with (fail)
  with_reducible refine (cB _).mono ?_
  rintro e w2 ⟨rfl, hb⟩
  clear k0_0 k0_1 k0_2 k0_3 k0_4 k0_5 k0_6 k0_7 k0_8 k1_0 k1_1 k1_2 k1_3 k1_4 k1_5 k1_6 k1_7 k1_8 k1_9 k2_0 k2_1 k2_2 k2_3 k2_4 k2_5 k2_6 k2_7 k2_8
  replace K0 := K0.below hb
  replace K1 := K1.below hb
  replace K2 := K2.below hb
  replace h0 := h0.below hb
  replace hS := hS.below hb
  replace B := below_step B hb B.size
  clear hb
  have k0_0 := K0.cell (i := 0) rfl
  have k0_1 := K0.cell (i := 1) rfl
  have k0_2 := K0.cell (i := 2) rfl
  have k0_3 := K0.cell (i := 3) rfl
  have k0_4 := K0.cell (i := 4) rfl
  have k0_5 := K0.cell (i := 5) rfl
  have k0_6 := K0.cell (i := 6) rfl
  have k0_7 := K0.cell (i := 7) rfl
  have k0_8 := K0.cell (i := 8) rfl
  have k1_0 := K1.cell (i := 0) rfl
  have k1_1 := K1.cell (i := 1) rfl
  have k1_2 := K1.cell (i := 2) rfl
  have k1_3 := K1.cell (i := 3) rfl
  have k1_4 := K1.cell (i := 4) rfl
  have k1_5 := K1.cell (i := 5) rfl
  have k1_6 := K1.cell (i := 6) rfl
  have k1_7 := K1.cell (i := 7) rfl
  have k1_8 := K1.cell (i := 8) rfl
  have k1_9 := K1.cell (i := 9) rfl
  have k2_0 := K2.cell (i := 0) rfl
  have k2_1 := K2.cell (i := 1) rfl
  have k2_2 := K2.cell (i := 2) rfl
  have k2_3 := K2.cell (i := 3) rfl
  have k2_4 := K2.cell (i := 4) rfl
  have k2_5 := K2.cell (i := 5) rfl
  have k2_6 := K2.cell (i := 6) rfl
  have k2_7 := K2.cell (i := 7) rfl
  have k2_8 := K2.cell (i := 8) rfl
  clear cB cT
  have NBn := below_new w2 (.cells #[.int .i64 u0, .int .i64 u1, .int .i64 u2] 30)
  have K3 := bx_new w2 [.int .i64 u0, .int .i64 u1, .int .i64 u2] 30
  clear k0_0 k0_1 k0_2 k0_3 k0_4 k0_5 k0_6 k0_7 k0_8 k1_0 k1_1 k1_2 k1_3 k1_4 k1_5 k1_6 k1_7 k1_8 k1_9 k2_0 k2_1 k2_2 k2_3 k2_4 k2_5 k2_6 k2_7 k2_8
  replace K0 := K0.below NBn
  replace K1 := K1.below NBn
  replace K2 := K2.below NBn
  replace h0 := h0.below NBn
  replace hS := hS.below NBn
  replace B := below_step B NBn B.size
  clear NBn
  have k0_0 := K0.cell (i := 0) rfl
  have k0_1 := K0.cell (i := 1) rfl
  have k0_2 := K0.cell (i := 2) rfl
  have k0_3 := K0.cell (i := 3) rfl
  have k0_4 := K0.cell (i := 4) rfl
  have k0_5 := K0.cell (i := 5) rfl
  have k0_6 := K0.cell (i := 6) rfl
  have k0_7 := K0.cell (i := 7) rfl
  have k0_8 := K0.cell (i := 8) rfl
  have k1_0 := K1.cell (i := 0) rfl
  have k1_1 := K1.cell (i := 1) rfl
  have k1_2 := K1.cell (i := 2) rfl
  have k1_3 := K1.cell (i := 3) rfl
  have k1_4 := K1.cell (i := 4) rfl
  have k1_5 := K1.cell (i := 5) rfl
  have k1_6 := K1.cell (i := 6) rfl
  have k1_7 := K1.cell (i := 7) rfl
  have k1_8 := K1.cell (i := 8) rfl
  have k1_9 := K1.cell (i := 9) rfl
  have k2_0 := K2.cell (i := 0) rfl
  have k2_1 := K2.cell (i := 1) rfl
  have k2_2 := K2.cell (i := 2) rfl
  have k2_3 := K2.cell (i := 3) rfl
  have k2_4 := K2.cell (i := 4) rfl
  have k2_5 := K2.cell (i := 5) rfl
  have k2_6 := K2.cell (i := 6) rfl
  have k2_7 := K2.cell (i := 7) rfl
  have k2_8 := K2.cell (i := 8) rfl
  have k3_0 := K3.cell (i := 0) rfl
  have k3_1 := K3.cell (i := 1) rfl
  have k3_2 := K3.cell (i := 2) rfl
  have cP := fun w ha hb => pst_bad A0 A n c0 c X0 Y0 X Y w ha hb hn hr0 hr1 hP
  go_wp2_with (fail)
  with_reducible refine (cP _ h0 hS).mono ?_
  clear cP h0 hS
  rintro e w3 ⟨rfl, hb⟩
  clear k0_0 k0_1 k0_2 k0_3 k0_4 k0_5 k0_6 k0_7 k0_8 k1_0 k1_1 k1_2 k1_3 k1_4 k1_5 k1_6 k1_7 k1_8 k1_9 k2_0 k2_1 k2_2 k2_3 k2_4 k2_5 k2_6 k2_7 k2_8 k3_0 k3_1 k3_2
  replace K0 := K0.below hb
  replace K1 := K1.below hb
  replace K2 := K2.below hb
  replace K3 := K3.below hb
  replace B := below_step B hb B.size
  clear hb
  have k0_0 := K0.cell (i := 0) rfl
  have k0_1 := K0.cell (i := 1) rfl
  have k0_2 := K0.cell (i := 2) rfl
  have k0_3 := K0.cell (i := 3) rfl
  have k0_4 := K0.cell (i := 4) rfl
  have k0_5 := K0.cell (i := 5) rfl
  have k0_6 := K0.cell (i := 6) rfl
  have k0_7 := K0.cell (i := 7) rfl
  have k0_8 := K0.cell (i := 8) rfl
  have k1_0 := K1.cell (i := 0) rfl
  have k1_1 := K1.cell (i := 1) rfl
  have k1_2 := K1.cell (i := 2) rfl
  have k1_3 := K1.cell (i := 3) rfl
  have k1_4 := K1.cell (i := 4) rfl
  have k1_5 := K1.cell (i := 5) rfl
  have k1_6 := K1.cell (i := 6) rfl
  have k1_7 := K1.cell (i := 7) rfl
  have k1_8 := K1.cell (i := 8) rfl
  have k1_9 := K1.cell (i := 9) rfl
  have k2_0 := K2.cell (i := 0) rfl
  have k2_1 := K2.cell (i := 1) rfl
  have k2_2 := K2.cell (i := 2) rfl
  have k2_3 := K2.cell (i := 3) rfl
  have k2_4 := K2.cell (i := 4) rfl
  have k2_5 := K2.cell (i := 5) rfl
  have k2_6 := K2.cell (i := 6) rfl
  have k2_7 := K2.cell (i := 7) rfl
  have k2_8 := K2.cell (i := 8) rfl
  have k3_0 := K3.cell (i := 0) rfl
  have k3_1 := K3.cell (i := 1) rfl
  have k3_2 := K3.cell (i := 2) rfl
  clear k0_0 k0_1 k0_2 k0_3 k0_4 k0_5 k0_6 k0_7 k0_8 K0
  clear k1_0 k1_1 k1_2 k1_3 k1_4 k1_5 k1_6 k1_7 k1_8 k1_9 K1
  clear k3_0 k3_1 k3_2 K3
  have gr_0 := K2.fr 0
  have gr_1 := K2.fr 1
  have gr_2 := K2.fr 2
  have gr_3 := K2.fr 3
  have gr_4 := K2.fr 4
  have gr_5 := K2.fr 5
  have gr_6 := K2.fr 6
  have gr_7 := K2.fr 7
  have gr_8 := K2.fr 8
  have Z := (((((((((K2.set 0 (.int .i64 0)).set 1 (.int .i64 0)).set 2 (.int .i64 0)).set 3 (.int .i64 0)).set 4 (.int .i64 0)).set 5 (.slice none 0 0)).set 6 (.int .i64 0)).set 7 (.int .i64 0)).set 8 (.int .i64 0))
  have z0 := Z.cell (i := 0) rfl
  have z1 := Z.cell (i := 1) rfl
  have z2 := Z.cell (i := 2) rfl
  have z3 := Z.cell (i := 3) rfl
  have z4 := Z.cell (i := 4) rfl
  have z5 := Z.cell (i := 5) rfl
  have z6 := Z.cell (i := 6) rfl
  have z7 := Z.cell (i := 7) rfl
  have z8 := Z.cell (i := 8) rfl
  have hp : w.heap.size ≤ w.heap.size + 1 + 1 := by omega
  clear Z
  go_wp2
  exact bodyPost_ret (v := .tuple #[.agg #[.int .i64 0, .int .i64 0, .int .i64 0, .int .i64 0, .int .i64 0, .slice none 0 0, .int .i64 0, .int .i64 0, .int .i64 0], .int .i64 10]) (by simp [results, Try.results41, go_sem, z0, z1, z2, z3, z4, z5, z6, z7, z8]) rfl ⟨rfl, (((((((((B.setCell (p := ⟨w.heap.size + 1 + 1, 0, none⟩) hp _).setCell (p := ⟨w.heap.size + 1 + 1, 1, none⟩) hp _).setCell (p := ⟨w.heap.size + 1 + 1, 2, none⟩) hp _).setCell (p := ⟨w.heap.size + 1 + 1, 3, none⟩) hp _).setCell (p := ⟨w.heap.size + 1 + 1, 4, none⟩) hp _).setCell (p := ⟨w.heap.size + 1 + 1, 5, none⟩) hp _).setCell (p := ⟨w.heap.size + 1 + 1, 6, none⟩) hp _).setCell (p := ⟨w.heap.size + 1 + 1, 7, none⟩) hp _).setCell (p := ⟨w.heap.size + 1 + 1, 8, none⟩) hp _)⟩
set_option maxRecDepth 100000 in
set_option maxHeartbeats 8000000 in
theorem with_4 (k ca tb so tx sf : Int) (A : Option Addr) (n c : Nat) (net : Int) (T : Option Addr) (m d : Nat) (pay : Int) (X Y : Nat → Int) (f : Nat → Tkn) (ca0 tb0 so0 tx0 sf0 : Int) (A0 : Option Addr) (c0 : Nat) (net0 tk0 pay0 : Int) (X0 Y0 : Nat → Int) (w : World) (h0 : Shs w A0 n X0 Y0) (hS : Shs w A n X Y) (hT : Tks w T m f) (hn : n ≤ 64) (hm : m ≤ 4611686018427387904) (hO : okS f m = true) (sm : Int) (hsm : sumT f m = sm) (u0 u1 u2 : Int) (hB : (eB ca0 ca && eB tb0 tb && eB so0 so) = true) (hu0 : (if true = true then ca0 + ca else 0) = u0) (hu1 : (if true = true then tb0 + tb else 0) = u1) (hu2 : (if true = true then so0 + so else 0) = u2) (hP : ∀ i, i < n → ((amtB (X0 i) && amtB (Y0 i)) && (amtB (X i) && amtB (Y i)) && (amtB (X0 i + X i) && amtB (Y0 i + Y i))) = true) (hx0 : (amtB tx0 && amtB tx && amtB (tx0 + tx)) = true) (hx1 : (amtB net0 && amtB net && amtB (net0 + net)) = true) (hx2 : (amtB tk0 && amtB sm && amtB (tk0 + sm)) = true) (hx3 : (amtB pay0 && amtB pay && amtB (pay0 + pay)) = true) :
    Calls Try.prog 41 #[.agg #[.int .i64 ca0, .int .i64 tb0, .int .i64 so0, .int .i64 tx0, .int .i64 sf0, .slice A0 n c0, .int .i64 net0, .int .i64 tk0, .int .i64 pay0], .agg #[.int .i64 k, .int .i64 ca, .int .i64 tb, .int .i64 so, .int .i64 tx, .int .i64 sf, .slice A n c, .int .i64 net, .slice T m d, .int .i64 pay]] w fun e w' => ∃ bq, e = .returned (.tuple #[.agg #[.int .i64 u0, .int .i64 u1, .int .i64 u2, .int .i64 (tx0 + tx), .int .i64 sf, .slice (some ⟨bq, 0, none⟩) n n, .int .i64 (net0 + net), .int .i64 (tk0 + sm), .int .i64 (pay0 + pay)], .int .i64 0]) ∧ w.heap.size ≤ bq ∧ ShB w' bq n (fun i => X0 i + X i) (fun i => Y0 i + Y i) ∧ Below w.heap.size w w' := by
  have K0 : Bx (((w.alloc (.cells #[.int .i64 ca0, .int .i64 tb0, .int .i64 so0, .int .i64 tx0, .int .i64 sf0, .slice A0 n c0, .int .i64 net0, .int .i64 tk0, .int .i64 pay0] 34)).alloc (.cells #[.int .i64 k, .int .i64 ca, .int .i64 tb, .int .i64 so, .int .i64 tx, .int .i64 sf, .slice A n c, .int .i64 net, .slice T m d, .int .i64 pay] 37)).alloc (.cells #[.int .i64 0, .int .i64 0, .int .i64 0, .int .i64 0, .int .i64 0, .slice none 0 0, .int .i64 0, .int .i64 0, .int .i64 0] 34)) (w.heap.size) 34 [.int .i64 ca0, .int .i64 tb0, .int .i64 so0, .int .i64 tx0, .int .i64 sf0, .slice A0 n c0, .int .i64 net0, .int .i64 tk0, .int .i64 pay0] := ((bx_new w [.int .i64 ca0, .int .i64 tb0, .int .i64 so0, .int .i64 tx0, .int .i64 sf0, .slice A0 n c0, .int .i64 net0, .int .i64 tk0, .int .i64 pay0] 34).alloc _).alloc _
  have K1 : Bx (((w.alloc (.cells #[.int .i64 ca0, .int .i64 tb0, .int .i64 so0, .int .i64 tx0, .int .i64 sf0, .slice A0 n c0, .int .i64 net0, .int .i64 tk0, .int .i64 pay0] 34)).alloc (.cells #[.int .i64 k, .int .i64 ca, .int .i64 tb, .int .i64 so, .int .i64 tx, .int .i64 sf, .slice A n c, .int .i64 net, .slice T m d, .int .i64 pay] 37)).alloc (.cells #[.int .i64 0, .int .i64 0, .int .i64 0, .int .i64 0, .int .i64 0, .slice none 0 0, .int .i64 0, .int .i64 0, .int .i64 0] 34)) (w.heap.size + 1) 37 [.int .i64 k, .int .i64 ca, .int .i64 tb, .int .i64 so, .int .i64 tx, .int .i64 sf, .slice A n c, .int .i64 net, .slice T m d, .int .i64 pay] := (bx_at _ [.int .i64 k, .int .i64 ca, .int .i64 tb, .int .i64 so, .int .i64 tx, .int .i64 sf, .slice A n c, .int .i64 net, .slice T m d, .int .i64 pay] 37 (by simp)).alloc _
  have K2 : Bx (((w.alloc (.cells #[.int .i64 ca0, .int .i64 tb0, .int .i64 so0, .int .i64 tx0, .int .i64 sf0, .slice A0 n c0, .int .i64 net0, .int .i64 tk0, .int .i64 pay0] 34)).alloc (.cells #[.int .i64 k, .int .i64 ca, .int .i64 tb, .int .i64 so, .int .i64 tx, .int .i64 sf, .slice A n c, .int .i64 net, .slice T m d, .int .i64 pay] 37)).alloc (.cells #[.int .i64 0, .int .i64 0, .int .i64 0, .int .i64 0, .int .i64 0, .slice none 0 0, .int .i64 0, .int .i64 0, .int .i64 0] 34)) (w.heap.size + 1 + 1) 34 [.int .i64 0, .int .i64 0, .int .i64 0, .int .i64 0, .int .i64 0, .slice none 0 0, .int .i64 0, .int .i64 0, .int .i64 0] := bx_at _ [.int .i64 0, .int .i64 0, .int .i64 0, .int .i64 0, .int .i64 0, .slice none 0 0, .int .i64 0, .int .i64 0, .int .i64 0] 34 (by simp)
  have B : Below w.heap.size w (((w.alloc (.cells #[.int .i64 ca0, .int .i64 tb0, .int .i64 so0, .int .i64 tx0, .int .i64 sf0, .slice A0 n c0, .int .i64 net0, .int .i64 tk0, .int .i64 pay0] 34)).alloc (.cells #[.int .i64 k, .int .i64 ca, .int .i64 tb, .int .i64 so, .int .i64 tx, .int .i64 sf, .slice A n c, .int .i64 net, .slice T m d, .int .i64 pay] 37)).alloc (.cells #[.int .i64 0, .int .i64 0, .int .i64 0, .int .i64 0, .int .i64 0, .slice none 0 0, .int .i64 0, .int .i64 0, .int .i64 0] 34)) := ((((Below.refl _ _).alloc (Nat.le_refl _) _).alloc (by simp) _).alloc (by simp; omega) _)
  have k0_0 := K0.cell (i := 0) rfl
  have k0_1 := K0.cell (i := 1) rfl
  have k0_2 := K0.cell (i := 2) rfl
  have k0_3 := K0.cell (i := 3) rfl
  have k0_4 := K0.cell (i := 4) rfl
  have k0_5 := K0.cell (i := 5) rfl
  have k0_6 := K0.cell (i := 6) rfl
  have k0_7 := K0.cell (i := 7) rfl
  have k0_8 := K0.cell (i := 8) rfl
  have k1_0 := K1.cell (i := 0) rfl
  have k1_1 := K1.cell (i := 1) rfl
  have k1_2 := K1.cell (i := 2) rfl
  have k1_3 := K1.cell (i := 3) rfl
  have k1_4 := K1.cell (i := 4) rfl
  have k1_5 := K1.cell (i := 5) rfl
  have k1_6 := K1.cell (i := 6) rfl
  have k1_7 := K1.cell (i := 7) rfl
  have k1_8 := K1.cell (i := 8) rfl
  have k1_9 := K1.cell (i := 9) rfl
  have k2_0 := K2.cell (i := 0) rfl
  have k2_1 := K2.cell (i := 1) rfl
  have k2_2 := K2.cell (i := 2) rfl
  have k2_3 := K2.cell (i := 3) rfl
  have k2_4 := K2.cell (i := 4) rfl
  have k2_5 := K2.cell (i := 5) rfl
  have k2_6 := K2.cell (i := 6) rfl
  have k2_7 := K2.cell (i := 7) rfl
  have k2_8 := K2.cell (i := 8) rfl
  replace h0 := h0.below (show Below w.heap.size w (((w.alloc (.cells #[.int .i64 ca0, .int .i64 tb0, .int .i64 so0, .int .i64 tx0, .int .i64 sf0, .slice A0 n c0, .int .i64 net0, .int .i64 tk0, .int .i64 pay0] 34)).alloc (.cells #[.int .i64 k, .int .i64 ca, .int .i64 tb, .int .i64 so, .int .i64 tx, .int .i64 sf, .slice A n c, .int .i64 net, .slice T m d, .int .i64 pay] 37)).alloc (.cells #[.int .i64 0, .int .i64 0, .int .i64 0, .int .i64 0, .int .i64 0, .slice none 0 0, .int .i64 0, .int .i64 0, .int .i64 0] 34)) from B)
  replace hS := hS.below (show Below w.heap.size w (((w.alloc (.cells #[.int .i64 ca0, .int .i64 tb0, .int .i64 so0, .int .i64 tx0, .int .i64 sf0, .slice A0 n c0, .int .i64 net0, .int .i64 tk0, .int .i64 pay0] 34)).alloc (.cells #[.int .i64 k, .int .i64 ca, .int .i64 tb, .int .i64 so, .int .i64 tx, .int .i64 sf, .slice A n c, .int .i64 net, .slice T m d, .int .i64 pay] 37)).alloc (.cells #[.int .i64 0, .int .i64 0, .int .i64 0, .int .i64 0, .int .i64 0, .slice none 0 0, .int .i64 0, .int .i64 0, .int .i64 0] 34)) from B)
  replace hT := hT.below (show Below w.heap.size w (((w.alloc (.cells #[.int .i64 ca0, .int .i64 tb0, .int .i64 so0, .int .i64 tx0, .int .i64 sf0, .slice A0 n c0, .int .i64 net0, .int .i64 tk0, .int .i64 pay0] 34)).alloc (.cells #[.int .i64 k, .int .i64 ca, .int .i64 tb, .int .i64 so, .int .i64 tx, .int .i64 sf, .slice A n c, .int .i64 net, .slice T m d, .int .i64 pay] 37)).alloc (.cells #[.int .i64 0, .int .i64 0, .int .i64 0, .int .i64 0, .int .i64 0, .slice none 0 0, .int .i64 0, .int .i64 0, .int .i64 0] 34)) from B)
  have cT := fun w h => tsum_any T m d f w h hm true hO sm 0 (by rw [if_pos rfl]; exact hsm) rfl
  have cA0 := fun w => add_any tx0 tx w true hx0
  have cA1 := fun w => add_any net0 net w true hx1
  have cA2 := fun w => add_any tk0 sm w true hx2
  have cA3 := fun w => add_any pay0 pay w true hx3
  simp only [if_true] at cA0
  clear hx0
  generalize tx0 + tx = s0 at *
  simp only [if_true] at cA1
  clear hx1
  generalize net0 + net = s1 at *
  simp only [if_true] at cA2
  clear hx2
  generalize tk0 + sm = s2 at *
  simp only [if_true] at cA3
  clear hx3
  generalize pay0 + pay = s3 at *
  have cB := fun w => badd_any ca0 tb0 so0 ca tb so w true hB u0 u1 u2 0 hu0 hu1 hu2 rfl
  clear hB hu0 hu1 hu2 hO hsm
  go_enter Try.func41, Try.ntmps41
  go_wp2_with (fail)
  with_reducible refine (cT _ hT).mono ?_
  clear hT
  rintro e w1 ⟨rfl, hb⟩
  clear k0_0 k0_1 k0_2 k0_3 k0_4 k0_5 k0_6 k0_7 k0_8 k1_0 k1_1 k1_2 k1_3 k1_4 k1_5 k1_6 k1_7 k1_8 k1_9 k2_0 k2_1 k2_2 k2_3 k2_4 k2_5 k2_6 k2_7 k2_8
  replace K0 := K0.below hb
  replace K1 := K1.below hb
  replace K2 := K2.below hb
  replace h0 := h0.below hb
  replace hS := hS.below hb
  replace B := below_step B hb B.size
  clear hb
  have k0_0 := K0.cell (i := 0) rfl
  have k0_1 := K0.cell (i := 1) rfl
  have k0_2 := K0.cell (i := 2) rfl
  have k0_3 := K0.cell (i := 3) rfl
  have k0_4 := K0.cell (i := 4) rfl
  have k0_5 := K0.cell (i := 5) rfl
  have k0_6 := K0.cell (i := 6) rfl
  have k0_7 := K0.cell (i := 7) rfl
  have k0_8 := K0.cell (i := 8) rfl
  have k1_0 := K1.cell (i := 0) rfl
  have k1_1 := K1.cell (i := 1) rfl
  have k1_2 := K1.cell (i := 2) rfl
  have k1_3 := K1.cell (i := 3) rfl
  have k1_4 := K1.cell (i := 4) rfl
  have k1_5 := K1.cell (i := 5) rfl
  have k1_6 := K1.cell (i := 6) rfl
  have k1_7 := K1.cell (i := 7) rfl
  have k1_8 := K1.cell (i := 8) rfl
  have k1_9 := K1.cell (i := 9) rfl
  have k2_0 := K2.cell (i := 0) rfl
  have k2_1 := K2.cell (i := 1) rfl
  have k2_2 := K2.cell (i := 2) rfl
  have k2_3 := K2.cell (i := 3) rfl
  have k2_4 := K2.cell (i := 4) rfl
  have k2_5 := K2.cell (i := 5) rfl
  have k2_6 := K2.cell (i := 6) rfl
  have k2_7 := K2.cell (i := 7) rfl
  have k2_8 := K2.cell (i := 8) rfl
  go_wp2_with (fail)
  with_reducible refine (cB _).mono ?_
  rintro e w2 ⟨rfl, hb⟩
  clear k0_0 k0_1 k0_2 k0_3 k0_4 k0_5 k0_6 k0_7 k0_8 k1_0 k1_1 k1_2 k1_3 k1_4 k1_5 k1_6 k1_7 k1_8 k1_9 k2_0 k2_1 k2_2 k2_3 k2_4 k2_5 k2_6 k2_7 k2_8
  replace K0 := K0.below hb
  replace K1 := K1.below hb
  replace K2 := K2.below hb
  replace h0 := h0.below hb
  replace hS := hS.below hb
  replace B := below_step B hb B.size
  clear hb
  have k0_0 := K0.cell (i := 0) rfl
  have k0_1 := K0.cell (i := 1) rfl
  have k0_2 := K0.cell (i := 2) rfl
  have k0_3 := K0.cell (i := 3) rfl
  have k0_4 := K0.cell (i := 4) rfl
  have k0_5 := K0.cell (i := 5) rfl
  have k0_6 := K0.cell (i := 6) rfl
  have k0_7 := K0.cell (i := 7) rfl
  have k0_8 := K0.cell (i := 8) rfl
  have k1_0 := K1.cell (i := 0) rfl
  have k1_1 := K1.cell (i := 1) rfl
  have k1_2 := K1.cell (i := 2) rfl
  have k1_3 := K1.cell (i := 3) rfl
  have k1_4 := K1.cell (i := 4) rfl
  have k1_5 := K1.cell (i := 5) rfl
  have k1_6 := K1.cell (i := 6) rfl
  have k1_7 := K1.cell (i := 7) rfl
  have k1_8 := K1.cell (i := 8) rfl
  have k1_9 := K1.cell (i := 9) rfl
  have k2_0 := K2.cell (i := 0) rfl
  have k2_1 := K2.cell (i := 1) rfl
  have k2_2 := K2.cell (i := 2) rfl
  have k2_3 := K2.cell (i := 3) rfl
  have k2_4 := K2.cell (i := 4) rfl
  have k2_5 := K2.cell (i := 5) rfl
  have k2_6 := K2.cell (i := 6) rfl
  have k2_7 := K2.cell (i := 7) rfl
  have k2_8 := K2.cell (i := 8) rfl
  clear cB cT
  have h2z : w.heap.size + 1 + 1 < w2.heap.size := K2.lt
  have NBn := below_new w2 (.cells #[.int .i64 u0, .int .i64 u1, .int .i64 u2] 30)
  have K3 := bx_new w2 [.int .i64 u0, .int .i64 u1, .int .i64 u2] 30
  clear k0_0 k0_1 k0_2 k0_3 k0_4 k0_5 k0_6 k0_7 k0_8 k1_0 k1_1 k1_2 k1_3 k1_4 k1_5 k1_6 k1_7 k1_8 k1_9 k2_0 k2_1 k2_2 k2_3 k2_4 k2_5 k2_6 k2_7 k2_8
  replace K0 := K0.below NBn
  replace K1 := K1.below NBn
  replace K2 := K2.below NBn
  replace h0 := h0.below NBn
  replace hS := hS.below NBn
  replace B := below_step B NBn B.size
  clear NBn
  have k0_0 := K0.cell (i := 0) rfl
  have k0_1 := K0.cell (i := 1) rfl
  have k0_2 := K0.cell (i := 2) rfl
  have k0_3 := K0.cell (i := 3) rfl
  have k0_4 := K0.cell (i := 4) rfl
  have k0_5 := K0.cell (i := 5) rfl
  have k0_6 := K0.cell (i := 6) rfl
  have k0_7 := K0.cell (i := 7) rfl
  have k0_8 := K0.cell (i := 8) rfl
  have k1_0 := K1.cell (i := 0) rfl
  have k1_1 := K1.cell (i := 1) rfl
  have k1_2 := K1.cell (i := 2) rfl
  have k1_3 := K1.cell (i := 3) rfl
  have k1_4 := K1.cell (i := 4) rfl
  have k1_5 := K1.cell (i := 5) rfl
  have k1_6 := K1.cell (i := 6) rfl
  have k1_7 := K1.cell (i := 7) rfl
  have k1_8 := K1.cell (i := 8) rfl
  have k1_9 := K1.cell (i := 9) rfl
  have k2_0 := K2.cell (i := 0) rfl
  have k2_1 := K2.cell (i := 1) rfl
  have k2_2 := K2.cell (i := 2) rfl
  have k2_3 := K2.cell (i := 3) rfl
  have k2_4 := K2.cell (i := 4) rfl
  have k2_5 := K2.cell (i := 5) rfl
  have k2_6 := K2.cell (i := 6) rfl
  have k2_7 := K2.cell (i := 7) rfl
  have k2_8 := K2.cell (i := 8) rfl
  have k3_0 := K3.cell (i := 0) rfl
  have k3_1 := K3.cell (i := 1) rfl
  have k3_2 := K3.cell (i := 2) rfl
  have cP := fun w ha hb => post_ok A0 A n c0 c X0 Y0 X Y w ha hb hn hP
  go_wp2_with (fail)
  with_reducible refine (cP _ h0 hS).mono ?_
  clear cP h0 hS
  rintro e w3 ⟨bq, rfl, hbq, HS, hb⟩
  have HS := Lib.hid HS
  clear k0_0 k0_1 k0_2 k0_3 k0_4 k0_5 k0_6 k0_7 k0_8 k1_0 k1_1 k1_2 k1_3 k1_4 k1_5 k1_6 k1_7 k1_8 k1_9 k2_0 k2_1 k2_2 k2_3 k2_4 k2_5 k2_6 k2_7 k2_8 k3_0 k3_1 k3_2
  replace K0 := K0.below hb
  replace K1 := K1.below hb
  replace K2 := K2.below hb
  replace K3 := K3.below hb
  replace B := below_step B hb B.size
  clear hb
  have k0_0 := K0.cell (i := 0) rfl
  have k0_1 := K0.cell (i := 1) rfl
  have k0_2 := K0.cell (i := 2) rfl
  have k0_3 := K0.cell (i := 3) rfl
  have k0_4 := K0.cell (i := 4) rfl
  have k0_5 := K0.cell (i := 5) rfl
  have k0_6 := K0.cell (i := 6) rfl
  have k0_7 := K0.cell (i := 7) rfl
  have k0_8 := K0.cell (i := 8) rfl
  have k1_0 := K1.cell (i := 0) rfl
  have k1_1 := K1.cell (i := 1) rfl
  have k1_2 := K1.cell (i := 2) rfl
  have k1_3 := K1.cell (i := 3) rfl
  have k1_4 := K1.cell (i := 4) rfl
  have k1_5 := K1.cell (i := 5) rfl
  have k1_6 := K1.cell (i := 6) rfl
  have k1_7 := K1.cell (i := 7) rfl
  have k1_8 := K1.cell (i := 8) rfl
  have k1_9 := K1.cell (i := 9) rfl
  have k2_0 := K2.cell (i := 0) rfl
  have k2_1 := K2.cell (i := 1) rfl
  have k2_2 := K2.cell (i := 2) rfl
  have k2_3 := K2.cell (i := 3) rfl
  have k2_4 := K2.cell (i := 4) rfl
  have k2_5 := K2.cell (i := 5) rfl
  have k2_6 := K2.cell (i := 6) rfl
  have k2_7 := K2.cell (i := 7) rfl
  have k2_8 := K2.cell (i := 8) rfl
  have k3_0 := K3.cell (i := 0) rfl
  have k3_1 := K3.cell (i := 1) rfl
  have k3_2 := K3.cell (i := 2) rfl
  have HS4 := Lib.hid (HS.out.below (below_new w3 (.cells #[.int .i64 u0, .int .i64 u1, .int .i64 u2, .int .i64 0, .int .i64 sf, .slice (some ⟨bq, 0, none⟩) n n, .int .i64 0, .int .i64 0, .int .i64 0] 34)))
  have hbl := World.rowIs.lt HS.out
  have h3z : w.heap.size + 1 + 1 < w3.heap.size := K2.lt
  have h3y : w2.heap.size < w3.heap.size := K3.lt
  replace hbq : w2.heap.size + 1 ≤ bq := by simpa using hbq
  have y3_0 := K3.cell (i := 0) rfl
  have y3_1 := K3.cell (i := 1) rfl
  have y3_2 := K3.cell (i := 2) rfl
  have y1_5 := K1.cell (i := 5) rfl
  have NBn := below_new w3 (.cells #[.int .i64 u0, .int .i64 u1, .int .i64 u2, .int .i64 0, .int .i64 sf, .slice (some ⟨bq, 0, none⟩) n n, .int .i64 0, .int .i64 0, .int .i64 0] 34)
  have K4 := bx_new w3 [.int .i64 u0, .int .i64 u1, .int .i64 u2, .int .i64 0, .int .i64 sf, .slice (some ⟨bq, 0, none⟩) n n, .int .i64 0, .int .i64 0, .int .i64 0] 34
  clear k0_0 k0_1 k0_2 k0_3 k0_4 k0_5 k0_6 k0_7 k0_8 k1_0 k1_1 k1_2 k1_3 k1_4 k1_5 k1_6 k1_7 k1_8 k1_9 k2_0 k2_1 k2_2 k2_3 k2_4 k2_5 k2_6 k2_7 k2_8 k3_0 k3_1 k3_2
  replace K0 := K0.below NBn
  replace K1 := K1.below NBn
  replace K2 := K2.below NBn
  replace K3 := K3.below NBn
  replace B := below_step B NBn B.size
  clear NBn
  have k0_0 := K0.cell (i := 0) rfl
  have k0_1 := K0.cell (i := 1) rfl
  have k0_2 := K0.cell (i := 2) rfl
  have k0_3 := K0.cell (i := 3) rfl
  have k0_4 := K0.cell (i := 4) rfl
  have k0_5 := K0.cell (i := 5) rfl
  have k0_6 := K0.cell (i := 6) rfl
  have k0_7 := K0.cell (i := 7) rfl
  have k0_8 := K0.cell (i := 8) rfl
  have k1_0 := K1.cell (i := 0) rfl
  have k1_1 := K1.cell (i := 1) rfl
  have k1_2 := K1.cell (i := 2) rfl
  have k1_3 := K1.cell (i := 3) rfl
  have k1_4 := K1.cell (i := 4) rfl
  have k1_5 := K1.cell (i := 5) rfl
  have k1_6 := K1.cell (i := 6) rfl
  have k1_7 := K1.cell (i := 7) rfl
  have k1_8 := K1.cell (i := 8) rfl
  have k1_9 := K1.cell (i := 9) rfl
  have k2_0 := K2.cell (i := 0) rfl
  have k2_1 := K2.cell (i := 1) rfl
  have k2_2 := K2.cell (i := 2) rfl
  have k2_3 := K2.cell (i := 3) rfl
  have k2_4 := K2.cell (i := 4) rfl
  have k2_5 := K2.cell (i := 5) rfl
  have k2_6 := K2.cell (i := 6) rfl
  have k2_7 := K2.cell (i := 7) rfl
  have k2_8 := K2.cell (i := 8) rfl
  have k3_0 := K3.cell (i := 0) rfl
  have k3_1 := K3.cell (i := 1) rfl
  have k3_2 := K3.cell (i := 2) rfl
  have k4_0 := K4.cell (i := 0) rfl
  have k4_1 := K4.cell (i := 1) rfl
  have k4_2 := K4.cell (i := 2) rfl
  have k4_3 := K4.cell (i := 3) rfl
  have k4_4 := K4.cell (i := 4) rfl
  have k4_5 := K4.cell (i := 5) rfl
  have k4_6 := K4.cell (i := 6) rfl
  have k4_7 := K4.cell (i := 7) rfl
  have k4_8 := K4.cell (i := 8) rfl
  clear HS
  have ix0 := fun W => ixw_0 tx0 tx net0 net tk0 sm pay0 pay (some ⟨w3.heap.size, 3, none⟩) (some ⟨w3.heap.size, 6, none⟩) (some ⟨w3.heap.size, 7, none⟩) (some ⟨w3.heap.size, 8, none⟩) W
  have ix1 := fun W => ixw_1 tx0 tx net0 net tk0 sm pay0 pay (some ⟨w3.heap.size, 3, none⟩) (some ⟨w3.heap.size, 6, none⟩) (some ⟨w3.heap.size, 7, none⟩) (some ⟨w3.heap.size, 8, none⟩) W
  have ix2 := fun W => ixw_2 tx0 tx net0 net tk0 sm pay0 pay (some ⟨w3.heap.size, 3, none⟩) (some ⟨w3.heap.size, 6, none⟩) (some ⟨w3.heap.size, 7, none⟩) (some ⟨w3.heap.size, 8, none⟩) W
  have ix3 := fun W => ixw_3 tx0 tx net0 net tk0 sm pay0 pay (some ⟨w3.heap.size, 3, none⟩) (some ⟨w3.heap.size, 6, none⟩) (some ⟨w3.heap.size, 7, none⟩) (some ⟨w3.heap.size, 8, none⟩) W
  go_wp2_with (fail)
  clear y3_0 y3_1 y3_2 y1_5
  generalize hW : (w3.alloc (.cells #[.int .i64 u0, .int .i64 u1, .int .i64 u2, .int .i64 0, .int .i64 sf, .slice (some ⟨bq, 0, none⟩) n n, .int .i64 0, .int .i64 0, .int .i64 0] 34)) = c0w at *
  have hz : w3.heap.size + 1 ≤ c0w.heap.size := by rw [← hW]; simp
  clear hW
  have hbq2 : bq < c0w.heap.size := by omega
  refine wp_loop_rounds 5 ?_
  rw [rounds_succ]
  have HS4 := Lib.hid (HS4.out.below (below_new c0w (.cells #[.int .i64 tx0, .int .i64 tx, .pointer (some ⟨w3.heap.size, 3, none⟩)] 115)))
  have NBn := below_new c0w (.cells #[.int .i64 tx0, .int .i64 tx, .pointer (some ⟨w3.heap.size, 3, none⟩)] 115)
  have KO0 := bx_new c0w [.int .i64 tx0, .int .i64 tx, .pointer (some ⟨w3.heap.size, 3, none⟩)] 115
  clear k0_0 k0_1 k0_2 k0_3 k0_4 k0_5 k0_6 k0_7 k0_8 k1_0 k1_1 k1_2 k1_3 k1_4 k1_5 k1_6 k1_7 k1_8 k1_9 k2_0 k2_1 k2_2 k2_3 k2_4 k2_5 k2_6 k2_7 k2_8 k3_0 k3_1 k3_2 k4_0 k4_1 k4_2 k4_3 k4_4 k4_5 k4_6 k4_7 k4_8
  replace K0 := K0.below NBn
  replace K1 := K1.below NBn
  replace K2 := K2.below NBn
  replace K3 := K3.below NBn
  replace K4 := K4.below NBn
  replace B := below_step B NBn B.size
  clear NBn
  have k0_0 := K0.cell (i := 0) rfl
  have k0_1 := K0.cell (i := 1) rfl
  have k0_2 := K0.cell (i := 2) rfl
  have k0_3 := K0.cell (i := 3) rfl
  have k0_4 := K0.cell (i := 4) rfl
  have k0_5 := K0.cell (i := 5) rfl
  have k0_6 := K0.cell (i := 6) rfl
  have k0_7 := K0.cell (i := 7) rfl
  have k0_8 := K0.cell (i := 8) rfl
  have k1_0 := K1.cell (i := 0) rfl
  have k1_1 := K1.cell (i := 1) rfl
  have k1_2 := K1.cell (i := 2) rfl
  have k1_3 := K1.cell (i := 3) rfl
  have k1_4 := K1.cell (i := 4) rfl
  have k1_5 := K1.cell (i := 5) rfl
  have k1_6 := K1.cell (i := 6) rfl
  have k1_7 := K1.cell (i := 7) rfl
  have k1_8 := K1.cell (i := 8) rfl
  have k1_9 := K1.cell (i := 9) rfl
  have k2_0 := K2.cell (i := 0) rfl
  have k2_1 := K2.cell (i := 1) rfl
  have k2_2 := K2.cell (i := 2) rfl
  have k2_3 := K2.cell (i := 3) rfl
  have k2_4 := K2.cell (i := 4) rfl
  have k2_5 := K2.cell (i := 5) rfl
  have k2_6 := K2.cell (i := 6) rfl
  have k2_7 := K2.cell (i := 7) rfl
  have k2_8 := K2.cell (i := 8) rfl
  have k3_0 := K3.cell (i := 0) rfl
  have k3_1 := K3.cell (i := 1) rfl
  have k3_2 := K3.cell (i := 2) rfl
  have k4_0 := K4.cell (i := 0) rfl
  have k4_1 := K4.cell (i := 1) rfl
  have k4_2 := K4.cell (i := 2) rfl
  have k4_3 := K4.cell (i := 3) rfl
  have k4_4 := K4.cell (i := 4) rfl
  have k4_5 := K4.cell (i := 5) rfl
  have k4_6 := K4.cell (i := 6) rfl
  have k4_7 := K4.cell (i := 7) rfl
  have k4_8 := K4.cell (i := 8) rfl
  have ko0_0 := KO0.cell (i := 0) rfl
  have ko0_1 := KO0.cell (i := 1) rfl
  have ko0_2 := KO0.cell (i := 2) rfl
  go_wp2_with (fail)
  generalize hW : (c0w.alloc (.cells #[.int .i64 tx0, .int .i64 tx, .pointer (some ⟨w3.heap.size, 3, none⟩)] 115)) = d0 at *
  have hzd : c0w.heap.size + 1 ≤ d0.heap.size := by rw [← hW]; simp
  clear hW
  generalize hq : c0w.heap.size = q0 at *
  clear hq
  have S1 : d0.drew.cell? ⟨q0, 0, none⟩ = some (.int .i64 tx0) ∧ d0.drew.cell? ⟨q0, 1, none⟩ = some (.int .i64 tx) ∧ d0.drew.cell? ⟨q0, 2, none⟩ = some (.pointer (some ⟨w3.heap.size, 3, none⟩)) := ⟨ko0_0, ko0_1, ko0_2⟩
  have mk : ∀ X : World, Below d0.heap.size d0 X → (X.cell? ⟨q0, 0, none⟩ = some (.int .i64 tx0) ∧ X.cell? ⟨q0, 1, none⟩ = some (.int .i64 tx) ∧ X.cell? ⟨q0, 2, none⟩ = some (.pointer (some ⟨w3.heap.size, 3, none⟩))) := fun X hb => ⟨cell_later hb ko0_0, cell_later hb ko0_1, cell_later hb ko0_2⟩
  have mks : ∀ X : World, Below d0.heap.size d0 X → ((X.setCell ⟨w3.heap.size, 3, none⟩ (.int .i64 s0)).cell? ⟨q0, 0, none⟩ = some (.int .i64 tx0) ∧ (X.setCell ⟨w3.heap.size, 3, none⟩ (.int .i64 s0)).cell? ⟨q0, 1, none⟩ = some (.int .i64 tx) ∧ (X.setCell ⟨w3.heap.size, 3, none⟩ (.int .i64 s0)).cell? ⟨q0, 2, none⟩ = some (.pointer (some ⟨w3.heap.size, 3, none⟩))) := fun X hb => ⟨(World.cell?_setCell_other _ _ _ _ (by intro e; simp only [Addr.mk.injEq] at e; omega)).trans (cell_later hb ko0_0), (World.cell?_setCell_other _ _ _ _ (by intro e; simp only [Addr.mk.injEq] at e; omega)).trans (cell_later hb ko0_1), (World.cell?_setCell_other _ _ _ _ (by intro e; simp only [Addr.mk.injEq] at e; omega)).trans (cell_later hb ko0_2)⟩
  have hdd : Below d0.heap.size d0 d0.drew := (Below.refl _ _).drew
  clear k0_0 k0_1 k0_2 k0_3 k0_4 k0_5 k0_6 k0_7 k0_8 k1_0 k1_1 k1_2 k1_3 k1_4 k1_5 k1_6 k1_7 k1_8 k1_9 k2_0 k2_1 k2_2 k2_3 k2_4 k2_5 k2_6 k2_7 k2_8 k3_0 k3_1 k3_2 k4_0 k4_1 k4_2 k4_3 k4_4 k4_5 k4_6 k4_7 k4_8 ko0_0 ko0_1 ko0_2
  go_region_held3 (fun X => X.cell? ⟨q0, 0, none⟩ = some (.int .i64 tx0) ∧ X.cell? ⟨q0, 1, none⟩ = some (.int .i64 tx) ∧ X.cell? ⟨q0, 2, none⟩ = some (.pointer (some ⟨w3.heap.size, 3, none⟩)))
    ((first | exact S1 | assumption | exact mk _ hb0 | exact mks _ hb0))
    (first
      | (go_at_call 53; (with_reducible refine (cA0 _).mono ?_); rintro e e0 ⟨rfl, hbx⟩; have hb0 := below_step hdd hbx hdd.size; have E4 := K4.below hb0; have e4_0 := E4.cell (i := 3) rfl; have e4_1 := E4.fr 3))
  clear S1 mk mks hdd E4 e4_0 e4_1 cA0
  try clear hbx
  have k0_0 := K0.cell (i := 0) rfl
  have k0_1 := K0.cell (i := 1) rfl
  have k0_2 := K0.cell (i := 2) rfl
  have k0_3 := K0.cell (i := 3) rfl
  have k0_4 := K0.cell (i := 4) rfl
  have k0_5 := K0.cell (i := 5) rfl
  have k0_6 := K0.cell (i := 6) rfl
  have k0_7 := K0.cell (i := 7) rfl
  have k0_8 := K0.cell (i := 8) rfl
  have k1_0 := K1.cell (i := 0) rfl
  have k1_1 := K1.cell (i := 1) rfl
  have k1_2 := K1.cell (i := 2) rfl
  have k1_3 := K1.cell (i := 3) rfl
  have k1_4 := K1.cell (i := 4) rfl
  have k1_5 := K1.cell (i := 5) rfl
  have k1_6 := K1.cell (i := 6) rfl
  have k1_7 := K1.cell (i := 7) rfl
  have k1_8 := K1.cell (i := 8) rfl
  have k1_9 := K1.cell (i := 9) rfl
  have k2_0 := K2.cell (i := 0) rfl
  have k2_1 := K2.cell (i := 1) rfl
  have k2_2 := K2.cell (i := 2) rfl
  have k2_3 := K2.cell (i := 3) rfl
  have k2_4 := K2.cell (i := 4) rfl
  have k2_5 := K2.cell (i := 5) rfl
  have k2_6 := K2.cell (i := 6) rfl
  have k2_7 := K2.cell (i := 7) rfl
  have k2_8 := K2.cell (i := 8) rfl
  have k3_0 := K3.cell (i := 0) rfl
  have k3_1 := K3.cell (i := 1) rfl
  have k3_2 := K3.cell (i := 2) rfl
  have k4_0 := K4.cell (i := 0) rfl
  have k4_1 := K4.cell (i := 1) rfl
  have k4_2 := K4.cell (i := 2) rfl
  have k4_3 := K4.cell (i := 3) rfl
  have k4_4 := K4.cell (i := 4) rfl
  have k4_5 := K4.cell (i := 5) rfl
  have k4_6 := K4.cell (i := 6) rfl
  have k4_7 := K4.cell (i := 7) rfl
  have k4_8 := K4.cell (i := 8) rfl
  have ko0_0 := KO0.cell (i := 0) rfl
  have ko0_1 := KO0.cell (i := 1) rfl
  have ko0_2 := KO0.cell (i := 2) rfl
  clear ko0_0 ko0_1 ko0_2 KO0
  have HS4 := Lib.hid (HS4.out.below hb0)
  replace hzd : w3.heap.size + 1 ≤ e0.heap.size := by have := hb0.size; omega
  replace hz := hzd
  clear k0_0 k0_1 k0_2 k0_3 k0_4 k0_5 k0_6 k0_7 k0_8 k1_0 k1_1 k1_2 k1_3 k1_4 k1_5 k1_6 k1_7 k1_8 k1_9 k2_0 k2_1 k2_2 k2_3 k2_4 k2_5 k2_6 k2_7 k2_8 k3_0 k3_1 k3_2 k4_0 k4_1 k4_2 k4_3 k4_4 k4_5 k4_6 k4_7 k4_8
  replace K0 := K0.below hb0
  replace K1 := K1.below hb0
  replace K2 := K2.below hb0
  replace K3 := K3.below hb0
  replace K4 := K4.below hb0
  replace B := below_step B hb0 B.size
  clear hb0
  have k0_0 := K0.cell (i := 0) rfl
  have k0_1 := K0.cell (i := 1) rfl
  have k0_2 := K0.cell (i := 2) rfl
  have k0_3 := K0.cell (i := 3) rfl
  have k0_4 := K0.cell (i := 4) rfl
  have k0_5 := K0.cell (i := 5) rfl
  have k0_6 := K0.cell (i := 6) rfl
  have k0_7 := K0.cell (i := 7) rfl
  have k0_8 := K0.cell (i := 8) rfl
  have k1_0 := K1.cell (i := 0) rfl
  have k1_1 := K1.cell (i := 1) rfl
  have k1_2 := K1.cell (i := 2) rfl
  have k1_3 := K1.cell (i := 3) rfl
  have k1_4 := K1.cell (i := 4) rfl
  have k1_5 := K1.cell (i := 5) rfl
  have k1_6 := K1.cell (i := 6) rfl
  have k1_7 := K1.cell (i := 7) rfl
  have k1_8 := K1.cell (i := 8) rfl
  have k1_9 := K1.cell (i := 9) rfl
  have k2_0 := K2.cell (i := 0) rfl
  have k2_1 := K2.cell (i := 1) rfl
  have k2_2 := K2.cell (i := 2) rfl
  have k2_3 := K2.cell (i := 3) rfl
  have k2_4 := K2.cell (i := 4) rfl
  have k2_5 := K2.cell (i := 5) rfl
  have k2_6 := K2.cell (i := 6) rfl
  have k2_7 := K2.cell (i := 7) rfl
  have k2_8 := K2.cell (i := 8) rfl
  have k3_0 := K3.cell (i := 0) rfl
  have k3_1 := K3.cell (i := 1) rfl
  have k3_2 := K3.cell (i := 2) rfl
  have k4_0 := K4.cell (i := 0) rfl
  have k4_1 := K4.cell (i := 1) rfl
  have k4_2 := K4.cell (i := 2) rfl
  have k4_3 := K4.cell (i := 3) rfl
  have k4_4 := K4.cell (i := 4) rfl
  have k4_5 := K4.cell (i := 5) rfl
  have k4_6 := K4.cell (i := 6) rfl
  have k4_7 := K4.cell (i := 7) rfl
  have k4_8 := K4.cell (i := 8) rfl
  replace hbq2 : bq < e0.heap.size := World.rowIs.lt HS4.out
  have HS4 := Lib.hid (show ShB (e0.setCell ⟨w3.heap.size, 3, none⟩ (.int .i64 s0)) bq n (fun i => X0 i + X i) (fun i => Y0 i + Y i) from World.rowIs.setOther HS4.out (a := ⟨w3.heap.size, 3, none⟩) (by show bq ≠ w3.heap.size; omega) (.int .i64 s0))
  clear k0_0 k0_1 k0_2 k0_3 k0_4 k0_5 k0_6 k0_7 k0_8 k1_0 k1_1 k1_2 k1_3 k1_4 k1_5 k1_6 k1_7 k1_8 k1_9 k2_0 k2_1 k2_2 k2_3 k2_4 k2_5 k2_6 k2_7 k2_8 k3_0 k3_1 k3_2 k4_0 k4_1 k4_2 k4_3 k4_4 k4_5 k4_6 k4_7 k4_8
  replace K0 := K0.other (q := w3.heap.size) (by omega) 3 (.int .i64 s0)
  replace K1 := K1.other (q := w3.heap.size) (by omega) 3 (.int .i64 s0)
  replace K2 := K2.other (q := w3.heap.size) (by omega) 3 (.int .i64 s0)
  replace K3 := K3.other (q := w3.heap.size) (by omega) 3 (.int .i64 s0)
  replace K4 := K4.set 3 (.int .i64 s0)
  replace B := B.setCell (p := ⟨w3.heap.size, 3, none⟩) (by show w.heap.size ≤ w3.heap.size; omega) (.int .i64 s0)
  generalize (e0.setCell ⟨w3.heap.size, 3, none⟩ (.int .i64 s0)) = v0 at *
  have k0_0 := K0.cell (i := 0) rfl
  have k0_1 := K0.cell (i := 1) rfl
  have k0_2 := K0.cell (i := 2) rfl
  have k0_3 := K0.cell (i := 3) rfl
  have k0_4 := K0.cell (i := 4) rfl
  have k0_5 := K0.cell (i := 5) rfl
  have k0_6 := K0.cell (i := 6) rfl
  have k0_7 := K0.cell (i := 7) rfl
  have k0_8 := K0.cell (i := 8) rfl
  have k1_0 := K1.cell (i := 0) rfl
  have k1_1 := K1.cell (i := 1) rfl
  have k1_2 := K1.cell (i := 2) rfl
  have k1_3 := K1.cell (i := 3) rfl
  have k1_4 := K1.cell (i := 4) rfl
  have k1_5 := K1.cell (i := 5) rfl
  have k1_6 := K1.cell (i := 6) rfl
  have k1_7 := K1.cell (i := 7) rfl
  have k1_8 := K1.cell (i := 8) rfl
  have k1_9 := K1.cell (i := 9) rfl
  have k2_0 := K2.cell (i := 0) rfl
  have k2_1 := K2.cell (i := 1) rfl
  have k2_2 := K2.cell (i := 2) rfl
  have k2_3 := K2.cell (i := 3) rfl
  have k2_4 := K2.cell (i := 4) rfl
  have k2_5 := K2.cell (i := 5) rfl
  have k2_6 := K2.cell (i := 6) rfl
  have k2_7 := K2.cell (i := 7) rfl
  have k2_8 := K2.cell (i := 8) rfl
  have k3_0 := K3.cell (i := 0) rfl
  have k3_1 := K3.cell (i := 1) rfl
  have k3_2 := K3.cell (i := 2) rfl
  have k4_0 := K4.cell (i := 0) rfl
  have k4_1 := K4.cell (i := 1) rfl
  have k4_2 := K4.cell (i := 2) rfl
  have k4_3 := K4.cell (i := 3) rfl
  have k4_4 := K4.cell (i := 4) rfl
  have k4_5 := K4.cell (i := 5) rfl
  have k4_6 := K4.cell (i := 6) rfl
  have k4_7 := K4.cell (i := 7) rfl
  have k4_8 := K4.cell (i := 8) rfl
  replace hz : w3.heap.size + 1 ≤ v0.heap.size := K4.lt
  go_wp2_with (fail)
  rw [rounds_succ]
  have HS4 := Lib.hid (HS4.out.below (below_new v0 (.cells #[.int .i64 net0, .int .i64 net, .pointer (some ⟨w3.heap.size, 6, none⟩)] 115)))
  have NBn := below_new v0 (.cells #[.int .i64 net0, .int .i64 net, .pointer (some ⟨w3.heap.size, 6, none⟩)] 115)
  have KO1 := bx_new v0 [.int .i64 net0, .int .i64 net, .pointer (some ⟨w3.heap.size, 6, none⟩)] 115
  clear k0_0 k0_1 k0_2 k0_3 k0_4 k0_5 k0_6 k0_7 k0_8 k1_0 k1_1 k1_2 k1_3 k1_4 k1_5 k1_6 k1_7 k1_8 k1_9 k2_0 k2_1 k2_2 k2_3 k2_4 k2_5 k2_6 k2_7 k2_8 k3_0 k3_1 k3_2 k4_0 k4_1 k4_2 k4_3 k4_4 k4_5 k4_6 k4_7 k4_8
  replace K0 := K0.below NBn
  replace K1 := K1.below NBn
  replace K2 := K2.below NBn
  replace K3 := K3.below NBn
  replace K4 := K4.below NBn
  replace B := below_step B NBn B.size
  clear NBn
  have k0_0 := K0.cell (i := 0) rfl
  have k0_1 := K0.cell (i := 1) rfl
  have k0_2 := K0.cell (i := 2) rfl
  have k0_3 := K0.cell (i := 3) rfl
  have k0_4 := K0.cell (i := 4) rfl
  have k0_5 := K0.cell (i := 5) rfl
  have k0_6 := K0.cell (i := 6) rfl
  have k0_7 := K0.cell (i := 7) rfl
  have k0_8 := K0.cell (i := 8) rfl
  have k1_0 := K1.cell (i := 0) rfl
  have k1_1 := K1.cell (i := 1) rfl
  have k1_2 := K1.cell (i := 2) rfl
  have k1_3 := K1.cell (i := 3) rfl
  have k1_4 := K1.cell (i := 4) rfl
  have k1_5 := K1.cell (i := 5) rfl
  have k1_6 := K1.cell (i := 6) rfl
  have k1_7 := K1.cell (i := 7) rfl
  have k1_8 := K1.cell (i := 8) rfl
  have k1_9 := K1.cell (i := 9) rfl
  have k2_0 := K2.cell (i := 0) rfl
  have k2_1 := K2.cell (i := 1) rfl
  have k2_2 := K2.cell (i := 2) rfl
  have k2_3 := K2.cell (i := 3) rfl
  have k2_4 := K2.cell (i := 4) rfl
  have k2_5 := K2.cell (i := 5) rfl
  have k2_6 := K2.cell (i := 6) rfl
  have k2_7 := K2.cell (i := 7) rfl
  have k2_8 := K2.cell (i := 8) rfl
  have k3_0 := K3.cell (i := 0) rfl
  have k3_1 := K3.cell (i := 1) rfl
  have k3_2 := K3.cell (i := 2) rfl
  have k4_0 := K4.cell (i := 0) rfl
  have k4_1 := K4.cell (i := 1) rfl
  have k4_2 := K4.cell (i := 2) rfl
  have k4_3 := K4.cell (i := 3) rfl
  have k4_4 := K4.cell (i := 4) rfl
  have k4_5 := K4.cell (i := 5) rfl
  have k4_6 := K4.cell (i := 6) rfl
  have k4_7 := K4.cell (i := 7) rfl
  have k4_8 := K4.cell (i := 8) rfl
  have ko1_0 := KO1.cell (i := 0) rfl
  have ko1_1 := KO1.cell (i := 1) rfl
  have ko1_2 := KO1.cell (i := 2) rfl
  go_wp2_with (fail)
  generalize hW : (v0.alloc (.cells #[.int .i64 net0, .int .i64 net, .pointer (some ⟨w3.heap.size, 6, none⟩)] 115)) = d1 at *
  have hzd : v0.heap.size + 1 ≤ d1.heap.size := by rw [← hW]; simp
  clear hW
  generalize hq : v0.heap.size = q1 at *
  clear hq
  have S1 : d1.drew.cell? ⟨q1, 0, none⟩ = some (.int .i64 net0) ∧ d1.drew.cell? ⟨q1, 1, none⟩ = some (.int .i64 net) ∧ d1.drew.cell? ⟨q1, 2, none⟩ = some (.pointer (some ⟨w3.heap.size, 6, none⟩)) := ⟨ko1_0, ko1_1, ko1_2⟩
  have mk : ∀ X : World, Below d1.heap.size d1 X → (X.cell? ⟨q1, 0, none⟩ = some (.int .i64 net0) ∧ X.cell? ⟨q1, 1, none⟩ = some (.int .i64 net) ∧ X.cell? ⟨q1, 2, none⟩ = some (.pointer (some ⟨w3.heap.size, 6, none⟩))) := fun X hb => ⟨cell_later hb ko1_0, cell_later hb ko1_1, cell_later hb ko1_2⟩
  have mks : ∀ X : World, Below d1.heap.size d1 X → ((X.setCell ⟨w3.heap.size, 6, none⟩ (.int .i64 s1)).cell? ⟨q1, 0, none⟩ = some (.int .i64 net0) ∧ (X.setCell ⟨w3.heap.size, 6, none⟩ (.int .i64 s1)).cell? ⟨q1, 1, none⟩ = some (.int .i64 net) ∧ (X.setCell ⟨w3.heap.size, 6, none⟩ (.int .i64 s1)).cell? ⟨q1, 2, none⟩ = some (.pointer (some ⟨w3.heap.size, 6, none⟩))) := fun X hb => ⟨(World.cell?_setCell_other _ _ _ _ (by intro e; simp only [Addr.mk.injEq] at e; omega)).trans (cell_later hb ko1_0), (World.cell?_setCell_other _ _ _ _ (by intro e; simp only [Addr.mk.injEq] at e; omega)).trans (cell_later hb ko1_1), (World.cell?_setCell_other _ _ _ _ (by intro e; simp only [Addr.mk.injEq] at e; omega)).trans (cell_later hb ko1_2)⟩
  have hdd : Below d1.heap.size d1 d1.drew := (Below.refl _ _).drew
  clear k0_0 k0_1 k0_2 k0_3 k0_4 k0_5 k0_6 k0_7 k0_8 k1_0 k1_1 k1_2 k1_3 k1_4 k1_5 k1_6 k1_7 k1_8 k1_9 k2_0 k2_1 k2_2 k2_3 k2_4 k2_5 k2_6 k2_7 k2_8 k3_0 k3_1 k3_2 k4_0 k4_1 k4_2 k4_3 k4_4 k4_5 k4_6 k4_7 k4_8 ko1_0 ko1_1 ko1_2
  go_region_held3 (fun X => X.cell? ⟨q1, 0, none⟩ = some (.int .i64 net0) ∧ X.cell? ⟨q1, 1, none⟩ = some (.int .i64 net) ∧ X.cell? ⟨q1, 2, none⟩ = some (.pointer (some ⟨w3.heap.size, 6, none⟩)))
    ((first | exact S1 | assumption | exact mk _ hb1 | exact mks _ hb1))
    (first
      | (go_at_call 53; (with_reducible refine (cA1 _).mono ?_); rintro e e1 ⟨rfl, hbx⟩; have hb1 := below_step hdd hbx hdd.size; have E4 := K4.below hb1; have e4_0 := E4.cell (i := 6) rfl; have e4_1 := E4.fr 6))
  clear S1 mk mks hdd E4 e4_0 e4_1 cA1
  try clear hbx
  have k0_0 := K0.cell (i := 0) rfl
  have k0_1 := K0.cell (i := 1) rfl
  have k0_2 := K0.cell (i := 2) rfl
  have k0_3 := K0.cell (i := 3) rfl
  have k0_4 := K0.cell (i := 4) rfl
  have k0_5 := K0.cell (i := 5) rfl
  have k0_6 := K0.cell (i := 6) rfl
  have k0_7 := K0.cell (i := 7) rfl
  have k0_8 := K0.cell (i := 8) rfl
  have k1_0 := K1.cell (i := 0) rfl
  have k1_1 := K1.cell (i := 1) rfl
  have k1_2 := K1.cell (i := 2) rfl
  have k1_3 := K1.cell (i := 3) rfl
  have k1_4 := K1.cell (i := 4) rfl
  have k1_5 := K1.cell (i := 5) rfl
  have k1_6 := K1.cell (i := 6) rfl
  have k1_7 := K1.cell (i := 7) rfl
  have k1_8 := K1.cell (i := 8) rfl
  have k1_9 := K1.cell (i := 9) rfl
  have k2_0 := K2.cell (i := 0) rfl
  have k2_1 := K2.cell (i := 1) rfl
  have k2_2 := K2.cell (i := 2) rfl
  have k2_3 := K2.cell (i := 3) rfl
  have k2_4 := K2.cell (i := 4) rfl
  have k2_5 := K2.cell (i := 5) rfl
  have k2_6 := K2.cell (i := 6) rfl
  have k2_7 := K2.cell (i := 7) rfl
  have k2_8 := K2.cell (i := 8) rfl
  have k3_0 := K3.cell (i := 0) rfl
  have k3_1 := K3.cell (i := 1) rfl
  have k3_2 := K3.cell (i := 2) rfl
  have k4_0 := K4.cell (i := 0) rfl
  have k4_1 := K4.cell (i := 1) rfl
  have k4_2 := K4.cell (i := 2) rfl
  have k4_3 := K4.cell (i := 3) rfl
  have k4_4 := K4.cell (i := 4) rfl
  have k4_5 := K4.cell (i := 5) rfl
  have k4_6 := K4.cell (i := 6) rfl
  have k4_7 := K4.cell (i := 7) rfl
  have k4_8 := K4.cell (i := 8) rfl
  have ko1_0 := KO1.cell (i := 0) rfl
  have ko1_1 := KO1.cell (i := 1) rfl
  have ko1_2 := KO1.cell (i := 2) rfl
  clear ko1_0 ko1_1 ko1_2 KO1
  have HS4 := Lib.hid (HS4.out.below hb1)
  replace hzd : w3.heap.size + 1 ≤ e1.heap.size := by have := hb1.size; omega
  replace hz := hzd
  clear k0_0 k0_1 k0_2 k0_3 k0_4 k0_5 k0_6 k0_7 k0_8 k1_0 k1_1 k1_2 k1_3 k1_4 k1_5 k1_6 k1_7 k1_8 k1_9 k2_0 k2_1 k2_2 k2_3 k2_4 k2_5 k2_6 k2_7 k2_8 k3_0 k3_1 k3_2 k4_0 k4_1 k4_2 k4_3 k4_4 k4_5 k4_6 k4_7 k4_8
  replace K0 := K0.below hb1
  replace K1 := K1.below hb1
  replace K2 := K2.below hb1
  replace K3 := K3.below hb1
  replace K4 := K4.below hb1
  replace B := below_step B hb1 B.size
  clear hb1
  have k0_0 := K0.cell (i := 0) rfl
  have k0_1 := K0.cell (i := 1) rfl
  have k0_2 := K0.cell (i := 2) rfl
  have k0_3 := K0.cell (i := 3) rfl
  have k0_4 := K0.cell (i := 4) rfl
  have k0_5 := K0.cell (i := 5) rfl
  have k0_6 := K0.cell (i := 6) rfl
  have k0_7 := K0.cell (i := 7) rfl
  have k0_8 := K0.cell (i := 8) rfl
  have k1_0 := K1.cell (i := 0) rfl
  have k1_1 := K1.cell (i := 1) rfl
  have k1_2 := K1.cell (i := 2) rfl
  have k1_3 := K1.cell (i := 3) rfl
  have k1_4 := K1.cell (i := 4) rfl
  have k1_5 := K1.cell (i := 5) rfl
  have k1_6 := K1.cell (i := 6) rfl
  have k1_7 := K1.cell (i := 7) rfl
  have k1_8 := K1.cell (i := 8) rfl
  have k1_9 := K1.cell (i := 9) rfl
  have k2_0 := K2.cell (i := 0) rfl
  have k2_1 := K2.cell (i := 1) rfl
  have k2_2 := K2.cell (i := 2) rfl
  have k2_3 := K2.cell (i := 3) rfl
  have k2_4 := K2.cell (i := 4) rfl
  have k2_5 := K2.cell (i := 5) rfl
  have k2_6 := K2.cell (i := 6) rfl
  have k2_7 := K2.cell (i := 7) rfl
  have k2_8 := K2.cell (i := 8) rfl
  have k3_0 := K3.cell (i := 0) rfl
  have k3_1 := K3.cell (i := 1) rfl
  have k3_2 := K3.cell (i := 2) rfl
  have k4_0 := K4.cell (i := 0) rfl
  have k4_1 := K4.cell (i := 1) rfl
  have k4_2 := K4.cell (i := 2) rfl
  have k4_3 := K4.cell (i := 3) rfl
  have k4_4 := K4.cell (i := 4) rfl
  have k4_5 := K4.cell (i := 5) rfl
  have k4_6 := K4.cell (i := 6) rfl
  have k4_7 := K4.cell (i := 7) rfl
  have k4_8 := K4.cell (i := 8) rfl
  replace hbq2 : bq < e1.heap.size := World.rowIs.lt HS4.out
  have HS4 := Lib.hid (show ShB (e1.setCell ⟨w3.heap.size, 6, none⟩ (.int .i64 s1)) bq n (fun i => X0 i + X i) (fun i => Y0 i + Y i) from World.rowIs.setOther HS4.out (a := ⟨w3.heap.size, 6, none⟩) (by show bq ≠ w3.heap.size; omega) (.int .i64 s1))
  clear k0_0 k0_1 k0_2 k0_3 k0_4 k0_5 k0_6 k0_7 k0_8 k1_0 k1_1 k1_2 k1_3 k1_4 k1_5 k1_6 k1_7 k1_8 k1_9 k2_0 k2_1 k2_2 k2_3 k2_4 k2_5 k2_6 k2_7 k2_8 k3_0 k3_1 k3_2 k4_0 k4_1 k4_2 k4_3 k4_4 k4_5 k4_6 k4_7 k4_8
  replace K0 := K0.other (q := w3.heap.size) (by omega) 6 (.int .i64 s1)
  replace K1 := K1.other (q := w3.heap.size) (by omega) 6 (.int .i64 s1)
  replace K2 := K2.other (q := w3.heap.size) (by omega) 6 (.int .i64 s1)
  replace K3 := K3.other (q := w3.heap.size) (by omega) 6 (.int .i64 s1)
  replace K4 := K4.set 6 (.int .i64 s1)
  replace B := B.setCell (p := ⟨w3.heap.size, 6, none⟩) (by show w.heap.size ≤ w3.heap.size; omega) (.int .i64 s1)
  generalize (e1.setCell ⟨w3.heap.size, 6, none⟩ (.int .i64 s1)) = v1 at *
  have k0_0 := K0.cell (i := 0) rfl
  have k0_1 := K0.cell (i := 1) rfl
  have k0_2 := K0.cell (i := 2) rfl
  have k0_3 := K0.cell (i := 3) rfl
  have k0_4 := K0.cell (i := 4) rfl
  have k0_5 := K0.cell (i := 5) rfl
  have k0_6 := K0.cell (i := 6) rfl
  have k0_7 := K0.cell (i := 7) rfl
  have k0_8 := K0.cell (i := 8) rfl
  have k1_0 := K1.cell (i := 0) rfl
  have k1_1 := K1.cell (i := 1) rfl
  have k1_2 := K1.cell (i := 2) rfl
  have k1_3 := K1.cell (i := 3) rfl
  have k1_4 := K1.cell (i := 4) rfl
  have k1_5 := K1.cell (i := 5) rfl
  have k1_6 := K1.cell (i := 6) rfl
  have k1_7 := K1.cell (i := 7) rfl
  have k1_8 := K1.cell (i := 8) rfl
  have k1_9 := K1.cell (i := 9) rfl
  have k2_0 := K2.cell (i := 0) rfl
  have k2_1 := K2.cell (i := 1) rfl
  have k2_2 := K2.cell (i := 2) rfl
  have k2_3 := K2.cell (i := 3) rfl
  have k2_4 := K2.cell (i := 4) rfl
  have k2_5 := K2.cell (i := 5) rfl
  have k2_6 := K2.cell (i := 6) rfl
  have k2_7 := K2.cell (i := 7) rfl
  have k2_8 := K2.cell (i := 8) rfl
  have k3_0 := K3.cell (i := 0) rfl
  have k3_1 := K3.cell (i := 1) rfl
  have k3_2 := K3.cell (i := 2) rfl
  have k4_0 := K4.cell (i := 0) rfl
  have k4_1 := K4.cell (i := 1) rfl
  have k4_2 := K4.cell (i := 2) rfl
  have k4_3 := K4.cell (i := 3) rfl
  have k4_4 := K4.cell (i := 4) rfl
  have k4_5 := K4.cell (i := 5) rfl
  have k4_6 := K4.cell (i := 6) rfl
  have k4_7 := K4.cell (i := 7) rfl
  have k4_8 := K4.cell (i := 8) rfl
  replace hz : w3.heap.size + 1 ≤ v1.heap.size := K4.lt
  go_wp2_with (fail)
  rw [rounds_succ]
  have HS4 := Lib.hid (HS4.out.below (below_new v1 (.cells #[.int .i64 tk0, .int .i64 sm, .pointer (some ⟨w3.heap.size, 7, none⟩)] 115)))
  have NBn := below_new v1 (.cells #[.int .i64 tk0, .int .i64 sm, .pointer (some ⟨w3.heap.size, 7, none⟩)] 115)
  have KO2 := bx_new v1 [.int .i64 tk0, .int .i64 sm, .pointer (some ⟨w3.heap.size, 7, none⟩)] 115
  clear k0_0 k0_1 k0_2 k0_3 k0_4 k0_5 k0_6 k0_7 k0_8 k1_0 k1_1 k1_2 k1_3 k1_4 k1_5 k1_6 k1_7 k1_8 k1_9 k2_0 k2_1 k2_2 k2_3 k2_4 k2_5 k2_6 k2_7 k2_8 k3_0 k3_1 k3_2 k4_0 k4_1 k4_2 k4_3 k4_4 k4_5 k4_6 k4_7 k4_8
  replace K0 := K0.below NBn
  replace K1 := K1.below NBn
  replace K2 := K2.below NBn
  replace K3 := K3.below NBn
  replace K4 := K4.below NBn
  replace B := below_step B NBn B.size
  clear NBn
  have k0_0 := K0.cell (i := 0) rfl
  have k0_1 := K0.cell (i := 1) rfl
  have k0_2 := K0.cell (i := 2) rfl
  have k0_3 := K0.cell (i := 3) rfl
  have k0_4 := K0.cell (i := 4) rfl
  have k0_5 := K0.cell (i := 5) rfl
  have k0_6 := K0.cell (i := 6) rfl
  have k0_7 := K0.cell (i := 7) rfl
  have k0_8 := K0.cell (i := 8) rfl
  have k1_0 := K1.cell (i := 0) rfl
  have k1_1 := K1.cell (i := 1) rfl
  have k1_2 := K1.cell (i := 2) rfl
  have k1_3 := K1.cell (i := 3) rfl
  have k1_4 := K1.cell (i := 4) rfl
  have k1_5 := K1.cell (i := 5) rfl
  have k1_6 := K1.cell (i := 6) rfl
  have k1_7 := K1.cell (i := 7) rfl
  have k1_8 := K1.cell (i := 8) rfl
  have k1_9 := K1.cell (i := 9) rfl
  have k2_0 := K2.cell (i := 0) rfl
  have k2_1 := K2.cell (i := 1) rfl
  have k2_2 := K2.cell (i := 2) rfl
  have k2_3 := K2.cell (i := 3) rfl
  have k2_4 := K2.cell (i := 4) rfl
  have k2_5 := K2.cell (i := 5) rfl
  have k2_6 := K2.cell (i := 6) rfl
  have k2_7 := K2.cell (i := 7) rfl
  have k2_8 := K2.cell (i := 8) rfl
  have k3_0 := K3.cell (i := 0) rfl
  have k3_1 := K3.cell (i := 1) rfl
  have k3_2 := K3.cell (i := 2) rfl
  have k4_0 := K4.cell (i := 0) rfl
  have k4_1 := K4.cell (i := 1) rfl
  have k4_2 := K4.cell (i := 2) rfl
  have k4_3 := K4.cell (i := 3) rfl
  have k4_4 := K4.cell (i := 4) rfl
  have k4_5 := K4.cell (i := 5) rfl
  have k4_6 := K4.cell (i := 6) rfl
  have k4_7 := K4.cell (i := 7) rfl
  have k4_8 := K4.cell (i := 8) rfl
  have ko2_0 := KO2.cell (i := 0) rfl
  have ko2_1 := KO2.cell (i := 1) rfl
  have ko2_2 := KO2.cell (i := 2) rfl
  go_wp2_with (fail)
  generalize hW : (v1.alloc (.cells #[.int .i64 tk0, .int .i64 sm, .pointer (some ⟨w3.heap.size, 7, none⟩)] 115)) = d2 at *
  have hzd : v1.heap.size + 1 ≤ d2.heap.size := by rw [← hW]; simp
  clear hW
  generalize hq : v1.heap.size = q2 at *
  clear hq
  have S1 : d2.drew.cell? ⟨q2, 0, none⟩ = some (.int .i64 tk0) ∧ d2.drew.cell? ⟨q2, 1, none⟩ = some (.int .i64 sm) ∧ d2.drew.cell? ⟨q2, 2, none⟩ = some (.pointer (some ⟨w3.heap.size, 7, none⟩)) := ⟨ko2_0, ko2_1, ko2_2⟩
  have mk : ∀ X : World, Below d2.heap.size d2 X → (X.cell? ⟨q2, 0, none⟩ = some (.int .i64 tk0) ∧ X.cell? ⟨q2, 1, none⟩ = some (.int .i64 sm) ∧ X.cell? ⟨q2, 2, none⟩ = some (.pointer (some ⟨w3.heap.size, 7, none⟩))) := fun X hb => ⟨cell_later hb ko2_0, cell_later hb ko2_1, cell_later hb ko2_2⟩
  have mks : ∀ X : World, Below d2.heap.size d2 X → ((X.setCell ⟨w3.heap.size, 7, none⟩ (.int .i64 s2)).cell? ⟨q2, 0, none⟩ = some (.int .i64 tk0) ∧ (X.setCell ⟨w3.heap.size, 7, none⟩ (.int .i64 s2)).cell? ⟨q2, 1, none⟩ = some (.int .i64 sm) ∧ (X.setCell ⟨w3.heap.size, 7, none⟩ (.int .i64 s2)).cell? ⟨q2, 2, none⟩ = some (.pointer (some ⟨w3.heap.size, 7, none⟩))) := fun X hb => ⟨(World.cell?_setCell_other _ _ _ _ (by intro e; simp only [Addr.mk.injEq] at e; omega)).trans (cell_later hb ko2_0), (World.cell?_setCell_other _ _ _ _ (by intro e; simp only [Addr.mk.injEq] at e; omega)).trans (cell_later hb ko2_1), (World.cell?_setCell_other _ _ _ _ (by intro e; simp only [Addr.mk.injEq] at e; omega)).trans (cell_later hb ko2_2)⟩
  have hdd : Below d2.heap.size d2 d2.drew := (Below.refl _ _).drew
  clear k0_0 k0_1 k0_2 k0_3 k0_4 k0_5 k0_6 k0_7 k0_8 k1_0 k1_1 k1_2 k1_3 k1_4 k1_5 k1_6 k1_7 k1_8 k1_9 k2_0 k2_1 k2_2 k2_3 k2_4 k2_5 k2_6 k2_7 k2_8 k3_0 k3_1 k3_2 k4_0 k4_1 k4_2 k4_3 k4_4 k4_5 k4_6 k4_7 k4_8 ko2_0 ko2_1 ko2_2
  go_region_held3 (fun X => X.cell? ⟨q2, 0, none⟩ = some (.int .i64 tk0) ∧ X.cell? ⟨q2, 1, none⟩ = some (.int .i64 sm) ∧ X.cell? ⟨q2, 2, none⟩ = some (.pointer (some ⟨w3.heap.size, 7, none⟩)))
    ((first | exact S1 | assumption | exact mk _ hb2 | exact mks _ hb2))
    (first
      | (go_at_call 53; (with_reducible refine (cA2 _).mono ?_); rintro e e2 ⟨rfl, hbx⟩; have hb2 := below_step hdd hbx hdd.size; have E4 := K4.below hb2; have e4_0 := E4.cell (i := 7) rfl; have e4_1 := E4.fr 7))
  clear S1 mk mks hdd E4 e4_0 e4_1 cA2
  try clear hbx
  have k0_0 := K0.cell (i := 0) rfl
  have k0_1 := K0.cell (i := 1) rfl
  have k0_2 := K0.cell (i := 2) rfl
  have k0_3 := K0.cell (i := 3) rfl
  have k0_4 := K0.cell (i := 4) rfl
  have k0_5 := K0.cell (i := 5) rfl
  have k0_6 := K0.cell (i := 6) rfl
  have k0_7 := K0.cell (i := 7) rfl
  have k0_8 := K0.cell (i := 8) rfl
  have k1_0 := K1.cell (i := 0) rfl
  have k1_1 := K1.cell (i := 1) rfl
  have k1_2 := K1.cell (i := 2) rfl
  have k1_3 := K1.cell (i := 3) rfl
  have k1_4 := K1.cell (i := 4) rfl
  have k1_5 := K1.cell (i := 5) rfl
  have k1_6 := K1.cell (i := 6) rfl
  have k1_7 := K1.cell (i := 7) rfl
  have k1_8 := K1.cell (i := 8) rfl
  have k1_9 := K1.cell (i := 9) rfl
  have k2_0 := K2.cell (i := 0) rfl
  have k2_1 := K2.cell (i := 1) rfl
  have k2_2 := K2.cell (i := 2) rfl
  have k2_3 := K2.cell (i := 3) rfl
  have k2_4 := K2.cell (i := 4) rfl
  have k2_5 := K2.cell (i := 5) rfl
  have k2_6 := K2.cell (i := 6) rfl
  have k2_7 := K2.cell (i := 7) rfl
  have k2_8 := K2.cell (i := 8) rfl
  have k3_0 := K3.cell (i := 0) rfl
  have k3_1 := K3.cell (i := 1) rfl
  have k3_2 := K3.cell (i := 2) rfl
  have k4_0 := K4.cell (i := 0) rfl
  have k4_1 := K4.cell (i := 1) rfl
  have k4_2 := K4.cell (i := 2) rfl
  have k4_3 := K4.cell (i := 3) rfl
  have k4_4 := K4.cell (i := 4) rfl
  have k4_5 := K4.cell (i := 5) rfl
  have k4_6 := K4.cell (i := 6) rfl
  have k4_7 := K4.cell (i := 7) rfl
  have k4_8 := K4.cell (i := 8) rfl
  have ko2_0 := KO2.cell (i := 0) rfl
  have ko2_1 := KO2.cell (i := 1) rfl
  have ko2_2 := KO2.cell (i := 2) rfl
  clear ko2_0 ko2_1 ko2_2 KO2
  have HS4 := Lib.hid (HS4.out.below hb2)
  replace hzd : w3.heap.size + 1 ≤ e2.heap.size := by have := hb2.size; omega
  replace hz := hzd
  clear k0_0 k0_1 k0_2 k0_3 k0_4 k0_5 k0_6 k0_7 k0_8 k1_0 k1_1 k1_2 k1_3 k1_4 k1_5 k1_6 k1_7 k1_8 k1_9 k2_0 k2_1 k2_2 k2_3 k2_4 k2_5 k2_6 k2_7 k2_8 k3_0 k3_1 k3_2 k4_0 k4_1 k4_2 k4_3 k4_4 k4_5 k4_6 k4_7 k4_8
  replace K0 := K0.below hb2
  replace K1 := K1.below hb2
  replace K2 := K2.below hb2
  replace K3 := K3.below hb2
  replace K4 := K4.below hb2
  replace B := below_step B hb2 B.size
  clear hb2
  have k0_0 := K0.cell (i := 0) rfl
  have k0_1 := K0.cell (i := 1) rfl
  have k0_2 := K0.cell (i := 2) rfl
  have k0_3 := K0.cell (i := 3) rfl
  have k0_4 := K0.cell (i := 4) rfl
  have k0_5 := K0.cell (i := 5) rfl
  have k0_6 := K0.cell (i := 6) rfl
  have k0_7 := K0.cell (i := 7) rfl
  have k0_8 := K0.cell (i := 8) rfl
  have k1_0 := K1.cell (i := 0) rfl
  have k1_1 := K1.cell (i := 1) rfl
  have k1_2 := K1.cell (i := 2) rfl
  have k1_3 := K1.cell (i := 3) rfl
  have k1_4 := K1.cell (i := 4) rfl
  have k1_5 := K1.cell (i := 5) rfl
  have k1_6 := K1.cell (i := 6) rfl
  have k1_7 := K1.cell (i := 7) rfl
  have k1_8 := K1.cell (i := 8) rfl
  have k1_9 := K1.cell (i := 9) rfl
  have k2_0 := K2.cell (i := 0) rfl
  have k2_1 := K2.cell (i := 1) rfl
  have k2_2 := K2.cell (i := 2) rfl
  have k2_3 := K2.cell (i := 3) rfl
  have k2_4 := K2.cell (i := 4) rfl
  have k2_5 := K2.cell (i := 5) rfl
  have k2_6 := K2.cell (i := 6) rfl
  have k2_7 := K2.cell (i := 7) rfl
  have k2_8 := K2.cell (i := 8) rfl
  have k3_0 := K3.cell (i := 0) rfl
  have k3_1 := K3.cell (i := 1) rfl
  have k3_2 := K3.cell (i := 2) rfl
  have k4_0 := K4.cell (i := 0) rfl
  have k4_1 := K4.cell (i := 1) rfl
  have k4_2 := K4.cell (i := 2) rfl
  have k4_3 := K4.cell (i := 3) rfl
  have k4_4 := K4.cell (i := 4) rfl
  have k4_5 := K4.cell (i := 5) rfl
  have k4_6 := K4.cell (i := 6) rfl
  have k4_7 := K4.cell (i := 7) rfl
  have k4_8 := K4.cell (i := 8) rfl
  replace hbq2 : bq < e2.heap.size := World.rowIs.lt HS4.out
  have HS4 := Lib.hid (show ShB (e2.setCell ⟨w3.heap.size, 7, none⟩ (.int .i64 s2)) bq n (fun i => X0 i + X i) (fun i => Y0 i + Y i) from World.rowIs.setOther HS4.out (a := ⟨w3.heap.size, 7, none⟩) (by show bq ≠ w3.heap.size; omega) (.int .i64 s2))
  clear k0_0 k0_1 k0_2 k0_3 k0_4 k0_5 k0_6 k0_7 k0_8 k1_0 k1_1 k1_2 k1_3 k1_4 k1_5 k1_6 k1_7 k1_8 k1_9 k2_0 k2_1 k2_2 k2_3 k2_4 k2_5 k2_6 k2_7 k2_8 k3_0 k3_1 k3_2 k4_0 k4_1 k4_2 k4_3 k4_4 k4_5 k4_6 k4_7 k4_8
  replace K0 := K0.other (q := w3.heap.size) (by omega) 7 (.int .i64 s2)
  replace K1 := K1.other (q := w3.heap.size) (by omega) 7 (.int .i64 s2)
  replace K2 := K2.other (q := w3.heap.size) (by omega) 7 (.int .i64 s2)
  replace K3 := K3.other (q := w3.heap.size) (by omega) 7 (.int .i64 s2)
  replace K4 := K4.set 7 (.int .i64 s2)
  replace B := B.setCell (p := ⟨w3.heap.size, 7, none⟩) (by show w.heap.size ≤ w3.heap.size; omega) (.int .i64 s2)
  generalize (e2.setCell ⟨w3.heap.size, 7, none⟩ (.int .i64 s2)) = v2 at *
  have k0_0 := K0.cell (i := 0) rfl
  have k0_1 := K0.cell (i := 1) rfl
  have k0_2 := K0.cell (i := 2) rfl
  have k0_3 := K0.cell (i := 3) rfl
  have k0_4 := K0.cell (i := 4) rfl
  have k0_5 := K0.cell (i := 5) rfl
  have k0_6 := K0.cell (i := 6) rfl
  have k0_7 := K0.cell (i := 7) rfl
  have k0_8 := K0.cell (i := 8) rfl
  have k1_0 := K1.cell (i := 0) rfl
  have k1_1 := K1.cell (i := 1) rfl
  have k1_2 := K1.cell (i := 2) rfl
  have k1_3 := K1.cell (i := 3) rfl
  have k1_4 := K1.cell (i := 4) rfl
  have k1_5 := K1.cell (i := 5) rfl
  have k1_6 := K1.cell (i := 6) rfl
  have k1_7 := K1.cell (i := 7) rfl
  have k1_8 := K1.cell (i := 8) rfl
  have k1_9 := K1.cell (i := 9) rfl
  have k2_0 := K2.cell (i := 0) rfl
  have k2_1 := K2.cell (i := 1) rfl
  have k2_2 := K2.cell (i := 2) rfl
  have k2_3 := K2.cell (i := 3) rfl
  have k2_4 := K2.cell (i := 4) rfl
  have k2_5 := K2.cell (i := 5) rfl
  have k2_6 := K2.cell (i := 6) rfl
  have k2_7 := K2.cell (i := 7) rfl
  have k2_8 := K2.cell (i := 8) rfl
  have k3_0 := K3.cell (i := 0) rfl
  have k3_1 := K3.cell (i := 1) rfl
  have k3_2 := K3.cell (i := 2) rfl
  have k4_0 := K4.cell (i := 0) rfl
  have k4_1 := K4.cell (i := 1) rfl
  have k4_2 := K4.cell (i := 2) rfl
  have k4_3 := K4.cell (i := 3) rfl
  have k4_4 := K4.cell (i := 4) rfl
  have k4_5 := K4.cell (i := 5) rfl
  have k4_6 := K4.cell (i := 6) rfl
  have k4_7 := K4.cell (i := 7) rfl
  have k4_8 := K4.cell (i := 8) rfl
  replace hz : w3.heap.size + 1 ≤ v2.heap.size := K4.lt
  go_wp2_with (fail)
  rw [rounds_succ]
  have HS4 := Lib.hid (HS4.out.below (below_new v2 (.cells #[.int .i64 pay0, .int .i64 pay, .pointer (some ⟨w3.heap.size, 8, none⟩)] 115)))
  have NBn := below_new v2 (.cells #[.int .i64 pay0, .int .i64 pay, .pointer (some ⟨w3.heap.size, 8, none⟩)] 115)
  have KO3 := bx_new v2 [.int .i64 pay0, .int .i64 pay, .pointer (some ⟨w3.heap.size, 8, none⟩)] 115
  clear k0_0 k0_1 k0_2 k0_3 k0_4 k0_5 k0_6 k0_7 k0_8 k1_0 k1_1 k1_2 k1_3 k1_4 k1_5 k1_6 k1_7 k1_8 k1_9 k2_0 k2_1 k2_2 k2_3 k2_4 k2_5 k2_6 k2_7 k2_8 k3_0 k3_1 k3_2 k4_0 k4_1 k4_2 k4_3 k4_4 k4_5 k4_6 k4_7 k4_8
  replace K0 := K0.below NBn
  replace K1 := K1.below NBn
  replace K2 := K2.below NBn
  replace K3 := K3.below NBn
  replace K4 := K4.below NBn
  replace B := below_step B NBn B.size
  clear NBn
  have k0_0 := K0.cell (i := 0) rfl
  have k0_1 := K0.cell (i := 1) rfl
  have k0_2 := K0.cell (i := 2) rfl
  have k0_3 := K0.cell (i := 3) rfl
  have k0_4 := K0.cell (i := 4) rfl
  have k0_5 := K0.cell (i := 5) rfl
  have k0_6 := K0.cell (i := 6) rfl
  have k0_7 := K0.cell (i := 7) rfl
  have k0_8 := K0.cell (i := 8) rfl
  have k1_0 := K1.cell (i := 0) rfl
  have k1_1 := K1.cell (i := 1) rfl
  have k1_2 := K1.cell (i := 2) rfl
  have k1_3 := K1.cell (i := 3) rfl
  have k1_4 := K1.cell (i := 4) rfl
  have k1_5 := K1.cell (i := 5) rfl
  have k1_6 := K1.cell (i := 6) rfl
  have k1_7 := K1.cell (i := 7) rfl
  have k1_8 := K1.cell (i := 8) rfl
  have k1_9 := K1.cell (i := 9) rfl
  have k2_0 := K2.cell (i := 0) rfl
  have k2_1 := K2.cell (i := 1) rfl
  have k2_2 := K2.cell (i := 2) rfl
  have k2_3 := K2.cell (i := 3) rfl
  have k2_4 := K2.cell (i := 4) rfl
  have k2_5 := K2.cell (i := 5) rfl
  have k2_6 := K2.cell (i := 6) rfl
  have k2_7 := K2.cell (i := 7) rfl
  have k2_8 := K2.cell (i := 8) rfl
  have k3_0 := K3.cell (i := 0) rfl
  have k3_1 := K3.cell (i := 1) rfl
  have k3_2 := K3.cell (i := 2) rfl
  have k4_0 := K4.cell (i := 0) rfl
  have k4_1 := K4.cell (i := 1) rfl
  have k4_2 := K4.cell (i := 2) rfl
  have k4_3 := K4.cell (i := 3) rfl
  have k4_4 := K4.cell (i := 4) rfl
  have k4_5 := K4.cell (i := 5) rfl
  have k4_6 := K4.cell (i := 6) rfl
  have k4_7 := K4.cell (i := 7) rfl
  have k4_8 := K4.cell (i := 8) rfl
  have ko3_0 := KO3.cell (i := 0) rfl
  have ko3_1 := KO3.cell (i := 1) rfl
  have ko3_2 := KO3.cell (i := 2) rfl
  go_wp2_with (fail)
  generalize hW : (v2.alloc (.cells #[.int .i64 pay0, .int .i64 pay, .pointer (some ⟨w3.heap.size, 8, none⟩)] 115)) = d3 at *
  have hzd : v2.heap.size + 1 ≤ d3.heap.size := by rw [← hW]; simp
  clear hW
  generalize hq : v2.heap.size = q3 at *
  clear hq
  have S1 : d3.drew.cell? ⟨q3, 0, none⟩ = some (.int .i64 pay0) ∧ d3.drew.cell? ⟨q3, 1, none⟩ = some (.int .i64 pay) ∧ d3.drew.cell? ⟨q3, 2, none⟩ = some (.pointer (some ⟨w3.heap.size, 8, none⟩)) := ⟨ko3_0, ko3_1, ko3_2⟩
  have mk : ∀ X : World, Below d3.heap.size d3 X → (X.cell? ⟨q3, 0, none⟩ = some (.int .i64 pay0) ∧ X.cell? ⟨q3, 1, none⟩ = some (.int .i64 pay) ∧ X.cell? ⟨q3, 2, none⟩ = some (.pointer (some ⟨w3.heap.size, 8, none⟩))) := fun X hb => ⟨cell_later hb ko3_0, cell_later hb ko3_1, cell_later hb ko3_2⟩
  have mks : ∀ X : World, Below d3.heap.size d3 X → ((X.setCell ⟨w3.heap.size, 8, none⟩ (.int .i64 s3)).cell? ⟨q3, 0, none⟩ = some (.int .i64 pay0) ∧ (X.setCell ⟨w3.heap.size, 8, none⟩ (.int .i64 s3)).cell? ⟨q3, 1, none⟩ = some (.int .i64 pay) ∧ (X.setCell ⟨w3.heap.size, 8, none⟩ (.int .i64 s3)).cell? ⟨q3, 2, none⟩ = some (.pointer (some ⟨w3.heap.size, 8, none⟩))) := fun X hb => ⟨(World.cell?_setCell_other _ _ _ _ (by intro e; simp only [Addr.mk.injEq] at e; omega)).trans (cell_later hb ko3_0), (World.cell?_setCell_other _ _ _ _ (by intro e; simp only [Addr.mk.injEq] at e; omega)).trans (cell_later hb ko3_1), (World.cell?_setCell_other _ _ _ _ (by intro e; simp only [Addr.mk.injEq] at e; omega)).trans (cell_later hb ko3_2)⟩
  have hdd : Below d3.heap.size d3 d3.drew := (Below.refl _ _).drew
  clear k0_0 k0_1 k0_2 k0_3 k0_4 k0_5 k0_6 k0_7 k0_8 k1_0 k1_1 k1_2 k1_3 k1_4 k1_5 k1_6 k1_7 k1_8 k1_9 k2_0 k2_1 k2_2 k2_3 k2_4 k2_5 k2_6 k2_7 k2_8 k3_0 k3_1 k3_2 k4_0 k4_1 k4_2 k4_3 k4_4 k4_5 k4_6 k4_7 k4_8 ko3_0 ko3_1 ko3_2
  go_region_held3 (fun X => X.cell? ⟨q3, 0, none⟩ = some (.int .i64 pay0) ∧ X.cell? ⟨q3, 1, none⟩ = some (.int .i64 pay) ∧ X.cell? ⟨q3, 2, none⟩ = some (.pointer (some ⟨w3.heap.size, 8, none⟩)))
    ((first | exact S1 | assumption | exact mk _ hb3 | exact mks _ hb3))
    (first
      | (go_at_call 53; (with_reducible refine (cA3 _).mono ?_); rintro e e3 ⟨rfl, hbx⟩; have hb3 := below_step hdd hbx hdd.size; have E4 := K4.below hb3; have e4_0 := E4.cell (i := 8) rfl; have e4_1 := E4.fr 8))
  clear S1 mk mks hdd E4 e4_0 e4_1 cA3
  try clear hbx
  have k0_0 := K0.cell (i := 0) rfl
  have k0_1 := K0.cell (i := 1) rfl
  have k0_2 := K0.cell (i := 2) rfl
  have k0_3 := K0.cell (i := 3) rfl
  have k0_4 := K0.cell (i := 4) rfl
  have k0_5 := K0.cell (i := 5) rfl
  have k0_6 := K0.cell (i := 6) rfl
  have k0_7 := K0.cell (i := 7) rfl
  have k0_8 := K0.cell (i := 8) rfl
  have k1_0 := K1.cell (i := 0) rfl
  have k1_1 := K1.cell (i := 1) rfl
  have k1_2 := K1.cell (i := 2) rfl
  have k1_3 := K1.cell (i := 3) rfl
  have k1_4 := K1.cell (i := 4) rfl
  have k1_5 := K1.cell (i := 5) rfl
  have k1_6 := K1.cell (i := 6) rfl
  have k1_7 := K1.cell (i := 7) rfl
  have k1_8 := K1.cell (i := 8) rfl
  have k1_9 := K1.cell (i := 9) rfl
  have k2_0 := K2.cell (i := 0) rfl
  have k2_1 := K2.cell (i := 1) rfl
  have k2_2 := K2.cell (i := 2) rfl
  have k2_3 := K2.cell (i := 3) rfl
  have k2_4 := K2.cell (i := 4) rfl
  have k2_5 := K2.cell (i := 5) rfl
  have k2_6 := K2.cell (i := 6) rfl
  have k2_7 := K2.cell (i := 7) rfl
  have k2_8 := K2.cell (i := 8) rfl
  have k3_0 := K3.cell (i := 0) rfl
  have k3_1 := K3.cell (i := 1) rfl
  have k3_2 := K3.cell (i := 2) rfl
  have k4_0 := K4.cell (i := 0) rfl
  have k4_1 := K4.cell (i := 1) rfl
  have k4_2 := K4.cell (i := 2) rfl
  have k4_3 := K4.cell (i := 3) rfl
  have k4_4 := K4.cell (i := 4) rfl
  have k4_5 := K4.cell (i := 5) rfl
  have k4_6 := K4.cell (i := 6) rfl
  have k4_7 := K4.cell (i := 7) rfl
  have k4_8 := K4.cell (i := 8) rfl
  have ko3_0 := KO3.cell (i := 0) rfl
  have ko3_1 := KO3.cell (i := 1) rfl
  have ko3_2 := KO3.cell (i := 2) rfl
  clear ko3_0 ko3_1 ko3_2 KO3
  have HS4 := Lib.hid (HS4.out.below hb3)
  replace hzd : w3.heap.size + 1 ≤ e3.heap.size := by have := hb3.size; omega
  replace hz := hzd
  clear k0_0 k0_1 k0_2 k0_3 k0_4 k0_5 k0_6 k0_7 k0_8 k1_0 k1_1 k1_2 k1_3 k1_4 k1_5 k1_6 k1_7 k1_8 k1_9 k2_0 k2_1 k2_2 k2_3 k2_4 k2_5 k2_6 k2_7 k2_8 k3_0 k3_1 k3_2 k4_0 k4_1 k4_2 k4_3 k4_4 k4_5 k4_6 k4_7 k4_8
  replace K0 := K0.below hb3
  replace K1 := K1.below hb3
  replace K2 := K2.below hb3
  replace K3 := K3.below hb3
  replace K4 := K4.below hb3
  replace B := below_step B hb3 B.size
  clear hb3
  have k0_0 := K0.cell (i := 0) rfl
  have k0_1 := K0.cell (i := 1) rfl
  have k0_2 := K0.cell (i := 2) rfl
  have k0_3 := K0.cell (i := 3) rfl
  have k0_4 := K0.cell (i := 4) rfl
  have k0_5 := K0.cell (i := 5) rfl
  have k0_6 := K0.cell (i := 6) rfl
  have k0_7 := K0.cell (i := 7) rfl
  have k0_8 := K0.cell (i := 8) rfl
  have k1_0 := K1.cell (i := 0) rfl
  have k1_1 := K1.cell (i := 1) rfl
  have k1_2 := K1.cell (i := 2) rfl
  have k1_3 := K1.cell (i := 3) rfl
  have k1_4 := K1.cell (i := 4) rfl
  have k1_5 := K1.cell (i := 5) rfl
  have k1_6 := K1.cell (i := 6) rfl
  have k1_7 := K1.cell (i := 7) rfl
  have k1_8 := K1.cell (i := 8) rfl
  have k1_9 := K1.cell (i := 9) rfl
  have k2_0 := K2.cell (i := 0) rfl
  have k2_1 := K2.cell (i := 1) rfl
  have k2_2 := K2.cell (i := 2) rfl
  have k2_3 := K2.cell (i := 3) rfl
  have k2_4 := K2.cell (i := 4) rfl
  have k2_5 := K2.cell (i := 5) rfl
  have k2_6 := K2.cell (i := 6) rfl
  have k2_7 := K2.cell (i := 7) rfl
  have k2_8 := K2.cell (i := 8) rfl
  have k3_0 := K3.cell (i := 0) rfl
  have k3_1 := K3.cell (i := 1) rfl
  have k3_2 := K3.cell (i := 2) rfl
  have k4_0 := K4.cell (i := 0) rfl
  have k4_1 := K4.cell (i := 1) rfl
  have k4_2 := K4.cell (i := 2) rfl
  have k4_3 := K4.cell (i := 3) rfl
  have k4_4 := K4.cell (i := 4) rfl
  have k4_5 := K4.cell (i := 5) rfl
  have k4_6 := K4.cell (i := 6) rfl
  have k4_7 := K4.cell (i := 7) rfl
  have k4_8 := K4.cell (i := 8) rfl
  replace hbq2 : bq < e3.heap.size := World.rowIs.lt HS4.out
  have HS4 := Lib.hid (show ShB (e3.setCell ⟨w3.heap.size, 8, none⟩ (.int .i64 s3)) bq n (fun i => X0 i + X i) (fun i => Y0 i + Y i) from World.rowIs.setOther HS4.out (a := ⟨w3.heap.size, 8, none⟩) (by show bq ≠ w3.heap.size; omega) (.int .i64 s3))
  clear k0_0 k0_1 k0_2 k0_3 k0_4 k0_5 k0_6 k0_7 k0_8 k1_0 k1_1 k1_2 k1_3 k1_4 k1_5 k1_6 k1_7 k1_8 k1_9 k2_0 k2_1 k2_2 k2_3 k2_4 k2_5 k2_6 k2_7 k2_8 k3_0 k3_1 k3_2 k4_0 k4_1 k4_2 k4_3 k4_4 k4_5 k4_6 k4_7 k4_8
  replace K0 := K0.other (q := w3.heap.size) (by omega) 8 (.int .i64 s3)
  replace K1 := K1.other (q := w3.heap.size) (by omega) 8 (.int .i64 s3)
  replace K2 := K2.other (q := w3.heap.size) (by omega) 8 (.int .i64 s3)
  replace K3 := K3.other (q := w3.heap.size) (by omega) 8 (.int .i64 s3)
  replace K4 := K4.set 8 (.int .i64 s3)
  replace B := B.setCell (p := ⟨w3.heap.size, 8, none⟩) (by show w.heap.size ≤ w3.heap.size; omega) (.int .i64 s3)
  generalize (e3.setCell ⟨w3.heap.size, 8, none⟩ (.int .i64 s3)) = v3 at *
  have k0_0 := K0.cell (i := 0) rfl
  have k0_1 := K0.cell (i := 1) rfl
  have k0_2 := K0.cell (i := 2) rfl
  have k0_3 := K0.cell (i := 3) rfl
  have k0_4 := K0.cell (i := 4) rfl
  have k0_5 := K0.cell (i := 5) rfl
  have k0_6 := K0.cell (i := 6) rfl
  have k0_7 := K0.cell (i := 7) rfl
  have k0_8 := K0.cell (i := 8) rfl
  have k1_0 := K1.cell (i := 0) rfl
  have k1_1 := K1.cell (i := 1) rfl
  have k1_2 := K1.cell (i := 2) rfl
  have k1_3 := K1.cell (i := 3) rfl
  have k1_4 := K1.cell (i := 4) rfl
  have k1_5 := K1.cell (i := 5) rfl
  have k1_6 := K1.cell (i := 6) rfl
  have k1_7 := K1.cell (i := 7) rfl
  have k1_8 := K1.cell (i := 8) rfl
  have k1_9 := K1.cell (i := 9) rfl
  have k2_0 := K2.cell (i := 0) rfl
  have k2_1 := K2.cell (i := 1) rfl
  have k2_2 := K2.cell (i := 2) rfl
  have k2_3 := K2.cell (i := 3) rfl
  have k2_4 := K2.cell (i := 4) rfl
  have k2_5 := K2.cell (i := 5) rfl
  have k2_6 := K2.cell (i := 6) rfl
  have k2_7 := K2.cell (i := 7) rfl
  have k2_8 := K2.cell (i := 8) rfl
  have k3_0 := K3.cell (i := 0) rfl
  have k3_1 := K3.cell (i := 1) rfl
  have k3_2 := K3.cell (i := 2) rfl
  have k4_0 := K4.cell (i := 0) rfl
  have k4_1 := K4.cell (i := 1) rfl
  have k4_2 := K4.cell (i := 2) rfl
  have k4_3 := K4.cell (i := 3) rfl
  have k4_4 := K4.cell (i := 4) rfl
  have k4_5 := K4.cell (i := 5) rfl
  have k4_6 := K4.cell (i := 6) rfl
  have k4_7 := K4.cell (i := 7) rfl
  have k4_8 := K4.cell (i := 8) rfl
  replace hz : w3.heap.size + 1 ≤ v3.heap.size := K4.lt
  go_wp2_with (fail)
  rw [rounds_succ]
  clear k0_0 k0_1 k0_2 k0_3 k0_4 k0_5 k0_6 k0_7 k0_8 K0
  clear k1_0 k1_1 k1_2 k1_3 k1_4 k1_5 k1_6 k1_7 k1_8 k1_9 K1
  clear k3_0 k3_1 k3_2 K3
  have gr_0 := K2.fr 0
  have gr_1 := K2.fr 1
  have gr_2 := K2.fr 2
  have gr_3 := K2.fr 3
  have gr_4 := K2.fr 4
  have gr_5 := K2.fr 5
  have gr_6 := K2.fr 6
  have gr_7 := K2.fr 7
  have gr_8 := K2.fr 8
  have Z := (((((((((K2.set 0 (.int .i64 u0)).set 1 (.int .i64 u1)).set 2 (.int .i64 u2)).set 3 (.int .i64 s0)).set 4 (.int .i64 sf)).set 5 (.slice (some ⟨bq, 0, none⟩) n n)).set 6 (.int .i64 s1)).set 7 (.int .i64 s2)).set 8 (.int .i64 s3))
  have z0 := Z.cell (i := 0) rfl
  have z1 := Z.cell (i := 1) rfl
  have z2 := Z.cell (i := 2) rfl
  have z3 := Z.cell (i := 3) rfl
  have z4 := Z.cell (i := 4) rfl
  have z5 := Z.cell (i := 5) rfl
  have z6 := Z.cell (i := 6) rfl
  have z7 := Z.cell (i := 7) rfl
  have z8 := Z.cell (i := 8) rfl
  have hp : w.heap.size ≤ w.heap.size + 1 + 1 := by omega
  clear Z
  go_wp2
  exact bodyPost_ret (v := .tuple #[.agg #[.int .i64 u0, .int .i64 u1, .int .i64 u2, .int .i64 s0, .int .i64 sf, .slice (some ⟨bq, 0, none⟩) n n, .int .i64 s1, .int .i64 s2, .int .i64 s3], .int .i64 0]) (by simp [results, Try.results41, go_sem, z0, z1, z2, z3, z4, z5, z6, z7, z8]) rfl ⟨bq, rfl, by omega, (World.rowIs.setOther (World.rowIs.setOther (World.rowIs.setOther (World.rowIs.setOther (World.rowIs.setOther (World.rowIs.setOther (World.rowIs.setOther (World.rowIs.setOther (World.rowIs.setOther HS4.out (a := ⟨w.heap.size + 1 + 1, 0, none⟩) (by show bq ≠ w.heap.size + 1 + 1; omega) _) (a := ⟨w.heap.size + 1 + 1, 1, none⟩) (by show bq ≠ w.heap.size + 1 + 1; omega) _) (a := ⟨w.heap.size + 1 + 1, 2, none⟩) (by show bq ≠ w.heap.size + 1 + 1; omega) _) (a := ⟨w.heap.size + 1 + 1, 3, none⟩) (by show bq ≠ w.heap.size + 1 + 1; omega) _) (a := ⟨w.heap.size + 1 + 1, 4, none⟩) (by show bq ≠ w.heap.size + 1 + 1; omega) _) (a := ⟨w.heap.size + 1 + 1, 5, none⟩) (by show bq ≠ w.heap.size + 1 + 1; omega) _) (a := ⟨w.heap.size + 1 + 1, 6, none⟩) (by show bq ≠ w.heap.size + 1 + 1; omega) _) (a := ⟨w.heap.size + 1 + 1, 7, none⟩) (by show bq ≠ w.heap.size + 1 + 1; omega) _) (a := ⟨w.heap.size + 1 + 1, 8, none⟩) (by show bq ≠ w.heap.size + 1 + 1; omega) _), (((((((((B.setCell (p := ⟨w.heap.size + 1 + 1, 0, none⟩) hp _).setCell (p := ⟨w.heap.size + 1 + 1, 1, none⟩) hp _).setCell (p := ⟨w.heap.size + 1 + 1, 2, none⟩) hp _).setCell (p := ⟨w.heap.size + 1 + 1, 3, none⟩) hp _).setCell (p := ⟨w.heap.size + 1 + 1, 4, none⟩) hp _).setCell (p := ⟨w.heap.size + 1 + 1, 5, none⟩) hp _).setCell (p := ⟨w.heap.size + 1 + 1, 6, none⟩) hp _).setCell (p := ⟨w.heap.size + 1 + 1, 7, none⟩) hp _).setCell (p := ⟨w.heap.size + 1 + 1, 8, none⟩) hp _)⟩
end Go.Proofs.Ytfnjhalpedccaaa
