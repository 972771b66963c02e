/- What year.Try answers. -/
import Derived.Test.YtfnjhalpedccaaaYrL
import Derived.Test.YtfnjhalpedccaaaYrB
import Derived.Deep.RegionWith
import Derived.Lib.QuietBelow
import Derived.BigQuiet
namespace Go.Proofs.Ytfnjhalpedccaaa
open Go.RowKit Go.Sort
set_option linter.unusedVariables false
set_option linter.unusedSimpArgs false

theorem mixedY : Try.prog.follows .mixedOrders = true := by kernel_rfl
theorem ycheck_any (s : Slp) (N : Int) (w : World) (h : SlM w s) (hn : s.n ≤ 100000) (hm : s.m ≤ 100000) (v : Int) (hv : s.chk N = v) :
    Calls Try.prog 40 #[.agg #[.int .i64 s.k, .int .i64 s.ca, .int .i64 s.tb, .int .i64 s.so, .int .i64 s.tx, .int .i64 s.sf, .slice s.A s.n s.c, .int .i64 s.net, .slice s.T s.m s.d, .int .i64 s.pay], .int .i64 N] w fun e w' => e = .returned (.int .i64 v) ∧ Below w.heap.size w w' :=
  ycheck_raw s.k s.ca s.tb s.so s.tx s.sf s.A s.n s.c s.net s.T s.m s.d s.pay s.X s.Y s.f N w h.sh h.tk (by omega) (by omega) v hv
/-- a year's totals, as they lie -/
theorem YO.tot {W : World} {p n cnt : Nat} {g : Nat → Slp} {t : Tot} {F : Nat → Prop} (h : YO W p n cnt g t F) : ∃ A c B bc, Bx W p 86 [.slice A cnt c, .int .i64 t.ca, .int .i64 t.tb, .int .i64 t.so, .int .i64 t.tx, .int .i64 t.sf, .slice B n bc, .int .i64 t.net, .int .i64 t.tk, .int .i64 t.pay] ∧ Shs W B n t.X t.Y := by
  obtain ⟨A, c, B, bc, h⟩ := h
  exact ⟨A, c, B, bc, h.K, h.S⟩
set_option maxRecDepth 100000 in
set_option maxHeartbeats 8000000 in
theorem ytry_chk {W : World} {p n cnt : Nat} {g : Nat → Slp} {t : Tot} {F : Nat → Prop} (h : YO W p n cnt g t F) (s : Slp) (hM : SlM W s) (hn : n ≤ 64) (hsn : s.n ≤ 100000) (hsm : s.m ≤ 100000) (hcnt : cnt ≤ 1000) (v : Int) (hv : s.chk n = v) (hv0 : v ≠ 0) :
    Calls Try.prog 12 #[.pointer (some ⟨p, 0, none⟩), .agg #[.int .i64 s.k, .int .i64 s.ca, .int .i64 s.tb, .int .i64 s.so, .int .i64 s.tx, .int .i64 s.sf, .slice s.A s.n s.c, .int .i64 s.net, .slice s.T s.m s.d, .int .i64 s.pay]] W fun e w' => e = .returned (.tuple #[.agg #[.int .i64 0, .int .i64 0, .int .i64 0, .int .i64 0, .int .i64 0, .slice none 0 0, .int .i64 0, .int .i64 0, .int .i64 0], .int .i64 v]) ∧ Below W.heap.size W w' := by
  have K := (bx_new W [.int .i64 s.k, .int .i64 s.ca, .int .i64 s.tb, .int .i64 s.so, .int .i64 s.tx, .int .i64 s.sf, .slice s.A s.n s.c, .int .i64 s.net, .slice s.T s.m s.d, .int .i64 s.pay] 37).alloc (.cells #[.int .i64 0, .int .i64 0, .int .i64 0, .int .i64 0, .int .i64 0, .slice none 0 0, .int .i64 0, .int .i64 0, .int .i64 0] 34)
  have K1 := bx_at (W.alloc (.cells #[.int .i64 s.k, .int .i64 s.ca, .int .i64 s.tb, .int .i64 s.so, .int .i64 s.tx, .int .i64 s.sf, .slice s.A s.n s.c, .int .i64 s.net, .slice s.T s.m s.d, .int .i64 s.pay] 37)) [.int .i64 0, .int .i64 0, .int .i64 0, .int .i64 0, .int .i64 0, .slice none 0 0, .int .i64 0, .int .i64 0, .int .i64 0] 34 (n := W.heap.size + 1) (by simp)
  have B := (below_new W (.cells #[.int .i64 s.k, .int .i64 s.ca, .int .i64 s.tb, .int .i64 s.so, .int .i64 s.tx, .int .i64 s.sf, .slice s.A s.n s.c, .int .i64 s.net, .slice s.T s.m s.d, .int .i64 s.pay] 37)).alloc (by simp) (.cells #[.int .i64 0, .int .i64 0, .int .i64 0, .int .i64 0, .int .i64 0, .slice none 0 0, .int .i64 0, .int .i64 0, .int .i64 0] 34)
  have hM1 := hM.below B
  have h1 := h.below B
  clear hM h
  go_enter Try.func12, Try.ntmps12
  go_wp2_with (fail)
  generalize ((W.alloc (.cells #[.int .i64 s.k, .int .i64 s.ca, .int .i64 s.tb, .int .i64 s.so, .int .i64 s.tx, .int .i64 s.sf, .slice s.A s.n s.c, .int .i64 s.net, .slice s.T s.m s.d, .int .i64 s.pay] 37)).alloc (.cells #[.int .i64 0, .int .i64 0, .int .i64 0, .int .i64 0, .int .i64 0, .slice none 0 0, .int .i64 0, .int .i64 0, .int .i64 0] 34)) = w1 at *
  have cC := fun (d : Nat) (os : Array Obj) => Calls.regrown_of (d := d) (os := os) (w := w1) (ycheck_any s n (grow (redrawn w1 d) os) (hM1.below (below_regrown w1 d os)) hsn hsm v hv)
  obtain ⟨A0, c0, B0, b0, KY, hS0⟩ := h1.tot
  have y6 := fun d os => cell_regrown (KY.cell (i := 6) rfl) d os
  have e0 := fun d os => cell_regrown (K.cell (i := 0) rfl) d os
  have e1 := fun d os => cell_regrown (K.cell (i := 1) rfl) d os
  have e2 := fun d os => cell_regrown (K.cell (i := 2) rfl) d os
  have e3 := fun d os => cell_regrown (K.cell (i := 3) rfl) d os
  have e4 := fun d os => cell_regrown (K.cell (i := 4) rfl) d os
  have e5 := fun d os => cell_regrown (K.cell (i := 5) rfl) d os
  have e6 := fun d os => cell_regrown (K.cell (i := 6) rfl) d os
  have e7 := fun d os => cell_regrown (K.cell (i := 7) rfl) d os
  have e8 := fun d os => cell_regrown (K.cell (i := 8) rfl) d os
  have e9 := fun d os => cell_regrown (K.cell (i := 9) rfl) d os
  refine wp_region_quiet_below mixedY (by kernel_rfl) ?_
  iterate 7 (go_big_quiet_step (fail))
  go_big_quiet_step (exact cC _ _)
  repeat (go_big_quiet_step (fail))
  refine wpQuiet_nil ?_
  intro _ hw'
  obtain ⟨⟨dq, osq⟩, hw''⟩ := hw'
  subst hw''
  have NB := below_regrown w1 dq osq
  clear cC y6 e0 e1 e2 e3 e4 e5 e6 e7 e8 e9
  generalize grow (redrawn w1 dq) osq = w2 at *
  replace K := K.below NB
  replace K1 := K1.below NB
  replace B := below_step B NB B.size
  replace h1 := h1.below NB
  replace hM1 := hM1.below NB
  replace KY := KY.below NB
  replace hS0 := hS0.below NB
  clear NB
  have hp : W.heap.size + 1 < w2.heap.size := K1.lt
  have t1 : (v != 0) = true := by simp [hv0]
  have k_0 := K1.cell (i := 0) rfl
  have g_0 := K1.fr 0
  have k_1 := K1.cell (i := 1) rfl
  have g_1 := K1.fr 1
  have k_2 := K1.cell (i := 2) rfl
  have g_2 := K1.fr 2
  have k_3 := K1.cell (i := 3) rfl
  have g_3 := K1.fr 3
  have k_4 := K1.cell (i := 4) rfl
  have g_4 := K1.fr 4
  have k_5 := K1.cell (i := 5) rfl
  have g_5 := K1.fr 5
  have k_6 := K1.cell (i := 6) rfl
  have g_6 := K1.fr 6
  have k_7 := K1.cell (i := 7) rfl
  have g_7 := K1.fr 7
  have k_8 := K1.cell (i := 8) rfl
  have g_8 := K1.fr 8
  have Z := (((((((((K1.set 0 (.int .i64 0)).set 1 (.int .i64 0)).set 2 (.int .i64 0)).set 3 (.int .i64 0)).set 4 (.int .i64 0)).set 5 (.slice none 0 0)).set 6 (.int .i64 0)).set 7 (.int .i64 0)).set 8 (.int .i64 0))
  have z_0 := Z.cell (i := 0) rfl
  have z_1 := Z.cell (i := 1) rfl
  have z_2 := Z.cell (i := 2) rfl
  have z_3 := Z.cell (i := 3) rfl
  have z_4 := Z.cell (i := 4) rfl
  have z_5 := Z.cell (i := 5) rfl
  have z_6 := Z.cell (i := 6) rfl
  have z_7 := Z.cell (i := 7) rfl
  have z_8 := Z.cell (i := 8) rfl
  have BZ := (((((((((B.setCell (p := ⟨W.heap.size + 1, 0, none⟩) (by show W.heap.size ≤ W.heap.size + 1; omega) (.int .i64 0)).setCell (p := ⟨W.heap.size + 1, 1, none⟩) (by show W.heap.size ≤ W.heap.size + 1; omega) (.int .i64 0)).setCell (p := ⟨W.heap.size + 1, 2, none⟩) (by show W.heap.size ≤ W.heap.size + 1; omega) (.int .i64 0)).setCell (p := ⟨W.heap.size + 1, 3, none⟩) (by show W.heap.size ≤ W.heap.size + 1; omega) (.int .i64 0)).setCell (p := ⟨W.heap.size + 1, 4, none⟩) (by show W.heap.size ≤ W.heap.size + 1; omega) (.int .i64 0)).setCell (p := ⟨W.heap.size + 1, 5, none⟩) (by show W.heap.size ≤ W.heap.size + 1; omega) (.slice none 0 0)).setCell (p := ⟨W.heap.size + 1, 6, none⟩) (by show W.heap.size ≤ W.heap.size + 1; omega) (.int .i64 0)).setCell (p := ⟨W.heap.size + 1, 7, none⟩) (by show W.heap.size ≤ W.heap.size + 1; omega) (.int .i64 0)).setCell (p := ⟨W.heap.size + 1, 8, none⟩) (by show W.heap.size ≤ W.heap.size + 1; omega) (.int .i64 0))
  clear Z K K1 B h1 hM1 KY hS0 hv hv0
  go_wp2
  exact bodyPost_ret (v := .tuple #[.agg #[.int .i64 0, .int .i64 0, .int .i64 0, .int .i64 0, .int .i64 0, .slice none 0 0, .int .i64 0, .int .i64 0, .int .i64 0], .int .i64 v]) (by simp [results, Try.results12, go_sem, z_0, z_1, z_2, z_3, z_4, z_5, z_6, z_7, z_8]) rfl ⟨rfl, BZ⟩
set_option maxRecDepth 100000 in
set_option maxHeartbeats 8000000 in
theorem ytry_ord {W : World} {p n cnt : Nat} {g : Nat → Slp} {t : Tot} {F : Nat → Prop} (h : YO W p n cnt g t F) (s : Slp) (hM : SlM W s) (hn : n ≤ 64) (hsn : s.n ≤ 100000) (hsm : s.m ≤ 100000) (hcnt : cnt ≤ 1000) (hs : s.OK n) (hk : s.k ≠ (cnt : Int) + 1) :
    Calls Try.prog 12 #[.pointer (some ⟨p, 0, none⟩), .agg #[.int .i64 s.k, .int .i64 s.ca, .int .i64 s.tb, .int .i64 s.so, .int .i64 s.tx, .int .i64 s.sf, .slice s.A s.n s.c, .int .i64 s.net, .slice s.T s.m s.d, .int .i64 s.pay]] W fun e w' => e = .returned (.tuple #[.agg #[.int .i64 0, .int .i64 0, .int .i64 0, .int .i64 0, .int .i64 0, .slice none 0 0, .int .i64 0, .int .i64 0, .int .i64 0], .int .i64 6]) ∧ Below W.heap.size W w' := by
  have K := (bx_new W [.int .i64 s.k, .int .i64 s.ca, .int .i64 s.tb, .int .i64 s.so, .int .i64 s.tx, .int .i64 s.sf, .slice s.A s.n s.c, .int .i64 s.net, .slice s.T s.m s.d, .int .i64 s.pay] 37).alloc (.cells #[.int .i64 0, .int .i64 0, .int .i64 0, .int .i64 0, .int .i64 0, .slice none 0 0, .int .i64 0, .int .i64 0, .int .i64 0] 34)
  have K1 := bx_at (W.alloc (.cells #[.int .i64 s.k, .int .i64 s.ca, .int .i64 s.tb, .int .i64 s.so, .int .i64 s.tx, .int .i64 s.sf, .slice s.A s.n s.c, .int .i64 s.net, .slice s.T s.m s.d, .int .i64 s.pay] 37)) [.int .i64 0, .int .i64 0, .int .i64 0, .int .i64 0, .int .i64 0, .slice none 0 0, .int .i64 0, .int .i64 0, .int .i64 0] 34 (n := W.heap.size + 1) (by simp)
  have B := (below_new W (.cells #[.int .i64 s.k, .int .i64 s.ca, .int .i64 s.tb, .int .i64 s.so, .int .i64 s.tx, .int .i64 s.sf, .slice s.A s.n s.c, .int .i64 s.net, .slice s.T s.m s.d, .int .i64 s.pay] 37)).alloc (by simp) (.cells #[.int .i64 0, .int .i64 0, .int .i64 0, .int .i64 0, .int .i64 0, .slice none 0 0, .int .i64 0, .int .i64 0, .int .i64 0] 34)
  have hM1 := hM.below B
  have h1 := h.below B
  clear hM h
  have hv := hs.chk
  go_enter Try.func12, Try.ntmps12
  go_wp2_with (fail)
  generalize ((W.alloc (.cells #[.int .i64 s.k, .int .i64 s.ca, .int .i64 s.tb, .int .i64 s.so, .int .i64 s.tx, .int .i64 s.sf, .slice s.A s.n s.c, .int .i64 s.net, .slice s.T s.m s.d, .int .i64 s.pay] 37)).alloc (.cells #[.int .i64 0, .int .i64 0, .int .i64 0, .int .i64 0, .int .i64 0, .slice none 0 0, .int .i64 0, .int .i64 0, .int .i64 0] 34)) = w1 at *
  have cC := fun (d : Nat) (os : Array Obj) => Calls.regrown_of (d := d) (os := os) (w := w1) (ycheck_any s n (grow (redrawn w1 d) os) (hM1.below (below_regrown w1 d os)) hsn hsm 0 hv)
  obtain ⟨A0, c0, B0, b0, KY, hS0⟩ := h1.tot
  have y6 := fun d os => cell_regrown (KY.cell (i := 6) rfl) d os
  have e0 := fun d os => cell_regrown (K.cell (i := 0) rfl) d os
  have e1 := fun d os => cell_regrown (K.cell (i := 1) rfl) d os
  have e2 := fun d os => cell_regrown (K.cell (i := 2) rfl) d os
  have e3 := fun d os => cell_regrown (K.cell (i := 3) rfl) d os
  have e4 := fun d os => cell_regrown (K.cell (i := 4) rfl) d os
  have e5 := fun d os => cell_regrown (K.cell (i := 5) rfl) d os
  have e6 := fun d os => cell_regrown (K.cell (i := 6) rfl) d os
  have e7 := fun d os => cell_regrown (K.cell (i := 7) rfl) d os
  have e8 := fun d os => cell_regrown (K.cell (i := 8) rfl) d os
  have e9 := fun d os => cell_regrown (K.cell (i := 9) rfl) d os
  refine wp_region_quiet_below mixedY (by kernel_rfl) ?_
  iterate 7 (go_big_quiet_step (fail))
  go_big_quiet_step (exact cC _ _)
  repeat (go_big_quiet_step (fail))
  refine wpQuiet_nil ?_
  intro _ hw'
  obtain ⟨⟨dq, osq⟩, hw''⟩ := hw'
  subst hw''
  have NB := below_regrown w1 dq osq
  clear cC y6 e0 e1 e2 e3 e4 e5 e6 e7 e8 e9
  generalize grow (redrawn w1 dq) osq = w2 at *
  replace K := K.below NB
  replace K1 := K1.below NB
  replace B := below_step B NB B.size
  replace h1 := h1.below NB
  replace hM1 := hM1.below NB
  replace KY := KY.below NB
  replace hS0 := hS0.below NB
  clear NB
  have hp : W.heap.size + 1 < w2.heap.size := K1.lt
  clear hv
  go_wp2_with (fail)
  have cC := fun (d : Nat) (os : Array Obj) => Calls.regrown_of (d := d) (os := os) (w := w2) ((ycount_any (h1.below (below_regrown w2 d os))).mono (by rintro e w' ⟨rfl, rfl⟩; exact ⟨rfl, Below.refl _ _⟩))
  have e0 := fun d os => cell_regrown (K.cell (i := 0) rfl) d os
  have hww : wrap64 ((cnt : Int) + 1) = (cnt : Int) + 1 := IntWalk.wrap64_in _ (by omega)
  have t2 : (s.k != (cnt : Int) + 1) = true := by simp [hk]
  refine wp_region_quiet_below mixedY (by kernel_rfl) ?_
  iterate 3 (go_big_quiet_step (fail))
  go_big_quiet_step (exact cC _ _)
  repeat (go_big_quiet_step (fail))
  refine wpQuiet_nil ?_
  intro _ hw'
  obtain ⟨⟨dq, osq⟩, hw''⟩ := hw'
  subst hw''
  have NB := below_regrown w2 dq osq
  clear cC e0 hww
  generalize grow (redrawn w2 dq) osq = w3 at *
  replace K := K.below NB
  replace K1 := K1.below NB
  replace B := below_step B NB B.size
  replace h1 := h1.below NB
  replace hM1 := hM1.below NB
  replace KY := KY.below NB
  replace hS0 := hS0.below NB
  replace hp : W.heap.size + 1 < w3.heap.size := K1.lt
  clear NB
  clear hk hp
  have k_0 := K1.cell (i := 0) rfl
  have g_0 := K1.fr 0
  have k_1 := K1.cell (i := 1) rfl
  have g_1 := K1.fr 1
  have k_2 := K1.cell (i := 2) rfl
  have g_2 := K1.fr 2
  have k_3 := K1.cell (i := 3) rfl
  have g_3 := K1.fr 3
  have k_4 := K1.cell (i := 4) rfl
  have g_4 := K1.fr 4
  have k_5 := K1.cell (i := 5) rfl
  have g_5 := K1.fr 5
  have k_6 := K1.cell (i := 6) rfl
  have g_6 := K1.fr 6
  have k_7 := K1.cell (i := 7) rfl
  have g_7 := K1.fr 7
  have k_8 := K1.cell (i := 8) rfl
  have g_8 := K1.fr 8
  have Z := (((((((((K1.set 0 (.int .i64 0)).set 1 (.int .i64 0)).set 2 (.int .i64 0)).set 3 (.int .i64 0)).set 4 (.int .i64 0)).set 5 (.slice none 0 0)).set 6 (.int .i64 0)).set 7 (.int .i64 0)).set 8 (.int .i64 0))
  have z_0 := Z.cell (i := 0) rfl
  have z_1 := Z.cell (i := 1) rfl
  have z_2 := Z.cell (i := 2) rfl
  have z_3 := Z.cell (i := 3) rfl
  have z_4 := Z.cell (i := 4) rfl
  have z_5 := Z.cell (i := 5) rfl
  have z_6 := Z.cell (i := 6) rfl
  have z_7 := Z.cell (i := 7) rfl
  have z_8 := Z.cell (i := 8) rfl
  have BZ := (((((((((B.setCell (p := ⟨W.heap.size + 1, 0, none⟩) (by show W.heap.size ≤ W.heap.size + 1; omega) (.int .i64 0)).setCell (p := ⟨W.heap.size + 1, 1, none⟩) (by show W.heap.size ≤ W.heap.size + 1; omega) (.int .i64 0)).setCell (p := ⟨W.heap.size + 1, 2, none⟩) (by show W.heap.size ≤ W.heap.size + 1; omega) (.int .i64 0)).setCell (p := ⟨W.heap.size + 1, 3, none⟩) (by show W.heap.size ≤ W.heap.size + 1; omega) (.int .i64 0)).setCell (p := ⟨W.heap.size + 1, 4, none⟩) (by show W.heap.size ≤ W.heap.size + 1; omega) (.int .i64 0)).setCell (p := ⟨W.heap.size + 1, 5, none⟩) (by show W.heap.size ≤ W.heap.size + 1; omega) (.slice none 0 0)).setCell (p := ⟨W.heap.size + 1, 6, none⟩) (by show W.heap.size ≤ W.heap.size + 1; omega) (.int .i64 0)).setCell (p := ⟨W.heap.size + 1, 7, none⟩) (by show W.heap.size ≤ W.heap.size + 1; omega) (.int .i64 0)).setCell (p := ⟨W.heap.size + 1, 8, none⟩) (by show W.heap.size ≤ W.heap.size + 1; omega) (.int .i64 0))
  clear Z K K1 B h1 hM1 KY hS0
  go_wp2
  exact bodyPost_ret (v := .tuple #[.agg #[.int .i64 0, .int .i64 0, .int .i64 0, .int .i64 0, .int .i64 0, .slice none 0 0, .int .i64 0, .int .i64 0, .int .i64 0], .int .i64 6]) (by simp [results, Try.results12, go_sem, z_0, z_1, z_2, z_3, z_4, z_5, z_6, z_7, z_8]) rfl ⟨rfl, BZ⟩
set_option maxRecDepth 100000 in
set_option maxHeartbeats 8000000 in
theorem ytry_bad {W : World} {p n cnt : Nat} {g : Nat → Slp} {t : Tot} {F : Nat → Prop} (h : YO W p n cnt g t F) (s : Slp) (hM : SlM W s) (hn : n ≤ 64) (hsn : s.n ≤ 100000) (hsm : s.m ≤ 100000) (hcnt : cnt ≤ 1000) (hs : s.OK n) (hk : s.k = (cnt : Int) + 1) (ht : t.rB n = true) (hr : (t.add s).rB n = false) :
    Calls Try.prog 12 #[.pointer (some ⟨p, 0, none⟩), .agg #[.int .i64 s.k, .int .i64 s.ca, .int .i64 s.tb, .int .i64 s.so, .int .i64 s.tx, .int .i64 s.sf, .slice s.A s.n s.c, .int .i64 s.net, .slice s.T s.m s.d, .int .i64 s.pay]] W fun e w' => e = .returned (.tuple #[.agg #[.int .i64 0, .int .i64 0, .int .i64 0, .int .i64 0, .int .i64 0, .slice none 0 0, .int .i64 0, .int .i64 0, .int .i64 0], .int .i64 10]) ∧ Below W.heap.size W w' := by
  have K := (bx_new W [.int .i64 s.k, .int .i64 s.ca, .int .i64 s.tb, .int .i64 s.so, .int .i64 s.tx, .int .i64 s.sf, .slice s.A s.n s.c, .int .i64 s.net, .slice s.T s.m s.d, .int .i64 s.pay] 37).alloc (.cells #[.int .i64 0, .int .i64 0, .int .i64 0, .int .i64 0, .int .i64 0, .slice none 0 0, .int .i64 0, .int .i64 0, .int .i64 0] 34)
  have K1 := bx_at (W.alloc (.cells #[.int .i64 s.k, .int .i64 s.ca, .int .i64 s.tb, .int .i64 s.so, .int .i64 s.tx, .int .i64 s.sf, .slice s.A s.n s.c, .int .i64 s.net, .slice s.T s.m s.d, .int .i64 s.pay] 37)) [.int .i64 0, .int .i64 0, .int .i64 0, .int .i64 0, .int .i64 0, .slice none 0 0, .int .i64 0, .int .i64 0, .int .i64 0] 34 (n := W.heap.size + 1) (by simp)
  have B := (below_new W (.cells #[.int .i64 s.k, .int .i64 s.ca, .int .i64 s.tb, .int .i64 s.so, .int .i64 s.tx, .int .i64 s.sf, .slice s.A s.n s.c, .int .i64 s.net, .slice s.T s.m s.d, .int .i64 s.pay] 37)).alloc (by simp) (.cells #[.int .i64 0, .int .i64 0, .int .i64 0, .int .i64 0, .int .i64 0, .slice none 0 0, .int .i64 0, .int .i64 0, .int .i64 0] 34)
  have hM1 := hM.below B
  have h1 := h.below B
  clear hM h
  have hv := hs.chk
  have HK := Lib.hid hk
  clear hk
  go_enter Try.func12, Try.ntmps12
  go_wp2_with (fail)
  generalize ((W.alloc (.cells #[.int .i64 s.k, .int .i64 s.ca, .int .i64 s.tb, .int .i64 s.so, .int .i64 s.tx, .int .i64 s.sf, .slice s.A s.n s.c, .int .i64 s.net, .slice s.T s.m s.d, .int .i64 s.pay] 37)).alloc (.cells #[.int .i64 0, .int .i64 0, .int .i64 0, .int .i64 0, .int .i64 0, .slice none 0 0, .int .i64 0, .int .i64 0, .int .i64 0] 34)) = w1 at *
  have cC := fun (d : Nat) (os : Array Obj) => Calls.regrown_of (d := d) (os := os) (w := w1) (ycheck_any s n (grow (redrawn w1 d) os) (hM1.below (below_regrown w1 d os)) hsn hsm 0 hv)
  obtain ⟨A0, c0, B0, b0, KY, hS0⟩ := h1.tot
  have y6 := fun d os => cell_regrown (KY.cell (i := 6) rfl) d os
  have e0 := fun d os => cell_regrown (K.cell (i := 0) rfl) d os
  have e1 := fun d os => cell_regrown (K.cell (i := 1) rfl) d os
  have e2 := fun d os => cell_regrown (K.cell (i := 2) rfl) d os
  have e3 := fun d os => cell_regrown (K.cell (i := 3) rfl) d os
  have e4 := fun d os => cell_regrown (K.cell (i := 4) rfl) d os
  have e5 := fun d os => cell_regrown (K.cell (i := 5) rfl) d os
  have e6 := fun d os => cell_regrown (K.cell (i := 6) rfl) d os
  have e7 := fun d os => cell_regrown (K.cell (i := 7) rfl) d os
  have e8 := fun d os => cell_regrown (K.cell (i := 8) rfl) d os
  have e9 := fun d os => cell_regrown (K.cell (i := 9) rfl) d os
  refine wp_region_quiet_below mixedY (by kernel_rfl) ?_
  iterate 7 (go_big_quiet_step (fail))
  go_big_quiet_step (exact cC _ _)
  repeat (go_big_quiet_step (fail))
  refine wpQuiet_nil ?_
  intro _ hw'
  obtain ⟨⟨dq, osq⟩, hw''⟩ := hw'
  subst hw''
  have NB := below_regrown w1 dq osq
  clear cC y6 e0 e1 e2 e3 e4 e5 e6 e7 e8 e9
  generalize grow (redrawn w1 dq) osq = w2 at *
  replace K := K.below NB
  replace K1 := K1.below NB
  replace B := below_step B NB B.size
  replace h1 := h1.below NB
  replace hM1 := hM1.below NB
  replace KY := KY.below NB
  replace hS0 := hS0.below NB
  clear NB
  have hp : W.heap.size + 1 < w2.heap.size := K1.lt
  clear hv
  go_wp2_with (fail)
  have cC := fun (d : Nat) (os : Array Obj) => Calls.regrown_of (d := d) (os := os) (w := w2) ((ycount_any (h1.below (below_regrown w2 d os))).mono (by rintro e w' ⟨rfl, rfl⟩; exact ⟨rfl, Below.refl _ _⟩))
  have e0 := fun d os => cell_regrown (K.cell (i := 0) rfl) d os
  have hww : wrap64 ((cnt : Int) + 1) = (cnt : Int) + 1 := IntWalk.wrap64_in _ (by omega)
  have t2 : (s.k != (cnt : Int) + 1) = false := by simp [HK.out]
  clear HK
  refine wp_region_quiet_below mixedY (by kernel_rfl) ?_
  iterate 3 (go_big_quiet_step (fail))
  go_big_quiet_step (exact cC _ _)
  repeat (go_big_quiet_step (fail))
  refine wpQuiet_nil ?_
  intro _ hw'
  obtain ⟨⟨dq, osq⟩, hw''⟩ := hw'
  subst hw''
  have NB := below_regrown w2 dq osq
  clear cC e0 hww
  generalize grow (redrawn w2 dq) osq = w3 at *
  replace K := K.below NB
  replace K1 := K1.below NB
  replace B := below_step B NB B.size
  replace h1 := h1.below NB
  replace hM1 := hM1.below NB
  replace KY := KY.below NB
  replace hS0 := hS0.below NB
  replace hp : W.heap.size + 1 < w3.heap.size := K1.lt
  clear NB
  go_wp2_with (fail)
  have hdd : Below w3.heap.size w3 w3.drew := (Below.refl _ _).drew
  have cW := with_bad t B0 b0 s n w3.drew (hS0.below hdd) (hM1.below hdd) hs hn hsm ht hr
  have Kd := K.below hdd
  have KYd := KY.below hdd
  have K1d := K1.below hdd
  have Bd := below_step B hdd B.size
  have a0 := K.cell (i := 0) rfl
  have d0 := Kd.cell (i := 0) rfl
  have a1 := K.cell (i := 1) rfl
  have d1 := Kd.cell (i := 1) rfl
  have y1 := KY.cell (i := 1) rfl
  have u1 := KYd.cell (i := 1) rfl
  have a2 := K.cell (i := 2) rfl
  have d2 := Kd.cell (i := 2) rfl
  have y2 := KY.cell (i := 2) rfl
  have u2 := KYd.cell (i := 2) rfl
  have a3 := K.cell (i := 3) rfl
  have d3 := Kd.cell (i := 3) rfl
  have y3 := KY.cell (i := 3) rfl
  have u3 := KYd.cell (i := 3) rfl
  have a4 := K.cell (i := 4) rfl
  have d4 := Kd.cell (i := 4) rfl
  have y4 := KY.cell (i := 4) rfl
  have u4 := KYd.cell (i := 4) rfl
  have a5 := K.cell (i := 5) rfl
  have d5 := Kd.cell (i := 5) rfl
  have y5 := KY.cell (i := 5) rfl
  have u5 := KYd.cell (i := 5) rfl
  have a6 := K.cell (i := 6) rfl
  have d6 := Kd.cell (i := 6) rfl
  have y6 := KY.cell (i := 6) rfl
  have u6 := KYd.cell (i := 6) rfl
  have a7 := K.cell (i := 7) rfl
  have d7 := Kd.cell (i := 7) rfl
  have y7 := KY.cell (i := 7) rfl
  have u7 := KYd.cell (i := 7) rfl
  have a8 := K.cell (i := 8) rfl
  have d8 := Kd.cell (i := 8) rfl
  have y8 := KY.cell (i := 8) rfl
  have u8 := KYd.cell (i := 8) rfl
  have a9 := K.cell (i := 9) rfl
  have d9 := Kd.cell (i := 9) rfl
  have y9 := KY.cell (i := 9) rfl
  have u9 := KYd.cell (i := 9) rfl
  clear hs ht hr hM1 h1 hS0
  go_region_with (first
    | (go_at_call 41; refine cW.mono ?_; rintro e w8 ⟨rfl, hb⟩; have K8 := K1d.below hb; have B8 := below_step Bd hb Bd.size; have k_0 := K8.cell (i := 0) rfl; have g_0 := K8.fr 0; have k_1 := K8.cell (i := 1) rfl; have g_1 := K8.fr 1; have k_2 := K8.cell (i := 2) rfl; have g_2 := K8.fr 2; have k_3 := K8.cell (i := 3) rfl; have g_3 := K8.fr 3; have k_4 := K8.cell (i := 4) rfl; have g_4 := K8.fr 4; have k_5 := K8.cell (i := 5) rfl; have g_5 := K8.fr 5; have k_6 := K8.cell (i := 6) rfl; have g_6 := K8.fr 6; have k_7 := K8.cell (i := 7) rfl; have g_7 := K8.fr 7; have k_8 := K8.cell (i := 8) rfl; have g_8 := K8.fr 8))
  all_goals
    have Z := (((((((((K8.set 0 (.int .i64 0)).set 1 (.int .i64 0)).set 2 (.int .i64 0)).set 3 (.int .i64 0)).set 4 (.int .i64 0)).set 5 (.slice none 0 0)).set 6 (.int .i64 0)).set 7 (.int .i64 0)).set 8 (.int .i64 0))
    have z_0 := Z.cell (i := 0) rfl
    have z_1 := Z.cell (i := 1) rfl
    have z_2 := Z.cell (i := 2) rfl
    have z_3 := Z.cell (i := 3) rfl
    have z_4 := Z.cell (i := 4) rfl
    have z_5 := Z.cell (i := 5) rfl
    have z_6 := Z.cell (i := 6) rfl
    have z_7 := Z.cell (i := 7) rfl
    have z_8 := Z.cell (i := 8) rfl
    have BZ := (((((((((B8.setCell (p := ⟨W.heap.size + 1, 0, none⟩) (by show W.heap.size ≤ W.heap.size + 1; omega) (.int .i64 0)).setCell (p := ⟨W.heap.size + 1, 1, none⟩) (by show W.heap.size ≤ W.heap.size + 1; omega) (.int .i64 0)).setCell (p := ⟨W.heap.size + 1, 2, none⟩) (by show W.heap.size ≤ W.heap.size + 1; omega) (.int .i64 0)).setCell (p := ⟨W.heap.size + 1, 3, none⟩) (by show W.heap.size ≤ W.heap.size + 1; omega) (.int .i64 0)).setCell (p := ⟨W.heap.size + 1, 4, none⟩) (by show W.heap.size ≤ W.heap.size + 1; omega) (.int .i64 0)).setCell (p := ⟨W.heap.size + 1, 5, none⟩) (by show W.heap.size ≤ W.heap.size + 1; omega) (.slice none 0 0)).setCell (p := ⟨W.heap.size + 1, 6, none⟩) (by show W.heap.size ≤ W.heap.size + 1; omega) (.int .i64 0)).setCell (p := ⟨W.heap.size + 1, 7, none⟩) (by show W.heap.size ≤ W.heap.size + 1; omega) (.int .i64 0)).setCell (p := ⟨W.heap.size + 1, 8, none⟩) (by show W.heap.size ≤ W.heap.size + 1; omega) (.int .i64 0))
    clear Z K8 B8 K K1 Kd K1d KY KYd B Bd hb cW hdd 
    clear a0 d0 a1 d1 y1 u1 a2 d2 y2 u2 a3 d3 y3 u3 a4 d4 y4 u4 a5 d5 y5 u5 a6 d6 y6 u6 a7 d7 y7 u7 a8 d8 y8 u8 a9 d9 y9 u9
    go_wp2
    exact bodyPost_ret (v := .tuple #[.agg #[.int .i64 0, .int .i64 0, .int .i64 0, .int .i64 0, .int .i64 0, .slice none 0 0, .int .i64 0, .int .i64 0, .int .i64 0], .int .i64 10]) (by simp [results, Try.results12, go_sem, z_0, z_1, z_2, z_3, z_4, z_5, z_6, z_7, z_8]) rfl ⟨rfl, BZ⟩
set_option maxRecDepth 100000 in
set_option maxHeartbeats 8000000 in
theorem ytry_ok {W : World} {p n cnt : Nat} {g : Nat → Slp} {t : Tot} {F : Nat → Prop} (h : YO W p n cnt g t F) (s : Slp) (hM : SlM W s) (hn : n ≤ 64) (hsn : s.n ≤ 100000) (hsm : s.m ≤ 100000) (hcnt : cnt ≤ 1000) (hs : s.OK n) (hk : s.k = (cnt : Int) + 1) (ht : t.rB n = true) (hr : (t.add s).rB n = true) :
    Calls Try.prog 12 #[.pointer (some ⟨p, 0, none⟩), .agg #[.int .i64 s.k, .int .i64 s.ca, .int .i64 s.tb, .int .i64 s.so, .int .i64 s.tx, .int .i64 s.sf, .slice s.A s.n s.c, .int .i64 s.net, .slice s.T s.m s.d, .int .i64 s.pay]] W fun e w' => ∃ bq, e = .returned (.tuple #[.agg #[.int .i64 (t.add s).ca, .int .i64 (t.add s).tb, .int .i64 (t.add s).so, .int .i64 (t.add s).tx, .int .i64 (t.add s).sf, .slice (some ⟨bq, 0, none⟩) n n, .int .i64 (t.add s).net, .int .i64 (t.add s).tk, .int .i64 (t.add s).pay], .int .i64 0]) ∧ W.heap.size ≤ bq ∧ ShB w' bq n (t.add s).X (t.add s).Y ∧ Below W.heap.size W w' := by
  have K := (bx_new W [.int .i64 s.k, .int .i64 s.ca, .int .i64 s.tb, .int .i64 s.so, .int .i64 s.tx, .int .i64 s.sf, .slice s.A s.n s.c, .int .i64 s.net, .slice s.T s.m s.d, .int .i64 s.pay] 37).alloc (.cells #[.int .i64 0, .int .i64 0, .int .i64 0, .int .i64 0, .int .i64 0, .slice none 0 0, .int .i64 0, .int .i64 0, .int .i64 0] 34)
  have K1 := bx_at (W.alloc (.cells #[.int .i64 s.k, .int .i64 s.ca, .int .i64 s.tb, .int .i64 s.so, .int .i64 s.tx, .int .i64 s.sf, .slice s.A s.n s.c, .int .i64 s.net, .slice s.T s.m s.d, .int .i64 s.pay] 37)) [.int .i64 0, .int .i64 0, .int .i64 0, .int .i64 0, .int .i64 0, .slice none 0 0, .int .i64 0, .int .i64 0, .int .i64 0] 34 (n := W.heap.size + 1) (by simp)
  have B := (below_new W (.cells #[.int .i64 s.k, .int .i64 s.ca, .int .i64 s.tb, .int .i64 s.so, .int .i64 s.tx, .int .i64 s.sf, .slice s.A s.n s.c, .int .i64 s.net, .slice s.T s.m s.d, .int .i64 s.pay] 37)).alloc (by simp) (.cells #[.int .i64 0, .int .i64 0, .int .i64 0, .int .i64 0, .int .i64 0, .slice none 0 0, .int .i64 0, .int .i64 0, .int .i64 0] 34)
  have hM1 := hM.below B
  have h1 := h.below B
  clear hM h
  have hv := hs.chk
  have HK := Lib.hid hk
  clear hk
  go_enter Try.func12, Try.ntmps12
  go_wp2_with (fail)
  generalize ((W.alloc (.cells #[.int .i64 s.k, .int .i64 s.ca, .int .i64 s.tb, .int .i64 s.so, .int .i64 s.tx, .int .i64 s.sf, .slice s.A s.n s.c, .int .i64 s.net, .slice s.T s.m s.d, .int .i64 s.pay] 37)).alloc (.cells #[.int .i64 0, .int .i64 0, .int .i64 0, .int .i64 0, .int .i64 0, .slice none 0 0, .int .i64 0, .int .i64 0, .int .i64 0] 34)) = w1 at *
  have cC := fun (d : Nat) (os : Array Obj) => Calls.regrown_of (d := d) (os := os) (w := w1) (ycheck_any s n (grow (redrawn w1 d) os) (hM1.below (below_regrown w1 d os)) hsn hsm 0 hv)
  obtain ⟨A0, c0, B0, b0, KY, hS0⟩ := h1.tot
  have y6 := fun d os => cell_regrown (KY.cell (i := 6) rfl) d os
  have e0 := fun d os => cell_regrown (K.cell (i := 0) rfl) d os
  have e1 := fun d os => cell_regrown (K.cell (i := 1) rfl) d os
  have e2 := fun d os => cell_regrown (K.cell (i := 2) rfl) d os
  have e3 := fun d os => cell_regrown (K.cell (i := 3) rfl) d os
  have e4 := fun d os => cell_regrown (K.cell (i := 4) rfl) d os
  have e5 := fun d os => cell_regrown (K.cell (i := 5) rfl) d os
  have e6 := fun d os => cell_regrown (K.cell (i := 6) rfl) d os
  have e7 := fun d os => cell_regrown (K.cell (i := 7) rfl) d os
  have e8 := fun d os => cell_regrown (K.cell (i := 8) rfl) d os
  have e9 := fun d os => cell_regrown (K.cell (i := 9) rfl) d os
  refine wp_region_quiet_below mixedY (by kernel_rfl) ?_
  iterate 7 (go_big_quiet_step (fail))
  go_big_quiet_step (exact cC _ _)
  repeat (go_big_quiet_step (fail))
  refine wpQuiet_nil ?_
  intro _ hw'
  obtain ⟨⟨dq, osq⟩, hw''⟩ := hw'
  subst hw''
  have NB := below_regrown w1 dq osq
  clear cC y6 e0 e1 e2 e3 e4 e5 e6 e7 e8 e9
  generalize grow (redrawn w1 dq) osq = w2 at *
  replace K := K.below NB
  replace K1 := K1.below NB
  replace B := below_step B NB B.size
  replace h1 := h1.below NB
  replace hM1 := hM1.below NB
  replace KY := KY.below NB
  replace hS0 := hS0.below NB
  clear NB
  have hp : W.heap.size + 1 < w2.heap.size := K1.lt
  clear hv
  go_wp2_with (fail)
  have cC := fun (d : Nat) (os : Array Obj) => Calls.regrown_of (d := d) (os := os) (w := w2) ((ycount_any (h1.below (below_regrown w2 d os))).mono (by rintro e w' ⟨rfl, rfl⟩; exact ⟨rfl, Below.refl _ _⟩))
  have e0 := fun d os => cell_regrown (K.cell (i := 0) rfl) d os
  have hww : wrap64 ((cnt : Int) + 1) = (cnt : Int) + 1 := IntWalk.wrap64_in _ (by omega)
  have t2 : (s.k != (cnt : Int) + 1) = false := by simp [HK.out]
  clear HK
  refine wp_region_quiet_below mixedY (by kernel_rfl) ?_
  iterate 3 (go_big_quiet_step (fail))
  go_big_quiet_step (exact cC _ _)
  repeat (go_big_quiet_step (fail))
  refine wpQuiet_nil ?_
  intro _ hw'
  obtain ⟨⟨dq, osq⟩, hw''⟩ := hw'
  subst hw''
  have NB := below_regrown w2 dq osq
  clear cC e0 hww
  generalize grow (redrawn w2 dq) osq = w3 at *
  replace K := K.below NB
  replace K1 := K1.below NB
  replace B := below_step B NB B.size
  replace h1 := h1.below NB
  replace hM1 := hM1.below NB
  replace KY := KY.below NB
  replace hS0 := hS0.below NB
  replace hp : W.heap.size + 1 < w3.heap.size := K1.lt
  clear NB
  go_wp2_with (fail)
  have hdd : Below w3.heap.size w3 w3.drew := (Below.refl _ _).drew
  have cW := with_ok t B0 b0 s n w3.drew (hS0.below hdd) (hM1.below hdd) hs hn hsm ht hr
  have Kd := K.below hdd
  have KYd := KY.below hdd
  have K1d := K1.below hdd
  have Bd := below_step B hdd B.size
  have a0 := K.cell (i := 0) rfl
  have d0 := Kd.cell (i := 0) rfl
  have a1 := K.cell (i := 1) rfl
  have d1 := Kd.cell (i := 1) rfl
  have y1 := KY.cell (i := 1) rfl
  have u1 := KYd.cell (i := 1) rfl
  have a2 := K.cell (i := 2) rfl
  have d2 := Kd.cell (i := 2) rfl
  have y2 := KY.cell (i := 2) rfl
  have u2 := KYd.cell (i := 2) rfl
  have a3 := K.cell (i := 3) rfl
  have d3 := Kd.cell (i := 3) rfl
  have y3 := KY.cell (i := 3) rfl
  have u3 := KYd.cell (i := 3) rfl
  have a4 := K.cell (i := 4) rfl
  have d4 := Kd.cell (i := 4) rfl
  have y4 := KY.cell (i := 4) rfl
  have u4 := KYd.cell (i := 4) rfl
  have a5 := K.cell (i := 5) rfl
  have d5 := Kd.cell (i := 5) rfl
  have y5 := KY.cell (i := 5) rfl
  have u5 := KYd.cell (i := 5) rfl
  have a6 := K.cell (i := 6) rfl
  have d6 := Kd.cell (i := 6) rfl
  have y6 := KY.cell (i := 6) rfl
  have u6 := KYd.cell (i := 6) rfl
  have a7 := K.cell (i := 7) rfl
  have d7 := Kd.cell (i := 7) rfl
  have y7 := KY.cell (i := 7) rfl
  have u7 := KYd.cell (i := 7) rfl
  have a8 := K.cell (i := 8) rfl
  have d8 := Kd.cell (i := 8) rfl
  have y8 := KY.cell (i := 8) rfl
  have u8 := KYd.cell (i := 8) rfl
  have a9 := K.cell (i := 9) rfl
  have d9 := Kd.cell (i := 9) rfl
  have y9 := KY.cell (i := 9) rfl
  have u9 := KYd.cell (i := 9) rfl
  clear hs ht hr hM1 h1 hS0
  go_region_with (first
    | (go_at_call 41; refine cW.mono ?_; rintro e w8 ⟨bq, rfl, hbq, HS, hb⟩; have K8 := K1d.below hb; have B8 := below_step Bd hb Bd.size; have k_0 := K8.cell (i := 0) rfl; have g_0 := K8.fr 0; have k_1 := K8.cell (i := 1) rfl; have g_1 := K8.fr 1; have k_2 := K8.cell (i := 2) rfl; have g_2 := K8.fr 2; have k_3 := K8.cell (i := 3) rfl; have g_3 := K8.fr 3; have k_4 := K8.cell (i := 4) rfl; have g_4 := K8.fr 4; have k_5 := K8.cell (i := 5) rfl; have g_5 := K8.fr 5; have k_6 := K8.cell (i := 6) rfl; have g_6 := K8.fr 6; have k_7 := K8.cell (i := 7) rfl; have g_7 := K8.fr 7; have k_8 := K8.cell (i := 8) rfl; have g_8 := K8.fr 8))
  all_goals
    have hbq3 : w3.heap.size ≤ bq := hbq
    have HZ := Lib.hid (show ShB (stAll w8 (W.heap.size + 1) 0 [.int .i64 (t.add s).ca, .int .i64 (t.add s).tb, .int .i64 (t.add s).so, .int .i64 (t.add s).tx, .int .i64 (t.add s).sf, .slice (some ⟨bq, 0, none⟩) n n, .int .i64 (t.add s).net, .int .i64 (t.add s).tk, .int .i64 (t.add s).pay]) bq n (t.add s).X (t.add s).Y from stAll_sh HS (p := W.heap.size + 1) (by omega) _ _)
    have hbw : W.heap.size ≤ bq := by omega
    have Z := (((((((((K8.set 0 (.int .i64 (t.add s).ca)).set 1 (.int .i64 (t.add s).tb)).set 2 (.int .i64 (t.add s).so)).set 3 (.int .i64 (t.add s).tx)).set 4 (.int .i64 (t.add s).sf)).set 5 (.slice (some ⟨bq, 0, none⟩) n n)).set 6 (.int .i64 (t.add s).net)).set 7 (.int .i64 (t.add s).tk)).set 8 (.int .i64 (t.add s).pay))
    have z_0 := Z.cell (i := 0) rfl
    have z_1 := Z.cell (i := 1) rfl
    have z_2 := Z.cell (i := 2) rfl
    have z_3 := Z.cell (i := 3) rfl
    have z_4 := Z.cell (i := 4) rfl
    have z_5 := Z.cell (i := 5) rfl
    have z_6 := Z.cell (i := 6) rfl
    have z_7 := Z.cell (i := 7) rfl
    have z_8 := Z.cell (i := 8) rfl
    have BZ := (((((((((B8.setCell (p := ⟨W.heap.size + 1, 0, none⟩) (by show W.heap.size ≤ W.heap.size + 1; omega) (.int .i64 (t.add s).ca)).setCell (p := ⟨W.heap.size + 1, 1, none⟩) (by show W.heap.size ≤ W.heap.size + 1; omega) (.int .i64 (t.add s).tb)).setCell (p := ⟨W.heap.size + 1, 2, none⟩) (by show W.heap.size ≤ W.heap.size + 1; omega) (.int .i64 (t.add s).so)).setCell (p := ⟨W.heap.size + 1, 3, none⟩) (by show W.heap.size ≤ W.heap.size + 1; omega) (.int .i64 (t.add s).tx)).setCell (p := ⟨W.heap.size + 1, 4, none⟩) (by show W.heap.size ≤ W.heap.size + 1; omega) (.int .i64 (t.add s).sf)).setCell (p := ⟨W.heap.size + 1, 5, none⟩) (by show W.heap.size ≤ W.heap.size + 1; omega) (.slice (some ⟨bq, 0, none⟩) n n)).setCell (p := ⟨W.heap.size + 1, 6, none⟩) (by show W.heap.size ≤ W.heap.size + 1; omega) (.int .i64 (t.add s).net)).setCell (p := ⟨W.heap.size + 1, 7, none⟩) (by show W.heap.size ≤ W.heap.size + 1; omega) (.int .i64 (t.add s).tk)).setCell (p := ⟨W.heap.size + 1, 8, none⟩) (by show W.heap.size ≤ W.heap.size + 1; omega) (.int .i64 (t.add s).pay))
    clear Z K8 B8 K K1 Kd K1d KY KYd B Bd hb cW hdd HS hbq hbq3
    clear a0 d0 a1 d1 y1 u1 a2 d2 y2 u2 a3 d3 y3 u3 a4 d4 y4 u4 a5 d5 y5 u5 a6 d6 y6 u6 a7 d7 y7 u7 a8 d8 y8 u8 a9 d9 y9 u9
    go_wp2
    exact bodyPost_ret (v := .tuple #[.agg #[.int .i64 (t.add s).ca, .int .i64 (t.add s).tb, .int .i64 (t.add s).so, .int .i64 (t.add s).tx, .int .i64 (t.add s).sf, .slice (some ⟨bq, 0, none⟩) n n, .int .i64 (t.add s).net, .int .i64 (t.add s).tk, .int .i64 (t.add s).pay], .int .i64 0]) (by simp [results, Try.results12, go_sem, z_0, z_1, z_2, z_3, z_4, z_5, z_6, z_7, z_8]) rfl ⟨bq, rfl, hbw, HZ.out, BZ⟩
end Go.Proofs.Ytfnjhalpedccaaa
