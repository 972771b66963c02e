/- The walk of the law SocialSums. -/
import Derived.Test.YtifoapaoamhgcaaSocH
import Derived.Test.YtifoapaoamhgcaaOpenB
import Derived.Deep.AppendLies
namespace Go.Proofs.Ytifoapaoamhgcaa
open Go.RowKit Go.Sort
set_option linter.unusedVariables false
set_option linter.unusedSimpArgs false

theorem td_ten (T : TB) (x s : Nat → Int) (m : Nat) : tdE T x s m = 0 ∨ tdE T x s m = 10 := by
  have hi : ∀ k n, firstE (itE (yrA T x s) (yrB' T x s) k) n = 0 ∨ firstE (itE (yrA T x s) (yrB' T x s) k) n = 10 := fun k n => by
    induction n with
    | zero => exact .inl rfl
    | succ n ih =>
      show (if firstE _ n = 0 then itE _ _ k n else firstE _ n) = 0 ∨ (if firstE _ n = 0 then itE _ _ k n else firstE _ n) = 10
      split
      · unfold itE; split <;> simp
      · exact ih
  unfold tdE
  induction m with
  | zero => exact .inl rfl
  | succ m ih =>
    show (if firstE _ m = 0 then smE _ _ _ _ m else firstE _ m) = 0 ∨ (if firstE _ m = 0 then smE _ _ _ _ m else firstE _ m) = 10
    split
    · unfold smE; rw [if_pos rfl]; exact hi m T.nC
    · exact ih
theorem td_amt {T : TB} {x s : Nat → Int} {m : Nat} (h : tdE T x s m = 0) {k : Nat} (hk : k ≤ m) {i : Nat} (hi : i < T.nC) : amtB (smS (yrA T x s) k i) = true ∧ amtB (smS (yrB' T x s) k i) = true :=
  sm_amt (n := T.nC) (L := fun _ => T.nC) (fun j hj => first_zero h j (by omega)) i hi
theorem td_one {T : TB} {x s : Nat → Int} {m : Nat} (h : tdE T x s m = 0) {k : Nat} (hk : k < m) {i : Nat} (hi : i < T.nC) : (-100000000000 ≤ yrA T x s k i ∧ yrA T x s k i ≤ 100000000000) ∧ (-100000000000 ≤ yrB' T x s k i ∧ yrB' T x s k i ≤ 100000000000) := by
  have h1 := first_zero h k hk
  unfold smE at h1
  rw [if_pos rfl] at h1
  have h2 := first_zero h1 i hi
  unfold itE at h2
  split at h2
  · rename_i hh
    simp only [Bool.and_eq_true] at hh
    exact ⟨amtB_yes hh.1.1, amtB_yes hh.2.1⟩
  · omega
/-- a first row of another length -/
theorem sum_len (n : Nat) (N : Int) (hN : N = (n : Int)) (b o m q : Nat) (w : World) (A' : Option Addr) (l c' : Nat) (h : w.cell? ⟨b, o, none⟩ = some (.slice A' l c')) (hl : l ≠ n) (hn : n ≤ 64) (hm : 0 < m) :
    Calls Try.prog 19 #[.int .i64 N, .slice (some ⟨b, o, none⟩) m q] w fun e w' => e = .returned (.tuple #[.slice none 0 0, .int .i64 3]) ∧ Below w.heap.size w w' := by
  subst hN
  have k1 : decide ((n : Int) < 0) = false := by simp
  have k2 : decide (64 < (n : Int)) = false := by simp; omega
  obtain ⟨cs, hmk, hsb⟩ := make_sh n (by omega)
  have B1 := below_new w (.cells cs 33)
  have h1 := cell_later B1 h
  have q1 : ((l : Int) != (n : Int)) = true := by simp; omega
  have hm0 : (0 : Int) < (m : Int) := by omega
  clear hsb h
  go_enter Try.func19, Try.ntmps19
  go_wp2_with (fail)
  generalize w.alloc (.cells cs 33) = w1 at *
  go_loopw [23] (fun k W => k = .int .i64 0 ∧ W = w1) (fun _ _ => 0)
  case atStart => exact ⟨rfl, rfl⟩
  case round =>
    obtain ⟨rfl, rfl⟩ := hrel
    go_wp2
    go_ret2
    exact ⟨rfl, B1⟩
theorem year_nil (T : TB) (A : Option Addr) (q : Nat) (w : World) (h6 : T.nC ≤ 6) :
    Calls Try.prog 15 #[.agg #[.slice T.AS T.nS T.cS, .slice T.AC T.nC T.cC, .slice T.AK T.nK T.cK, .int .i64 T.L, .int .i64 T.W], .slice A 0 q] w fun e w' => e = .returned (.tuple #[.slice none 0 0, .int .i64 0]) ∧ Below w.heap.size w w' := by
  have hmk := fun W => run_make_row' (P := Try.prog) 53 2 (.int .i64 0) 8 (by kernel_rfl) infoI rfl .i64 .i64 T.nC (by omega) (by omega) W
  have B1 := below_new w (.cells #[.slice T.AS T.nS T.cS, .slice T.AC T.nC T.cC, .slice T.AK T.nK T.cK, .int .i64 T.L, .int .i64 T.W] 26)
  have B2 := B1.alloc B1.size (.cells (madeCells #[.int .i64 0] T.nC) 2)
  go_enter Try.func15, Try.ntmps15
  go_wp2_with (fail)
  go_loopw [6, 19] (fun u k X => u = .slice none 0 0 ∧ k = .int .i64 0 ∧ Below w.heap.size w X) (fun _ _ _ => 0)
  case atStart => exact ⟨rfl, rfl, B2⟩
  case round =>
    obtain ⟨rfl, rfl, hb⟩ := hrel
    go_wp2
    go_ret2
    exact ⟨rfl, hb⟩
set_option maxRecDepth 100000 in
set_option maxHeartbeats 8000000 in
theorem ss_no (T : TB) (A : Option Addr) (m q : Nat) (c x s : Nat → Int) (w : World) (h : Tm w T) (hF : TFits T) (hl : BasM w A m c x s) (hm : m ≤ 9223372036854775807) (g : lfB T = false) :
    Calls Try.prog 5 #[.agg #[.slice T.AS T.nS T.cS, .slice T.AC T.nC T.cC, .slice T.AK T.nK T.cK, .int .i64 T.L, .int .i64 T.W], .slice A m q] w fun e w' => e = .returned (.bool true) ∧ Below w.heap.size w w' := by
  have K0 : Bx (w.alloc (.cells #[.slice T.AS T.nS T.cS, .slice T.AC T.nC T.cC, .slice T.AK T.nK T.cK, .int .i64 T.L, .int .i64 T.W] 26)) (w.heap.size) 26 [.slice T.AS T.nS T.cS, .slice T.AC T.nC T.cC, .slice T.AK T.nK T.cK, .int .i64 T.L, .int .i64 T.W] := bx_new w [.slice T.AS T.nS T.cS, .slice T.AC T.nC T.cC, .slice T.AK T.nK T.cK, .int .i64 T.L, .int .i64 T.W] 26
  have B : Below w.heap.size w (w.alloc (.cells #[.slice T.AS T.nS T.cS, .slice T.AC T.nC T.cC, .slice T.AK T.nK T.cK, .int .i64 T.L, .int .i64 T.W] 26)) := ((Below.refl _ _).alloc (Nat.le_refl _) _)
  replace h := h.below (show Below w.heap.size w (w.alloc (.cells #[.slice T.AS T.nS T.cS, .slice T.AC T.nC T.cC, .slice T.AK T.nK T.cK, .int .i64 T.L, .int .i64 T.W] 26)) from B)
  have k0_0 := K0.cell (i := 0) rfl
  have k0_1 := K0.cell (i := 1) rfl
  have k0_2 := K0.cell (i := 2) rfl
  have k0_3 := K0.cell (i := 3) rfl
  have k0_4 := K0.cell (i := 4) rfl
  replace hl := hl.below (show Below w.heap.size w (w.alloc (.cells #[.slice T.AS T.nS T.cS, .slice T.AC T.nC T.cC, .slice T.AK T.nK T.cK, .int .i64 T.L, .int .i64 T.W] 26)) from B)
  go_enter Try.func5, Try.ntmps5
  go_wp2_with (fail)
  with_reducible refine (pays_any _).mono ?_
  rintro e w1 ⟨rfl, hb⟩
  clear k0_0 k0_1 k0_2 k0_3 k0_4
  replace K0 := K0.below hb
  replace h := h.below hb
  replace hl := hl.below hb
  replace B := below_step B hb B.size
  clear hb
  have k0_0 := K0.cell (i := 0) rfl
  have k0_1 := K0.cell (i := 1) rfl
  have k0_2 := K0.cell (i := 2) rfl
  have k0_3 := K0.cell (i := 3) rfl
  have k0_4 := K0.cell (i := 4) rfl
  go_wp2_with (fail)
  with_reducible refine (lfits_any T _ h hF).mono ?_
  rintro e w2 ⟨he, hb⟩
  clear k0_0 k0_1 k0_2 k0_3 k0_4
  replace K0 := K0.below hb
  replace h := h.below hb
  replace hl := hl.below hb
  replace B := below_step B hb B.size
  clear hb
  have k0_0 := K0.cell (i := 0) rfl
  have k0_1 := K0.cell (i := 1) rfl
  have k0_2 := K0.cell (i := 2) rfl
  have k0_3 := K0.cell (i := 3) rfl
  have k0_4 := K0.cell (i := 4) rfl
  rw [g] at he
  subst he
  go_wp2
  go_ret
  exact ⟨rfl, B⟩
set_option maxRecDepth 100000 in
set_option maxHeartbeats 8000000 in
theorem ss_long (T : TB) (A : Option Addr) (m q : Nat) (c x s : Nat → Int) (w : World) (h : Tm w T) (hF : TFits T) (hl : BasM w A m c x s) (hm : m ≤ 9223372036854775807) (g : lfB T = true) (g2 : 60 < m) :
    Calls Try.prog 5 #[.agg #[.slice T.AS T.nS T.cS, .slice T.AC T.nC T.cC, .slice T.AK T.nK T.cK, .int .i64 T.L, .int .i64 T.W], .slice A m q] w fun e w' => e = .returned (.bool true) ∧ Below w.heap.size w w' := by
  have q0 : decide (60 < (m : Int)) = true := decide_eq_true (by omega)
  have K0 : Bx (w.alloc (.cells #[.slice T.AS T.nS T.cS, .slice T.AC T.nC T.cC, .slice T.AK T.nK T.cK, .int .i64 T.L, .int .i64 T.W] 26)) (w.heap.size) 26 [.slice T.AS T.nS T.cS, .slice T.AC T.nC T.cC, .slice T.AK T.nK T.cK, .int .i64 T.L, .int .i64 T.W] := bx_new w [.slice T.AS T.nS T.cS, .slice T.AC T.nC T.cC, .slice T.AK T.nK T.cK, .int .i64 T.L, .int .i64 T.W] 26
  have B : Below w.heap.size w (w.alloc (.cells #[.slice T.AS T.nS T.cS, .slice T.AC T.nC T.cC, .slice T.AK T.nK T.cK, .int .i64 T.L, .int .i64 T.W] 26)) := ((Below.refl _ _).alloc (Nat.le_refl _) _)
  replace h := h.below (show Below w.heap.size w (w.alloc (.cells #[.slice T.AS T.nS T.cS, .slice T.AC T.nC T.cC, .slice T.AK T.nK T.cK, .int .i64 T.L, .int .i64 T.W] 26)) from B)
  have k0_0 := K0.cell (i := 0) rfl
  have k0_1 := K0.cell (i := 1) rfl
  have k0_2 := K0.cell (i := 2) rfl
  have k0_3 := K0.cell (i := 3) rfl
  have k0_4 := K0.cell (i := 4) rfl
  replace hl := hl.below (show Below w.heap.size w (w.alloc (.cells #[.slice T.AS T.nS T.cS, .slice T.AC T.nC T.cC, .slice T.AK T.nK T.cK, .int .i64 T.L, .int .i64 T.W] 26)) from B)
  go_enter Try.func5, Try.ntmps5
  go_wp2_with (fail)
  with_reducible refine (pays_any _).mono ?_
  rintro e w1 ⟨rfl, hb⟩
  clear k0_0 k0_1 k0_2 k0_3 k0_4
  replace K0 := K0.below hb
  replace h := h.below hb
  replace hl := hl.below hb
  replace B := below_step B hb B.size
  clear hb
  have k0_0 := K0.cell (i := 0) rfl
  have k0_1 := K0.cell (i := 1) rfl
  have k0_2 := K0.cell (i := 2) rfl
  have k0_3 := K0.cell (i := 3) rfl
  have k0_4 := K0.cell (i := 4) rfl
  go_wp2_with (fail)
  with_reducible refine (lfits_any T _ h hF).mono ?_
  rintro e w2 ⟨he, hb⟩
  clear k0_0 k0_1 k0_2 k0_3 k0_4
  replace K0 := K0.below hb
  replace h := h.below hb
  replace hl := hl.below hb
  replace B := below_step B hb B.size
  clear hb
  have k0_0 := K0.cell (i := 0) rfl
  have k0_1 := K0.cell (i := 1) rfl
  have k0_2 := K0.cell (i := 2) rfl
  have k0_3 := K0.cell (i := 3) rfl
  have k0_4 := K0.cell (i := 4) rfl
  rw [g] at he
  subst he
  go_wp2
  go_ret
  exact ⟨rfl, B⟩
set_option maxRecDepth 100000 in
set_option maxHeartbeats 8000000 in
theorem ss_bad (T : TB) (A : Option Addr) (m q : Nat) (c x s : Nat → Int) (w : World) (h : Tm w T) (hF : TFits T) (hl : BasM w A m c x s) (hm : m ≤ 9223372036854775807) (g : lfB T = true) (g2 : ¬ 60 < m) (hE : firstE (yrE T c x s) m ≠ 0) :
    Calls Try.prog 5 #[.agg #[.slice T.AS T.nS T.cS, .slice T.AC T.nC T.cC, .slice T.AK T.nK T.cK, .int .i64 T.L, .int .i64 T.W], .slice A m q] w fun e w' => e = .returned (.bool true) ∧ Below w.heap.size w w' := by
  have q0 : decide (60 < (m : Int)) = false := decide_eq_false (by omega)
  have q00 : ¬ 60 < m := by omega
  have tc := lf_tc g
  have h6 := tc.ok.c6
  have cY := fun w h hl => year_any T A m q c x s w h tc hl (by omega)
  have cT := fun w h hl => tod_any T A m q c x s w h tc hl (by omega)
  clear tc
  have HE := Lib.hid hE
  have q2 : (firstE (yrE T c x s) m != 0) = true := by simpa using hE
  clear hE
  have K0 : Bx (w.alloc (.cells #[.slice T.AS T.nS T.cS, .slice T.AC T.nC T.cC, .slice T.AK T.nK T.cK, .int .i64 T.L, .int .i64 T.W] 26)) (w.heap.size) 26 [.slice T.AS T.nS T.cS, .slice T.AC T.nC T.cC, .slice T.AK T.nK T.cK, .int .i64 T.L, .int .i64 T.W] := bx_new w [.slice T.AS T.nS T.cS, .slice T.AC T.nC T.cC, .slice T.AK T.nK T.cK, .int .i64 T.L, .int .i64 T.W] 26
  have B : Below w.heap.size w (w.alloc (.cells #[.slice T.AS T.nS T.cS, .slice T.AC T.nC T.cC, .slice T.AK T.nK T.cK, .int .i64 T.L, .int .i64 T.W] 26)) := ((Below.refl _ _).alloc (Nat.le_refl _) _)
  replace h := h.below (show Below w.heap.size w (w.alloc (.cells #[.slice T.AS T.nS T.cS, .slice T.AC T.nC T.cC, .slice T.AK T.nK T.cK, .int .i64 T.L, .int .i64 T.W] 26)) from B)
  have k0_0 := K0.cell (i := 0) rfl
  have k0_1 := K0.cell (i := 1) rfl
  have k0_2 := K0.cell (i := 2) rfl
  have k0_3 := K0.cell (i := 3) rfl
  have k0_4 := K0.cell (i := 4) rfl
  replace hl := hl.below (show Below w.heap.size w (w.alloc (.cells #[.slice T.AS T.nS T.cS, .slice T.AC T.nC T.cC, .slice T.AK T.nK T.cK, .int .i64 T.L, .int .i64 T.W] 26)) from B)
  go_enter Try.func5, Try.ntmps5
  go_wp2_with (fail)
  with_reducible refine (pays_any _).mono ?_
  rintro e w1 ⟨rfl, hb⟩
  clear k0_0 k0_1 k0_2 k0_3 k0_4
  replace K0 := K0.below hb
  replace h := h.below hb
  replace hl := hl.below hb
  replace B := below_step B hb B.size
  clear hb
  have k0_0 := K0.cell (i := 0) rfl
  have k0_1 := K0.cell (i := 1) rfl
  have k0_2 := K0.cell (i := 2) rfl
  have k0_3 := K0.cell (i := 3) rfl
  have k0_4 := K0.cell (i := 4) rfl
  go_wp2_with (fail)
  with_reducible refine (lfits_any T _ h hF).mono ?_
  rintro e w2 ⟨he, hb⟩
  clear k0_0 k0_1 k0_2 k0_3 k0_4
  replace K0 := K0.below hb
  replace h := h.below hb
  replace hl := hl.below hb
  replace B := below_step B hb B.size
  clear hb
  have k0_0 := K0.cell (i := 0) rfl
  have k0_1 := K0.cell (i := 1) rfl
  have k0_2 := K0.cell (i := 2) rfl
  have k0_3 := K0.cell (i := 3) rfl
  have k0_4 := K0.cell (i := 4) rfl
  rw [g] at he
  subst he
  go_wp2_with (fail)
  with_reducible refine (cY _ h hl).mono ?_
  rintro e w3 ⟨v, rfl, _, hbad, hb⟩
  clear k0_0 k0_1 k0_2 k0_3 k0_4
  replace K0 := K0.below hb
  replace h := h.below hb
  replace hl := hl.below hb
  replace B := below_step B hb B.size
  clear hb
  have k0_0 := K0.cell (i := 0) rfl
  have k0_1 := K0.cell (i := 1) rfl
  have k0_2 := K0.cell (i := 2) rfl
  have k0_3 := K0.cell (i := 3) rfl
  have k0_4 := K0.cell (i := 4) rfl
  obtain rfl := hbad HE.out
  clear hbad cY
  go_wp2_with (fail)
  with_reducible refine (cT _ h hl).mono ?_
  rintro e w4 ⟨v, rfl, _, _, hbad, hb⟩
  clear k0_0 k0_1 k0_2 k0_3 k0_4
  replace K0 := K0.below hb
  replace h := h.below hb
  replace hl := hl.below hb
  replace B := below_step B hb B.size
  clear hb
  have k0_0 := K0.cell (i := 0) rfl
  have k0_1 := K0.cell (i := 1) rfl
  have k0_2 := K0.cell (i := 2) rfl
  have k0_3 := K0.cell (i := 3) rfl
  have k0_4 := K0.cell (i := 4) rfl
  obtain rfl := hbad HE.out
  clear hbad cT HE
  generalize firstE (yrE T c x s) m = fe at *
  go_wp2
  go_ret
  exact ⟨rfl, B⟩
set_option maxRecDepth 100000 in
set_option maxHeartbeats 8000000 in
theorem ss_over (T : TB) (A : Option Addr) (m q : Nat) (c x s : Nat → Int) (w : World) (h : Tm w T) (hF : TFits T) (hl : BasM w A m c x s) (hm : m ≤ 9223372036854775807) (g : lfB T = true) (g2 : ¬ 60 < m) (hE : firstE (yrE T c x s) m = 0) (hT : tdE T x s m ≠ 0) :
    Calls Try.prog 5 #[.agg #[.slice T.AS T.nS T.cS, .slice T.AC T.nC T.cC, .slice T.AK T.nK T.cK, .int .i64 T.L, .int .i64 T.W], .slice A m q] w fun e w' => e = .returned (.bool true) ∧ Below w.heap.size w w' := by
  have q0 : decide (60 < (m : Int)) = false := decide_eq_false (by omega)
  have q00 : ¬ 60 < m := by omega
  have tc := lf_tc g
  have h6 := tc.ok.c6
  have cY := fun w h hl => year_any T A m q c x s w h tc hl (by omega)
  have cT := fun w h hl => tod_any T A m q c x s w h tc hl (by omega)
  clear tc
  have HE := Lib.hid hE
  have h10 : tdE T x s m = 10 := by have := td_ten T x s m; omega
  have HT := Lib.hid hT
  clear hE hT
  have K0 : Bx (w.alloc (.cells #[.slice T.AS T.nS T.cS, .slice T.AC T.nC T.cC, .slice T.AK T.nK T.cK, .int .i64 T.L, .int .i64 T.W] 26)) (w.heap.size) 26 [.slice T.AS T.nS T.cS, .slice T.AC T.nC T.cC, .slice T.AK T.nK T.cK, .int .i64 T.L, .int .i64 T.W] := bx_new w [.slice T.AS T.nS T.cS, .slice T.AC T.nC T.cC, .slice T.AK T.nK T.cK, .int .i64 T.L, .int .i64 T.W] 26
  have B : Below w.heap.size w (w.alloc (.cells #[.slice T.AS T.nS T.cS, .slice T.AC T.nC T.cC, .slice T.AK T.nK T.cK, .int .i64 T.L, .int .i64 T.W] 26)) := ((Below.refl _ _).alloc (Nat.le_refl _) _)
  replace h := h.below (show Below w.heap.size w (w.alloc (.cells #[.slice T.AS T.nS T.cS, .slice T.AC T.nC T.cC, .slice T.AK T.nK T.cK, .int .i64 T.L, .int .i64 T.W] 26)) from B)
  have k0_0 := K0.cell (i := 0) rfl
  have k0_1 := K0.cell (i := 1) rfl
  have k0_2 := K0.cell (i := 2) rfl
  have k0_3 := K0.cell (i := 3) rfl
  have k0_4 := K0.cell (i := 4) rfl
  replace hl := hl.below (show Below w.heap.size w (w.alloc (.cells #[.slice T.AS T.nS T.cS, .slice T.AC T.nC T.cC, .slice T.AK T.nK T.cK, .int .i64 T.L, .int .i64 T.W] 26)) from B)
  go_enter Try.func5, Try.ntmps5
  go_wp2_with (fail)
  with_reducible refine (pays_any _).mono ?_
  rintro e w1 ⟨rfl, hb⟩
  clear k0_0 k0_1 k0_2 k0_3 k0_4
  replace K0 := K0.below hb
  replace h := h.below hb
  replace hl := hl.below hb
  replace B := below_step B hb B.size
  clear hb
  have k0_0 := K0.cell (i := 0) rfl
  have k0_1 := K0.cell (i := 1) rfl
  have k0_2 := K0.cell (i := 2) rfl
  have k0_3 := K0.cell (i := 3) rfl
  have k0_4 := K0.cell (i := 4) rfl
  go_wp2_with (fail)
  with_reducible refine (lfits_any T _ h hF).mono ?_
  rintro e w2 ⟨he, hb⟩
  clear k0_0 k0_1 k0_2 k0_3 k0_4
  replace K0 := K0.below hb
  replace h := h.below hb
  replace hl := hl.below hb
  replace B := below_step B hb B.size
  clear hb
  have k0_0 := K0.cell (i := 0) rfl
  have k0_1 := K0.cell (i := 1) rfl
  have k0_2 := K0.cell (i := 2) rfl
  have k0_3 := K0.cell (i := 3) rfl
  have k0_4 := K0.cell (i := 4) rfl
  rw [g] at he
  subst he
  go_wp2_with (fail)
  with_reducible refine (cY _ h hl).mono ?_
  rintro e w3 ⟨v, rfl, hok, _, hb⟩
  clear k0_0 k0_1 k0_2 k0_3 k0_4
  replace K0 := K0.below hb
  replace h := h.below hb
  replace hl := hl.below hb
  replace B := below_step B hb B.size
  clear hb
  have k0_0 := K0.cell (i := 0) rfl
  have k0_1 := K0.cell (i := 1) rfl
  have k0_2 := K0.cell (i := 2) rfl
  have k0_3 := K0.cell (i := 3) rfl
  have k0_4 := K0.cell (i := 4) rfl
  obtain ⟨u, rfl, HR⟩ := hok HE.out
  clear hok cY HR
  go_wp2_with (fail)
  with_reducible refine (cT _ h hl).mono ?_
  rintro e w4 ⟨v, rfl, _, hbad, _, hb⟩
  clear k0_0 k0_1 k0_2 k0_3 k0_4
  replace K0 := K0.below hb
  replace h := h.below hb
  replace hl := hl.below hb
  replace B := below_step B hb B.size
  clear hb
  have k0_0 := K0.cell (i := 0) rfl
  have k0_1 := K0.cell (i := 1) rfl
  have k0_2 := K0.cell (i := 2) rfl
  have k0_3 := K0.cell (i := 3) rfl
  have k0_4 := K0.cell (i := 4) rfl
  obtain rfl := hbad HE.out HT.out
  rw [h10]
  clear hbad cT HE HT h10
  go_wp2
  go_ret
  exact ⟨rfl, B⟩
set_option maxRecDepth 100000 in
set_option maxHeartbeats 8000000 in
theorem ss_ok (T : TB) (A : Option Addr) (m q : Nat) (c x s : Nat → Int) (w : World) (h : Tm w T) (hF : TFits T) (hl : BasM w A m c x s) (hm : m ≤ 9223372036854775807) (g : lfB T = true) (g2 : ¬ 60 < m) (hE : firstE (yrE T c x s) m = 0) (hT : tdE T x s m = 0) (h0m : 0 < m) :
    Calls Try.prog 5 #[.agg #[.slice T.AS T.nS T.cS, .slice T.AC T.nC T.cC, .slice T.AK T.nK T.cK, .int .i64 T.L, .int .i64 T.W], .slice A m q] w fun e w' => e = .returned (.bool true) ∧ Below w.heap.size w w' := by
  have q0 : decide (60 < (m : Int)) = false := decide_eq_false (by omega)
  have q00 : ¬ 60 < m := by omega
  have tc := lf_tc g
  have h6 := tc.ok.c6
  have cY := fun w h hl => year_any T A m q c x s w h tc hl (by omega)
  have cT := fun w h hl => tod_any T A m q c x s w h tc hl (by omega)
  clear tc
  have HE := Lib.hid hE
  have HT := Lib.hid hT
  clear hE hT
  have K0 : Bx (w.alloc (.cells #[.slice T.AS T.nS T.cS, .slice T.AC T.nC T.cC, .slice T.AK T.nK T.cK, .int .i64 T.L, .int .i64 T.W] 26)) (w.heap.size) 26 [.slice T.AS T.nS T.cS, .slice T.AC T.nC T.cC, .slice T.AK T.nK T.cK, .int .i64 T.L, .int .i64 T.W] := bx_new w [.slice T.AS T.nS T.cS, .slice T.AC T.nC T.cC, .slice T.AK T.nK T.cK, .int .i64 T.L, .int .i64 T.W] 26
  have B : Below w.heap.size w (w.alloc (.cells #[.slice T.AS T.nS T.cS, .slice T.AC T.nC T.cC, .slice T.AK T.nK T.cK, .int .i64 T.L, .int .i64 T.W] 26)) := ((Below.refl _ _).alloc (Nat.le_refl _) _)
  replace h := h.below (show Below w.heap.size w (w.alloc (.cells #[.slice T.AS T.nS T.cS, .slice T.AC T.nC T.cC, .slice T.AK T.nK T.cK, .int .i64 T.L, .int .i64 T.W] 26)) from B)
  have k0_0 := K0.cell (i := 0) rfl
  have k0_1 := K0.cell (i := 1) rfl
  have k0_2 := K0.cell (i := 2) rfl
  have k0_3 := K0.cell (i := 3) rfl
  have k0_4 := K0.cell (i := 4) rfl
  replace hl := hl.below (show Below w.heap.size w (w.alloc (.cells #[.slice T.AS T.nS T.cS, .slice T.AC T.nC T.cC, .slice T.AK T.nK T.cK, .int .i64 T.L, .int .i64 T.W] 26)) from B)
  go_enter Try.func5, Try.ntmps5
  go_wp2_with (fail)
  with_reducible refine (pays_any _).mono ?_
  rintro e w1 ⟨rfl, hb⟩
  clear k0_0 k0_1 k0_2 k0_3 k0_4
  replace K0 := K0.below hb
  replace h := h.below hb
  replace hl := hl.below hb
  replace B := below_step B hb B.size
  clear hb
  have k0_0 := K0.cell (i := 0) rfl
  have k0_1 := K0.cell (i := 1) rfl
  have k0_2 := K0.cell (i := 2) rfl
  have k0_3 := K0.cell (i := 3) rfl
  have k0_4 := K0.cell (i := 4) rfl
  go_wp2_with (fail)
  with_reducible refine (lfits_any T _ h hF).mono ?_
  rintro e w2 ⟨he, hb⟩
  clear k0_0 k0_1 k0_2 k0_3 k0_4
  replace K0 := K0.below hb
  replace h := h.below hb
  replace hl := hl.below hb
  replace B := below_step B hb B.size
  clear hb
  have k0_0 := K0.cell (i := 0) rfl
  have k0_1 := K0.cell (i := 1) rfl
  have k0_2 := K0.cell (i := 2) rfl
  have k0_3 := K0.cell (i := 3) rfl
  have k0_4 := K0.cell (i := 4) rfl
  rw [g] at he
  subst he
  go_wp2_with (fail)
  with_reducible refine (cY _ h hl).mono ?_
  rintro e w3 ⟨v, rfl, hok, _, hb⟩
  clear k0_0 k0_1 k0_2 k0_3 k0_4
  replace K0 := K0.below hb
  replace h := h.below hb
  replace hl := hl.below hb
  replace B := below_step B hb B.size
  clear hb
  have k0_0 := K0.cell (i := 0) rfl
  have k0_1 := K0.cell (i := 1) rfl
  have k0_2 := K0.cell (i := 2) rfl
  have k0_3 := K0.cell (i := 3) rfl
  have k0_4 := K0.cell (i := 4) rfl
  obtain ⟨u, rfl, HR⟩ := hok HE.out
  obtain ⟨Ar, cr, rfl, hM, _⟩ := rowsM_of HR
  clear hok cY HR
  go_wp2_with (fail)
  with_reducible refine (cT _ h hl).mono ?_
  rintro e w4 ⟨v, rfl, hok, _, _, hb⟩
  clear k0_0 k0_1 k0_2 k0_3 k0_4
  replace K0 := K0.below hb
  replace h := h.below hb
  replace hl := hl.below hb
  replace hM := hM.below hb
  replace B := below_step B hb B.size
  clear hb
  have k0_0 := K0.cell (i := 0) rfl
  have k0_1 := K0.cell (i := 1) rfl
  have k0_2 := K0.cell (i := 2) rfl
  have k0_3 := K0.cell (i := 3) rfl
  have k0_4 := K0.cell (i := 4) rfl
  obtain ⟨ba, rfl, _, hS⟩ := hok HE.out HT.out
  clear hok cT HE
  clear hl h
  have hqn : ((T.nC : Int) != (T.nC : Int)) = false := by simp
  have Bw := Below.refl w4.heap.size w4
  go_wp2
  go_loopw [66] (fun k X => ∃ i : Nat, i ≤ T.nC ∧ k = .int .i64 i ∧ Below w4.heap.size w4 X) (fun k _ => T.nC - (intOf k).toNat)
  case atStart => exact ⟨0, Nat.zero_le _, rfl, Bw⟩
  case round =>
    clear Bw
    obtain ⟨i, hi, rfl, hbX⟩ := hrel
    by_cases hlt : i < T.nC
    · have hAM := Lib.hid (fun k (hk : k ≤ m) => td_amt HT.out hk hlt)
      have hAX := Lib.hid (fun k (hk : k < m) => td_one HT.out hk hlt)
      obtain ⟨a0, a1, _, _⟩ := hS.cells hlt
      replace a0 := cell_later hbX a0
      replace a1 := cell_later hbX a1
      have K8 := bx_new wr [.int .i64 0, .int .i64 0] 33
      have NB := below_new wr (.cells #[.int .i64 0, .int .i64 0] 33)
      have hA0 := cell_later NB a0
      have hA1 := cell_later NB a1
      have B8 := below_step hbX NB hbX.size
      have hbs := hbX.size
      have Bz := Below.refl (wr.alloc (.cells #[.int .i64 0, .int .i64 0] 33)).heap.size (wr.alloc (.cells #[.int .i64 0, .int .i64 0] 33))
      clear NB a0 a1
      go_wp2
      generalize wr.alloc (.cells #[.int .i64 0, .int .i64 0] 33) = W8 at *
      generalize wr.heap.size = bs at *
      go_loopw [71] (fun k X => ∃ j : Nat, j ≤ m ∧ k = .int .i64 j ∧ Bx X bs 33 [.int .i64 (smS (yrA T x s) j i), .int .i64 (smS (yrB' T x s) j i)] ∧ Below w4.heap.size w4 X) (fun k _ => m - (intOf k).toNat)
      case atStart => exact ⟨0, Nat.zero_le _, rfl, K8, B8⟩
      case round =>
        clear Bz K8 B8 hA0 hA1
        obtain ⟨j, hj, rfl, K8, hbY⟩ := hrel
        by_cases hjl : j < m
        · obtain ⟨b, o, rfl, hcc⟩ := hM (by omega)
          obtain ⟨A', c', g0, hs⟩ := hcc j hjl
          have hs2 : Shs w4 A' T.nC (yrA T x s j) (yrB' T x s j) := hs
          obtain ⟨b', o', rfl, hsc⟩ := hs2 (by omega)
          obtain ⟨s0, s1⟩ := hsc i hlt
          replace g0 : wr.cell? ⟨b, o + j, none⟩ = some (.slice (some ⟨b', o', none⟩) T.nC c') := cell_later hbY g0
          have s1w := s1
          replace s0 := cell_later hbY s0
          clear s1
          have p0 := amtB_yes (hAM.out j hj).1
          have p1 := amtB_yes (hAM.out j hj).2
          have p2 := hAX.out j hjl
          have HN : Hid (smS (yrA T x s) (j + 1) i = smS (yrA T x s) j i + yrA T x s j i ∧ smS (yrB' T x s) (j + 1) i = smS (yrB' T x s) j i + yrB' T x s j i) := Lib.hid ⟨rfl, rfl⟩
          clear hcc hs hsc hM hS
          generalize smS (yrA T x s) j i = u at *
          generalize smS (yrB' T x s) j i = v at *
          generalize yrA T x s j i = du at *
          generalize yrB' T x s j i = dv at *
          have k0 := K8.cell (i := 0) rfl
          have k1 := K8.cell (i := 1) rfl
          have f0 := K8.fr 0
          have f1 := K8.fr 1
          have hw0 : wrap64 (u + du) = u + du := IntWalk.wrap64_in _ (by omega)
          have hw1 : wrap64 (v + dv) = v + dv := IntWalk.wrap64_in _ (by omega)
          go_wp2
          go_region
          have K8' : Bx (wr.setCell ⟨bs, 0, none⟩ (.int .i64 (u + du))).drew bs 33 [.int .i64 (u + du), .int .i64 v] := K8.set 0 (.int .i64 (u + du))
          have hbZ := (hbY.setCell (p := ⟨bs, 0, none⟩) hbs (.int .i64 (u + du))).drew
          have s1 := cell_later hbZ s1w
          clear k0 k1 f0 f1 g0 s0 K8 hbY
          generalize (wr.setCell ⟨bs, 0, none⟩ (.int .i64 (u + du))).drew = wz at *
          have k1 := K8'.cell (i := 1) rfl
          have f1 := K8'.fr 1
          go_wp2
          go_region
          have K9 : Bx (wz.setCell ⟨bs, 1, none⟩ (.int .i64 (v + dv))).drew bs 33 [.int .i64 (u + du), .int .i64 (v + dv)] := K8'.set 1 (.int .i64 (v + dv))
          have hbV := (hbZ.setCell (p := ⟨bs, 1, none⟩) hbs (.int .i64 (v + dv))).drew
          clear k1 f1 s1 K8' hbZ
          go_wp2
          refine ⟨⟨j + 1, by omega, by go_num, by rw [HN.out.1, HN.out.2]; exact K9, hbV⟩, ?_⟩
          simp [intOf]; omega
        · obtain rfl : j = m := by omega
          obtain ⟨a0, a1, _, _⟩ := hS.cells hlt
          replace a0 := cell_later hbY a0
          replace a1 := cell_later hbY a1
          have k0 := K8.cell (i := 0) rfl
          have k1 := K8.cell (i := 1) rfl
          have hnl : ¬ (j : Int) < (j : Int) := by omega
          clear hM hS hAM hAX
          generalize smS (yrA T x s) j i = u at *
          generalize smS (yrB' T x s) j i = v at *
          go_wp2
          go_quiet (fail)
          have hbV := below_drewN hbY nq
          go_wp2
          refine ⟨⟨i + 1, by omega, by go_num, hbV⟩, ?_⟩
          simp [intOf]; omega
    · obtain rfl : i = T.nC := by omega
      have hnl : ¬ (T.nC : Int) < (T.nC : Int) := by omega
      clear hS
      obtain ⟨cs, hmk, hsb⟩ := make_sh T.nC (by omega)
      obtain ⟨b, o, rfl, hcc⟩ := id ((hM.below hbX) h0m)
      replace K0 := K0.below hbX
      replace B := below_step B hbX B.size
      have hfn : ∀ k, k < m → wr.cell? ⟨b, o + k, none⟩ = some ((wr.cell? ⟨b, o + k, none⟩).getD (.slice none 0 0)) ∧ ((wr.cell? ⟨b, o + k, none⟩).getD (.slice none 0 0)).oneCell' = true := fun k hk => by
        obtain ⟨A', c', e, _⟩ := hcc k hk
        rw [e]
        exact ⟨rfl, rfl⟩
      have HFN := Lib.hid hfn
      have s1 := K0.cell (i := 1) rfl
      have c1 : ∀ X : World, Below wr.heap.size wr X → X.cell? ⟨w.heap.size, 1, none⟩ = some (.slice T.AC T.nC T.cC) ∧ Below wr.heap.size wr X := fun X h => ⟨cell_later h s1, h⟩
      have S1 := c1 wr.drew (Below.refl _ _).drew
      have HBA : Below wr.heap.size wr (wr.alloc (.cells cs 33)).drew := (below_new _ _).drew
      have HBB : Below wr.heap.size wr ((wr.alloc (.cells cs 33)).alloc (.cells #[.slice (some ⟨wr.heap.size, 0, none⟩) T.nC T.nC] 55)).drew := ((below_new _ _).alloc (by simp) _).drew
      have hown0 := World.ownsRow_lit (base := wr.heap.size) (e := 55) (size := 1) (wr.alloc (.cells cs 33)) #[.slice (some ⟨wr.heap.size, 0, none⟩) T.nC T.nC] 1 (by simp) (by decide) rfl
      rw [show (wr.alloc (.cells cs 33)).heap.size = wr.heap.size + 1 by simp] at hown0
      obtain ⟨i0, hi0, hz0, hz1, hz2⟩ := info_parts infoRow
      have hlN : ((List.range m).map fun k => (wr.cell? ⟨b, o + k, none⟩).getD (.slice none 0 0)).length = m * 1 := by simp
      have hnews : ∀ X : World, Below wr.heap.size wr X → ∀ j u, ((List.range m).map fun k => (wr.cell? ⟨b, o + k, none⟩).getD (.slice none 0 0))[j]? = some u → X.cell? ((⟨b, o, none⟩ : Addr).add j) = some u := fun X h j u hu => by
        have hj : j < m := by
          rcases Nat.lt_or_ge j m with h | h
          · exact h
          · rw [List.getElem?_eq_none (by simp; omega)] at hu; cases hu
        rw [List.getElem?_map, List.getElem?_range hj] at hu
        simp only [Option.map_some, Option.some.injEq] at hu
        rw [Go.WideShapes.add_plain, ← hu]
        exact cell_later h (HFN.out j hj).1
      have hones : ∀ u ∈ ((List.range m).map fun k => (wr.cell? ⟨b, o + k, none⟩).getD (.slice none 0 0)), u.oneCell' = true := fun u hu => by
        obtain ⟨k, hk, rfl⟩ := List.mem_map.1 hu
        exact (HFN.out k (List.mem_range.1 hk)).2
      have hc3 : 1 + m ≤ maxLen := by unfold maxLen; omega
      have hc4 : (1 + m) * 24 ≤ 140737488355328 := by omega
      have cSL := sum_len (T.nC + 1) (IntKind.i64.wrap ((T.nC : Int) + 1)) ((IntWalk.i64_in _ (by omega)).trans (by omega))
      have HLN := Lib.hid hlN
      have HNW := Lib.hid hnews
      have HON := Lib.hid hones
      have HOW := Lib.hid hown0
      clear hfn hcc hM hsb hlN hnews hones hown0
      have k0_1 := s1
      go_wp2
      go_region_held3 (fun X => X.cell? ⟨w.heap.size, 1, none⟩ = some (.slice T.AC T.nC T.cC) ∧ Below wr.heap.size wr X)
        ((first | exact S1 | assumption | exact c1 _ HBA | exact c1 _ HBB | exact c1 _ hw))
        (first
          | (refine step_append_lies _ (by rfl) (.tmp 110) (.tmp 111) 47 (by rfl) wr.heap.size 55 i0 (.slice none 0 0) 1 24 Try.underlying47 hi0 hz0 hz1 hz2 (by rfl) (by decide) (.slice (some ⟨wr.heap.size + 1, 0, none⟩) 1 1) 1 [.slice (some ⟨wr.heap.size, 0, none⟩) T.nC T.nC] (by rfl) HOW.out ⟨b, o, none⟩ m cr _ (by rfl) HLN.out (HNW.out _ HBB) HON.out h0m hc3 hc4 HBB.size _ rfl ?_; intro g9 cap9 w9 hown9 hgrow hat hlt9; have hw : Below wr.heap.size wr w9 := HBB.grown hgrow HBB.size (fun k hk => by simp [Value.ownBlock] at hk; omega); have hc9 := own_cells hown9 (j := 0) (u := .slice (some ⟨wr.heap.size, 0, none⟩) T.nC T.nC) rfl)
          | (go_at_call 19; with_reducible refine (cSL g9 0 (1 + m) cap9 w9 _ _ _ hc9 (by omega) (by omega) (by omega)).mono ?_; rintro e w10 ⟨rfl, hb10⟩; have hw := below_step hw hb10 hw.size))
      all_goals
        have B9 := below_step B hw B.size
        go_wp2_with (fail)
        with_reducible refine (sum_range (-1) none 0 0 _ (.inl (by omega))).mono ?_
        rintro e w11 ⟨rfl, hb11⟩
        have B10 := below_step B9 hb11 B9.size
        go_wp2
        go_ret
        exact ⟨rfl, B10⟩
set_option maxRecDepth 100000 in
set_option maxHeartbeats 8000000 in
theorem ss_zero (T : TB) (A : Option Addr) (q : Nat) (w : World) (h : Tm w T) (hF : TFits T) (g : lfB T = true) :
    Calls Try.prog 5 #[.agg #[.slice T.AS T.nS T.cS, .slice T.AC T.nC T.cC, .slice T.AK T.nK T.cK, .int .i64 T.L, .int .i64 T.W], .slice A 0 q] w fun e w' => e = .returned (.bool true) ∧ Below w.heap.size w w' := by
  have tc := lf_tc g
  have h6 := tc.ok.c6
  have cY := fun w => year_nil T A q w h6
  have cT := fun w h => tod_any T A 0 q (fun _ => 0) (fun _ => 0) (fun _ => 0) w h tc (fun h0 => absurd h0 (Nat.not_lt_zero _)) (by omega)
  clear tc
  have K0 : Bx (w.alloc (.cells #[.slice T.AS T.nS T.cS, .slice T.AC T.nC T.cC, .slice T.AK T.nK T.cK, .int .i64 T.L, .int .i64 T.W] 26)) (w.heap.size) 26 [.slice T.AS T.nS T.cS, .slice T.AC T.nC T.cC, .slice T.AK T.nK T.cK, .int .i64 T.L, .int .i64 T.W] := bx_new w [.slice T.AS T.nS T.cS, .slice T.AC T.nC T.cC, .slice T.AK T.nK T.cK, .int .i64 T.L, .int .i64 T.W] 26
  have B : Below w.heap.size w (w.alloc (.cells #[.slice T.AS T.nS T.cS, .slice T.AC T.nC T.cC, .slice T.AK T.nK T.cK, .int .i64 T.L, .int .i64 T.W] 26)) := ((Below.refl _ _).alloc (Nat.le_refl _) _)
  replace h := h.below (show Below w.heap.size w (w.alloc (.cells #[.slice T.AS T.nS T.cS, .slice T.AC T.nC T.cC, .slice T.AK T.nK T.cK, .int .i64 T.L, .int .i64 T.W] 26)) from B)
  have k0_0 := K0.cell (i := 0) rfl
  have k0_1 := K0.cell (i := 1) rfl
  have k0_2 := K0.cell (i := 2) rfl
  have k0_3 := K0.cell (i := 3) rfl
  have k0_4 := K0.cell (i := 4) rfl
  go_enter Try.func5, Try.ntmps5
  go_wp2_with (fail)
  with_reducible refine (pays_any _).mono ?_
  rintro e w1 ⟨rfl, hb⟩
  clear k0_0 k0_1 k0_2 k0_3 k0_4
  replace K0 := K0.below hb
  replace h := h.below hb
  replace B := below_step B hb B.size
  clear hb
  have k0_0 := K0.cell (i := 0) rfl
  have k0_1 := K0.cell (i := 1) rfl
  have k0_2 := K0.cell (i := 2) rfl
  have k0_3 := K0.cell (i := 3) rfl
  have k0_4 := K0.cell (i := 4) rfl
  go_wp2_with (fail)
  with_reducible refine (lfits_any T _ h hF).mono ?_
  rintro e w2 ⟨he, hb⟩
  clear k0_0 k0_1 k0_2 k0_3 k0_4
  replace K0 := K0.below hb
  replace h := h.below hb
  replace B := below_step B hb B.size
  clear hb
  have k0_0 := K0.cell (i := 0) rfl
  have k0_1 := K0.cell (i := 1) rfl
  have k0_2 := K0.cell (i := 2) rfl
  have k0_3 := K0.cell (i := 3) rfl
  have k0_4 := K0.cell (i := 4) rfl
  rw [g] at he
  subst he
  go_wp2_with (fail)
  with_reducible refine (cY _).mono ?_
  rintro e w3 ⟨rfl, hb⟩
  clear k0_0 k0_1 k0_2 k0_3 k0_4
  replace K0 := K0.below hb
  replace h := h.below hb
  replace B := below_step B hb B.size
  clear hb
  have k0_0 := K0.cell (i := 0) rfl
  have k0_1 := K0.cell (i := 1) rfl
  have k0_2 := K0.cell (i := 2) rfl
  have k0_3 := K0.cell (i := 3) rfl
  have k0_4 := K0.cell (i := 4) rfl
  clear cY
  go_wp2_with (fail)
  with_reducible refine (cT _ h).mono ?_
  rintro e w4 ⟨v, rfl, hok, _, _, hb⟩
  clear k0_0 k0_1 k0_2 k0_3 k0_4
  replace K0 := K0.below hb
  replace h := h.below hb
  replace B := below_step B hb B.size
  clear hb
  have k0_0 := K0.cell (i := 0) rfl
  have k0_1 := K0.cell (i := 1) rfl
  have k0_2 := K0.cell (i := 2) rfl
  have k0_3 := K0.cell (i := 3) rfl
  have k0_4 := K0.cell (i := 4) rfl
  obtain ⟨ba, rfl, _, hS⟩ := hok rfl rfl
  clear hok cT
  clear h
  have hqn : ((T.nC : Int) != (T.nC : Int)) = false := by simp
  have Bw := Below.refl w4.heap.size w4
  go_wp2
  go_loopw [66] (fun k X => ∃ i : Nat, i ≤ T.nC ∧ k = .int .i64 i ∧ Below w4.heap.size w4 X) (fun k _ => T.nC - (intOf k).toNat)
  case atStart => exact ⟨0, Nat.zero_le _, rfl, Bw⟩
  case round =>
    clear Bw
    obtain ⟨i, hi, rfl, hbX⟩ := hrel
    by_cases hlt : i < T.nC
    · obtain ⟨a0, a1, _, _⟩ := hS.cells hlt
      have K8 := bx_new wr [.int .i64 0, .int .i64 0] 33
      have NB := below_new wr (.cells #[.int .i64 0, .int .i64 0] 33)
      have B8 := below_step hbX NB hbX.size
      have c0 : (wr.alloc (.cells #[.int .i64 0, .int .i64 0] 33)).cell? ⟨ba, i * 2, none⟩ = some (.int .i64 0) := cell_later B8 a0
      have c1 : (wr.alloc (.cells #[.int .i64 0, .int .i64 0] 33)).cell? ⟨ba, i * 2 + 1, none⟩ = some (.int .i64 0) := cell_later B8 a1
      clear NB a0 a1
      go_wp2
      generalize wr.alloc (.cells #[.int .i64 0, .int .i64 0] 33) = W8 at *
      generalize wr.heap.size = bs at *
      go_loopw [71] (fun k X => k = .int .i64 0 ∧ X = W8) (fun _ _ => 0)
      case atStart => exact ⟨rfl, rfl⟩
      case round =>
        obtain ⟨rfl, rfl⟩ := hrel
        have k0 := K8.cell (i := 0) rfl
        have k1 := K8.cell (i := 1) rfl
        clear hS
        go_wp2
        go_quiet (fail)
        have hbV := below_drewN B8 nq
        go_wp2
        refine ⟨⟨i + 1, by omega, by go_num, hbV⟩, ?_⟩
        simp [intOf]; omega
    · obtain rfl : i = T.nC := by omega
      have hnl : ¬ (T.nC : Int) < (T.nC : Int) := by omega
      clear hS
      obtain ⟨cs, hmk, hsb⟩ := make_sh T.nC (by omega)
      replace K0 := K0.below hbX
      replace B := below_step B hbX B.size
      have s1 := K0.cell (i := 1) rfl
      have c1 : ∀ X : World, Below wr.heap.size wr X → X.cell? ⟨w.heap.size, 1, none⟩ = some (.slice T.AC T.nC T.cC) ∧ Below wr.heap.size wr X := fun X h => ⟨cell_later h s1, h⟩
      have S1 := c1 wr.drew (Below.refl _ _).drew
      have HBA : Below wr.heap.size wr (wr.alloc (.cells cs 33)).drew := (below_new _ _).drew
      have HBB : Below wr.heap.size wr ((wr.alloc (.cells cs 33)).alloc (.cells #[.slice (some ⟨wr.heap.size, 0, none⟩) T.nC T.nC] 55)).drew := ((below_new _ _).alloc (by simp) _).drew
      have hc9 : ((wr.alloc (.cells cs 33)).alloc (.cells #[.slice (some ⟨wr.heap.size, 0, none⟩) T.nC T.nC] 55)).drew.cell? ⟨wr.heap.size + 1, 0, none⟩ = some (.slice (some ⟨wr.heap.size, 0, none⟩) T.nC T.nC) := Bx.cell (l := [.slice (some ⟨wr.heap.size, 0, none⟩) T.nC T.nC]) (bx_at (wr.alloc (.cells cs 33)) [.slice (some ⟨wr.heap.size, 0, none⟩) T.nC T.nC] 55 (by simp)) rfl
      have cSL := sum_len (T.nC + 1) (IntKind.i64.wrap ((T.nC : Int) + 1)) ((IntWalk.i64_in _ (by omega)).trans (by omega))
      clear hsb
      have k0_1 := s1
      go_wp2
      go_region_held3 (fun X => X.cell? ⟨w.heap.size, 1, none⟩ = some (.slice T.AC T.nC T.cC) ∧ Below wr.heap.size wr X)
        ((first | exact S1 | assumption | exact c1 _ HBA | exact c1 _ HBB | exact c1 _ hw))
        (first
          | (go_at_call 19; with_reducible refine (cSL (wr.heap.size + 1) 0 1 1 _ _ _ _ hc9 (by omega) (by omega) (by omega)).mono ?_; rintro e w10 ⟨rfl, hb10⟩; have hw := below_step HBB hb10 HBB.size))
      all_goals
        have B9 := below_step B hw B.size
        go_wp2_with (fail)
        with_reducible refine (sum_range (-1) none 0 0 _ (.inl (by omega))).mono ?_
        rintro e w11 ⟨rfl, hb11⟩
        have B10 := below_step B9 hb11 B9.size
        go_wp2
        go_ret
        exact ⟨rfl, B10⟩
theorem wSocialSums (T : TB) (A : Option Addr) (m q : Nat) (c x s : Nat → Int) (w : World) (h : Tm w T) (hF : TFits T) (hl : BasM w A m c x s) (hm : m ≤ 9223372036854775807) (hb : ∀ i, i < m → i64F (c i) ∧ i64F (x i) ∧ i64F (s i)) :
    Calls Try.prog 5 #[.agg #[.slice T.AS T.nS T.cS, .slice T.AC T.nC T.cC, .slice T.AK T.nK T.cK, .int .i64 T.L, .int .i64 T.W], .slice A m q] w fun e w' => e = .returned (.bool true) ∧ Below w.heap.size w w' := by
  cases g : lfB T
  · exact ss_no T A m q c x s w h hF hl hm g
  · by_cases g2 : 60 < m
    · exact ss_long T A m q c x s w h hF hl hm g g2
    · by_cases hE : firstE (yrE T c x s) m = 0
      · by_cases hT : tdE T x s m = 0
        · by_cases h0 : m = 0
          · subst h0
            exact ss_zero T A q w h hF g
          · exact ss_ok T A m q c x s w h hF hl hm g g2 hE hT (by omega)
        · exact ss_over T A m q c x s w h hF hl hm g g2 hE hT
      · exact ss_bad T A m q c x s w h hF hl hm g g2 hE
end Go.Proofs.Ytifoapaoamhgcaa
