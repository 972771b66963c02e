/- The walk of the law SocialYear. -/
import Derived.Test.YtifoapaoamhgcaaSocH
import Derived.Test.YtifoapaoamhgcaaOpenB
import Derived.Test.YtifoapaoamhgcaaCntd
namespace Go.Proofs.Ytifoapaoamhgcaa
open Go.RowKit Go.Sort
set_option linter.unusedVariables false
set_option linter.unusedSimpArgs false

theorem ix3_0 (a b c : Int) (W : World) : (Instr.index 52 (.agg #[.int .i64 a, .int .i64 b, .int .i64 c]) (.int .i64 0)).run Try.prog W = .ok (.int .i64 a) W := by kernel_rfl
theorem ix3_1 (a b c : Int) (W : World) : (Instr.index 52 (.agg #[.int .i64 a, .int .i64 b, .int .i64 c]) (.int .i64 1)).run Try.prog W = .ok (.int .i64 b) W := by kernel_rfl
theorem ix3_2 (a b c : Int) (W : World) : (Instr.index 52 (.agg #[.int .i64 a, .int .i64 b, .int .i64 c]) (.int .i64 2)).run Try.prog W = .ok (.int .i64 c) W := by kernel_rfl
def Qb (v : Int) : Prop := -100000000000 ≤ v ∧ v ≤ 1000000000
theorem first_all {f : Nat → Int} : ∀ {n : Nat}, (∀ i, i < n → f i = 0) → firstE f n = 0
  | 0, _ => rfl
  | n + 1, h => first_succ (first_all fun i hi => h i (by omega)) (h n (by omega))
theorem yr_small {T : TB} {c x s : Nat → Int} {m : Nat} (h : ∀ k, k < m → Qb (c k) ∧ Qb (x k) ∧ Qb (s k)) (hm : m ≤ 60) : firstE (yrE T c x s) m = 0 := by
  have cb : ∀ k, k < m → ∀ i, 0 ≤ cntV T (x k) (s k) (ahd T x s k) i ∧ cntV T (x k) (s k) (ahd T x s k) i ≤ 1000000000 := fun k hk i => by
    obtain ⟨_, ⟨_, h1⟩, ⟨_, h2⟩⟩ := h k hk
    have ho : 0 ≤ onV (T.C i).B (x k) (s k) ∧ onV (T.C i).B (x k) (s k) ≤ 1000000000 := by unfold onV; split <;> omega
    have := und_bd (P := (T.C i).P) (Y := (T.C i).Y) (a := ahd T x s k i) ho.1
    unfold cntV
    omega
  have ab : ∀ k, k ≤ m → ∀ i, 0 ≤ ahd T x s k i ∧ ahd T x s k i ≤ 1000000000 * (k : Int) := fun k => by
    induction k with
    | zero => intro _ i; exact ⟨Int.le_refl _, by show (0 : Int) ≤ _; omega⟩
    | succ k ih =>
      intro hk i
      have h1 := ih (by omega) i
      have h2 := cb k (by omega) i
      show 0 ≤ ahd T x s k i + cntV T (x k) (s k) (ahd T x s k) i ∧ ahd T x s k i + cntV T (x k) (s k) (ahd T x s k) i ≤ _
      omega
  refine first_all fun k hk => ?_
  obtain ⟨h1, h2, h3⟩ := h k hk
  unfold Qb at h1 h2 h3
  unfold yrE
  rw [amtB_mk h1.1 (by omega), amtB_mk h2.1 (by omega), amtB_mk h3.1 (by omega)]
  show firstE (perE T (x k) (s k) (ahd T x s k)) T.nC = 0
  refine first_all fun i hi => ?_
  have h4 := ab k (by omega) i
  have h5 := cb k hk i
  unfold perE
  rw [amtB_mk (by omega) (by omega), if_pos rfl]
theorem yr_amt {T : TB} {c x s : Nat → Int} {m : Nat} (hy : firstE (yrE T c x s) m = 0) {k : Nat} (hk : k < m) : amtB (c k) = true ∧ amtB (x k) = true ∧ amtB (s k) = true := by
  have h1 := first_zero hy k hk
  unfold yrE at h1
  split at h1
  · rename_i hh
    simp only [Bool.and_eq_true] at hh
    exact ⟨hh.1.1, hh.1.2, hh.2⟩
  · omega
theorem yr_ten (T : TB) (c x s : Nat → Int) (m : Nat) : firstE (yrE T c x s) m = 0 ∨ firstE (yrE T c x s) m = 10 := by
  induction m with
  | zero => exact .inl rfl
  | succ m ih =>
    show (if firstE _ m = 0 then yrE T c x s m else firstE _ m) = 0 ∨ (if firstE _ m = 0 then yrE T c x s m else firstE _ m) = 10
    split
    · unfold yrE
      split
      · exact per_ten _ _ _ _ _
      · exact .inr rfl
    · exact ih
set_option maxRecDepth 100000 in
set_option maxHeartbeats 8000000 in
theorem sy_no (T : TB) (A : Option Addr) (m q : Nat) (c x s : Nat → Int) (w : World) (h : Tm w T) (hF : TFits T) (hl : BasM w A m c x s) (hm : m ≤ 9223372036854775807) (g : lfB T = false) :
    Calls Try.prog 4 #[.agg #[.slice T.AS T.nS T.cS, .slice T.AC T.nC T.cC, .slice T.AK T.nK T.cK, .int .i64 T.L, .int .i64 T.W], .slice A m q] w fun e w' => e = .returned (.bool true) ∧ Below w.heap.size w w' := by
  have K0 : Bx (w.alloc (.cells #[.slice T.AS T.nS T.cS, .slice T.AC T.nC T.cC, .slice T.AK T.nK T.cK, .int .i64 T.L, .int .i64 T.W] 26)) (w.heap.size) 26 [.slice T.AS T.nS T.cS, .slice T.AC T.nC T.cC, .slice T.AK T.nK T.cK, .int .i64 T.L, .int .i64 T.W] := bx_new w [.slice T.AS T.nS T.cS, .slice T.AC T.nC T.cC, .slice T.AK T.nK T.cK, .int .i64 T.L, .int .i64 T.W] 26
  have B : Below w.heap.size w (w.alloc (.cells #[.slice T.AS T.nS T.cS, .slice T.AC T.nC T.cC, .slice T.AK T.nK T.cK, .int .i64 T.L, .int .i64 T.W] 26)) := ((Below.refl _ _).alloc (Nat.le_refl _) _)
  replace h := h.below (show Below w.heap.size w (w.alloc (.cells #[.slice T.AS T.nS T.cS, .slice T.AC T.nC T.cC, .slice T.AK T.nK T.cK, .int .i64 T.L, .int .i64 T.W] 26)) from B)
  have k0_0 := K0.cell (i := 0) rfl
  have k0_1 := K0.cell (i := 1) rfl
  have k0_2 := K0.cell (i := 2) rfl
  have k0_3 := K0.cell (i := 3) rfl
  have k0_4 := K0.cell (i := 4) rfl
  replace hl := hl.below (show Below w.heap.size w (w.alloc (.cells #[.slice T.AS T.nS T.cS, .slice T.AC T.nC T.cC, .slice T.AK T.nK T.cK, .int .i64 T.L, .int .i64 T.W] 26)) from B)
  go_enter Try.func4, Try.ntmps4
  go_wp2_with (fail)
  with_reducible refine (pays_any _).mono ?_
  rintro e w1 ⟨rfl, hb⟩
  clear k0_0 k0_1 k0_2 k0_3 k0_4
  replace K0 := K0.below hb
  replace h := h.below hb
  replace hl := hl.below hb
  replace B := below_step B hb B.size
  clear hb
  have k0_0 := K0.cell (i := 0) rfl
  have k0_1 := K0.cell (i := 1) rfl
  have k0_2 := K0.cell (i := 2) rfl
  have k0_3 := K0.cell (i := 3) rfl
  have k0_4 := K0.cell (i := 4) rfl
  go_wp2_with (fail)
  with_reducible refine (lfits_any T _ h hF).mono ?_
  rintro e w2 ⟨he, hb⟩
  clear k0_0 k0_1 k0_2 k0_3 k0_4
  replace K0 := K0.below hb
  replace h := h.below hb
  replace hl := hl.below hb
  replace B := below_step B hb B.size
  clear hb
  have k0_0 := K0.cell (i := 0) rfl
  have k0_1 := K0.cell (i := 1) rfl
  have k0_2 := K0.cell (i := 2) rfl
  have k0_3 := K0.cell (i := 3) rfl
  have k0_4 := K0.cell (i := 4) rfl
  rw [g] at he
  subst he
  go_wp2
  go_ret
  exact ⟨rfl, B⟩
set_option maxRecDepth 100000 in
set_option maxHeartbeats 8000000 in
theorem sy_long (T : TB) (A : Option Addr) (m q : Nat) (c x s : Nat → Int) (w : World) (h : Tm w T) (hF : TFits T) (hl : BasM w A m c x s) (hm : m ≤ 9223372036854775807) (g : lfB T = true) (g2 : 60 < m) :
    Calls Try.prog 4 #[.agg #[.slice T.AS T.nS T.cS, .slice T.AC T.nC T.cC, .slice T.AK T.nK T.cK, .int .i64 T.L, .int .i64 T.W], .slice A m q] w fun e w' => e = .returned (.bool true) ∧ Below w.heap.size w w' := by
  have q0 : decide (60 < (m : Int)) = true := decide_eq_true (by omega)
  have K0 : Bx (w.alloc (.cells #[.slice T.AS T.nS T.cS, .slice T.AC T.nC T.cC, .slice T.AK T.nK T.cK, .int .i64 T.L, .int .i64 T.W] 26)) (w.heap.size) 26 [.slice T.AS T.nS T.cS, .slice T.AC T.nC T.cC, .slice T.AK T.nK T.cK, .int .i64 T.L, .int .i64 T.W] := bx_new w [.slice T.AS T.nS T.cS, .slice T.AC T.nC T.cC, .slice T.AK T.nK T.cK, .int .i64 T.L, .int .i64 T.W] 26
  have B : Below w.heap.size w (w.alloc (.cells #[.slice T.AS T.nS T.cS, .slice T.AC T.nC T.cC, .slice T.AK T.nK T.cK, .int .i64 T.L, .int .i64 T.W] 26)) := ((Below.refl _ _).alloc (Nat.le_refl _) _)
  replace h := h.below (show Below w.heap.size w (w.alloc (.cells #[.slice T.AS T.nS T.cS, .slice T.AC T.nC T.cC, .slice T.AK T.nK T.cK, .int .i64 T.L, .int .i64 T.W] 26)) from B)
  have k0_0 := K0.cell (i := 0) rfl
  have k0_1 := K0.cell (i := 1) rfl
  have k0_2 := K0.cell (i := 2) rfl
  have k0_3 := K0.cell (i := 3) rfl
  have k0_4 := K0.cell (i := 4) rfl
  replace hl := hl.below (show Below w.heap.size w (w.alloc (.cells #[.slice T.AS T.nS T.cS, .slice T.AC T.nC T.cC, .slice T.AK T.nK T.cK, .int .i64 T.L, .int .i64 T.W] 26)) from B)
  go_enter Try.func4, Try.ntmps4
  go_wp2_with (fail)
  with_reducible refine (pays_any _).mono ?_
  rintro e w1 ⟨rfl, hb⟩
  clear k0_0 k0_1 k0_2 k0_3 k0_4
  replace K0 := K0.below hb
  replace h := h.below hb
  replace hl := hl.below hb
  replace B := below_step B hb B.size
  clear hb
  have k0_0 := K0.cell (i := 0) rfl
  have k0_1 := K0.cell (i := 1) rfl
  have k0_2 := K0.cell (i := 2) rfl
  have k0_3 := K0.cell (i := 3) rfl
  have k0_4 := K0.cell (i := 4) rfl
  go_wp2_with (fail)
  with_reducible refine (lfits_any T _ h hF).mono ?_
  rintro e w2 ⟨he, hb⟩
  clear k0_0 k0_1 k0_2 k0_3 k0_4
  replace K0 := K0.below hb
  replace h := h.below hb
  replace hl := hl.below hb
  replace B := below_step B hb B.size
  clear hb
  have k0_0 := K0.cell (i := 0) rfl
  have k0_1 := K0.cell (i := 1) rfl
  have k0_2 := K0.cell (i := 2) rfl
  have k0_3 := K0.cell (i := 3) rfl
  have k0_4 := K0.cell (i := 4) rfl
  rw [g] at he
  subst he
  go_wp2
  go_ret
  exact ⟨rfl, B⟩
set_option maxRecDepth 100000 in
set_option maxHeartbeats 8000000 in
theorem sy_bad (T : TB) (A : Option Addr) (m q : Nat) (c x s : Nat → Int) (w : World) (h : Tm w T) (hF : TFits T) (hl : BasM w A m c x s) (hm : m ≤ 9223372036854775807) (g : lfB T = true) (g2 : ¬ 60 < m) (hE : firstE (yrE T c x s) m ≠ 0) :
    Calls Try.prog 4 #[.agg #[.slice T.AS T.nS T.cS, .slice T.AC T.nC T.cC, .slice T.AK T.nK T.cK, .int .i64 T.L, .int .i64 T.W], .slice A m q] w fun e w' => e = .returned (.bool true) ∧ Below w.heap.size w w' := by
  have q0 : decide (60 < (m : Int)) = false := decide_eq_false (by omega)
  have q00 : ¬ 60 < m := by omega
  have tc := lf_tc g
  have h6 := tc.ok.c6
  have cY := fun w h hl => year_any T A m q c x s w h tc hl (by omega)
  have HTC := Lib.hid tc
  clear tc
  have HE := Lib.hid hE
  have h10 : firstE (yrE T c x s) m = 10 := by have := yr_ten T c x s m; omega
  have H10 := Lib.hid h10
  clear hE h10
  have K0 : Bx (w.alloc (.cells #[.slice T.AS T.nS T.cS, .slice T.AC T.nC T.cC, .slice T.AK T.nK T.cK, .int .i64 T.L, .int .i64 T.W] 26)) (w.heap.size) 26 [.slice T.AS T.nS T.cS, .slice T.AC T.nC T.cC, .slice T.AK T.nK T.cK, .int .i64 T.L, .int .i64 T.W] := bx_new w [.slice T.AS T.nS T.cS, .slice T.AC T.nC T.cC, .slice T.AK T.nK T.cK, .int .i64 T.L, .int .i64 T.W] 26
  have B : Below w.heap.size w (w.alloc (.cells #[.slice T.AS T.nS T.cS, .slice T.AC T.nC T.cC, .slice T.AK T.nK T.cK, .int .i64 T.L, .int .i64 T.W] 26)) := ((Below.refl _ _).alloc (Nat.le_refl _) _)
  replace h := h.below (show Below w.heap.size w (w.alloc (.cells #[.slice T.AS T.nS T.cS, .slice T.AC T.nC T.cC, .slice T.AK T.nK T.cK, .int .i64 T.L, .int .i64 T.W] 26)) from B)
  have k0_0 := K0.cell (i := 0) rfl
  have k0_1 := K0.cell (i := 1) rfl
  have k0_2 := K0.cell (i := 2) rfl
  have k0_3 := K0.cell (i := 3) rfl
  have k0_4 := K0.cell (i := 4) rfl
  replace hl := hl.below (show Below w.heap.size w (w.alloc (.cells #[.slice T.AS T.nS T.cS, .slice T.AC T.nC T.cC, .slice T.AK T.nK T.cK, .int .i64 T.L, .int .i64 T.W] 26)) from B)
  go_enter Try.func4, Try.ntmps4
  go_wp2_with (fail)
  with_reducible refine (pays_any _).mono ?_
  rintro e w1 ⟨rfl, hb⟩
  clear k0_0 k0_1 k0_2 k0_3 k0_4
  replace K0 := K0.below hb
  replace h := h.below hb
  replace hl := hl.below hb
  replace B := below_step B hb B.size
  clear hb
  have k0_0 := K0.cell (i := 0) rfl
  have k0_1 := K0.cell (i := 1) rfl
  have k0_2 := K0.cell (i := 2) rfl
  have k0_3 := K0.cell (i := 3) rfl
  have k0_4 := K0.cell (i := 4) rfl
  go_wp2_with (fail)
  with_reducible refine (lfits_any T _ h hF).mono ?_
  rintro e w2 ⟨he, hb⟩
  clear k0_0 k0_1 k0_2 k0_3 k0_4
  replace K0 := K0.below hb
  replace h := h.below hb
  replace hl := hl.below hb
  replace B := below_step B hb B.size
  clear hb
  have k0_0 := K0.cell (i := 0) rfl
  have k0_1 := K0.cell (i := 1) rfl
  have k0_2 := K0.cell (i := 2) rfl
  have k0_3 := K0.cell (i := 3) rfl
  have k0_4 := K0.cell (i := 4) rfl
  rw [g] at he
  subst he
  go_wp2_with (fail)
  with_reducible refine (cY _ h hl).mono ?_
  rintro e w3 ⟨v, rfl, _, hbad, hb⟩
  clear k0_0 k0_1 k0_2 k0_3 k0_4
  replace K0 := K0.below hb
  replace h := h.below hb
  replace hl := hl.below hb
  replace B := below_step B hb B.size
  clear hb
  have k0_0 := K0.cell (i := 0) rfl
  have k0_1 := K0.cell (i := 1) rfl
  have k0_2 := K0.cell (i := 2) rfl
  have k0_3 := K0.cell (i := 3) rfl
  have k0_4 := K0.cell (i := 4) rfl
  obtain rfl := hbad HE.out
  clear hbad cY
  rw [H10.out]
  clear k0_0 k0_1 k0_2 k0_3 k0_4
  have Bw := Below.refl w3.heap.size w3
  go_wp2
  go_loopw [42] (fun k X => ∃ i : Nat, i ≤ m ∧ k = .int .i64 i ∧ (∀ j, j < i → Qb (c j) ∧ Qb (x j) ∧ Qb (s j)) ∧ Below w3.heap.size w3 X) (fun k _ => m - (intOf k).toNat)
  case atStart => exact ⟨0, Nat.zero_le _, rfl, fun j hj => absurd hj (Nat.not_lt_zero _), Bw⟩
  case round =>
    clear Bw
    obtain ⟨i, hi, rfl, hQ, hbX⟩ := hrel
    by_cases hlt : i < m
    · obtain ⟨b, o, rfl, hcc⟩ := id (hl (by omega))
      obtain ⟨g0, g1, g2⟩ := hcc i hlt
      replace g0 := cell_later hbX g0
      replace g1 := cell_later hbX g1
      replace g2 := cell_later hbX g2
      have HQ := Lib.hid hQ
      skip
      have K3 := bx_new wr [.int .i64 (c i), .int .i64 (x i), .int .i64 (s i)] 51
      have NB := below_new wr (.cells #[.int .i64 (c i), .int .i64 (x i), .int .i64 (s i)] 51)
      have B3 := below_step hbX NB hbX.size
      have B9 := below_step B B3 B.size
      have hin : (i : Int) < (m : Int) := by omega
      have k3_0 := K3.cell (i := 0) rfl
      have k3_1 := K3.cell (i := 1) rfl
      have k3_2 := K3.cell (i := 2) rfl
      clear hcc hQ NB hl h K0 
      generalize hci : c i = ci at *
      generalize hxi : x i = xi at *
      generalize hsi : s i = si at *
      have HI := Lib.hid (And.intro hci (And.intro hxi hsi))
      clear hci hxi hsi
      go_wp2
      clear g0 g1 g2 k3_0 k3_1 k3_2
      generalize wr.alloc (.cells #[.int .i64 ci, .int .i64 xi, .int .i64 si] 51) = W4 at *
      generalize wr.heap.size = pN at *
      go_loopw [53] (fun k X => ∃ j : Nat, j ≤ 3 ∧ k = .int .i64 j ∧ (1 ≤ j → Qb ci) ∧ (2 ≤ j → Qb xi) ∧ (3 ≤ j → Qb si) ∧ X = W4) (fun k _ => 3 - (intOf k).toNat)
      case atStart => exact ⟨0, by omega, rfl, fun h => absurd h (by omega), fun h => absurd h (by omega), fun h => absurd h (by omega), rfl⟩
      case round =>
        obtain ⟨j, hj, rfl, p1, p2, p3, hwb⟩ := hrel
        have hwb2 := hwb.symm
        clear hwb
        subst hwb2
        have hj4 : j = 0 ∨ j = 1 ∨ j = 2 ∨ j = 3 := by omega
        rcases hj4 with rfl | rfl | rfl | rfl
        · clear p1 p2 p3
          have lx := fun W => ix3_0 ci xi si W
          rcases Int.lt_or_le 100000000000 ci with h1 | h1
          · have d1 : decide (100000000000 < ci) = true := decide_eq_true h1
            go_wp2
            go_ret
            exact ⟨rfl, B9⟩
          · have d1 : decide (100000000000 < ci) = false := decide_eq_false (by omega)
            have e1 : ¬ 100000000000 < ci := by omega
            rcases Int.lt_or_le ci (-100000000000) with h2 | h2
            · have d2 : decide (ci < -100000000000) = true := decide_eq_true h2
              go_wp2
              go_ret
              exact ⟨rfl, B9⟩
            · have d2 : decide (ci < -100000000000) = false := decide_eq_false (by omega)
              have e2 : ¬ ci < -100000000000 := by omega
              rcases Int.lt_or_le 1000000000 ci with h3 | h3
              · have d3 : decide (1000000000 < ci) = true := decide_eq_true h3
                go_wp2
                go_ret
                exact ⟨rfl, B9⟩
              · have d3 : decide (1000000000 < ci) = false := decide_eq_false (by omega)
                have e3 : ¬ 1000000000 < ci := by omega
                have HQV : Hid (Qb ci) := Lib.hid ⟨h2, h3⟩
                clear h1 h2 h3
                go_wp2
                refine ⟨⟨1, by omega, rfl, fun _ => HQV.out, fun h => absurd h (by omega), fun h => absurd h (by omega), by first | rfl | trivial⟩, ?_⟩
                simp [intOf]
        · clear p2 p3
          have lx := fun W => ix3_1 ci xi si W
          rcases Int.lt_or_le 100000000000 xi with h1 | h1
          · have d1 : decide (100000000000 < xi) = true := decide_eq_true h1
            go_wp2
            go_ret
            exact ⟨rfl, B9⟩
          · have d1 : decide (100000000000 < xi) = false := decide_eq_false (by omega)
            have e1 : ¬ 100000000000 < xi := by omega
            rcases Int.lt_or_le xi (-100000000000) with h2 | h2
            · have d2 : decide (xi < -100000000000) = true := decide_eq_true h2
              go_wp2
              go_ret
              exact ⟨rfl, B9⟩
            · have d2 : decide (xi < -100000000000) = false := decide_eq_false (by omega)
              have e2 : ¬ xi < -100000000000 := by omega
              rcases Int.lt_or_le 1000000000 xi with h3 | h3
              · have d3 : decide (1000000000 < xi) = true := decide_eq_true h3
                go_wp2
                go_ret
                exact ⟨rfl, B9⟩
              · have d3 : decide (1000000000 < xi) = false := decide_eq_false (by omega)
                have e3 : ¬ 1000000000 < xi := by omega
                have HQV : Hid (Qb xi) := Lib.hid ⟨h2, h3⟩
                clear h1 h2 h3
                go_wp2
                refine ⟨⟨2, by omega, rfl, fun _ => p1 (by omega), fun _ => HQV.out, fun h => absurd h (by omega), by first | rfl | trivial⟩, ?_⟩
                simp [intOf]
        · clear p3
          have lx := fun W => ix3_2 ci xi si W
          rcases Int.lt_or_le 100000000000 si with h1 | h1
          · have d1 : decide (100000000000 < si) = true := decide_eq_true h1
            go_wp2
            go_ret
            exact ⟨rfl, B9⟩
          · have d1 : decide (100000000000 < si) = false := decide_eq_false (by omega)
            have e1 : ¬ 100000000000 < si := by omega
            rcases Int.lt_or_le si (-100000000000) with h2 | h2
            · have d2 : decide (si < -100000000000) = true := decide_eq_true h2
              go_wp2
              go_ret
              exact ⟨rfl, B9⟩
            · have d2 : decide (si < -100000000000) = false := decide_eq_false (by omega)
              have e2 : ¬ si < -100000000000 := by omega
              rcases Int.lt_or_le 1000000000 si with h3 | h3
              · have d3 : decide (1000000000 < si) = true := decide_eq_true h3
                go_wp2
                go_ret
                exact ⟨rfl, B9⟩
              · have d3 : decide (1000000000 < si) = false := decide_eq_false (by omega)
                have e3 : ¬ 1000000000 < si := by omega
                have HQV : Hid (Qb si) := Lib.hid ⟨h2, h3⟩
                clear h1 h2 h3
                go_wp2
                refine ⟨⟨3, by omega, rfl, fun _ => p1 (by omega), fun _ => p2 (by omega), fun _ => HQV.out, by first | rfl | trivial⟩, ?_⟩
                simp [intOf]
        · have HQV : Hid (Qb ci ∧ Qb xi ∧ Qb si) := Lib.hid ⟨p1 (by omega), p2 (by omega), p3 (by omega)⟩
          clear p1 p2 p3
          go_wp2
          refine ⟨⟨i + 1, by omega, by go_num, fun j hj => ?_, B3⟩, ?_⟩
          · by_cases e : j < i
            · exact HQ.out j e
            · obtain rfl : j = i := by omega
              rw [HI.out.1, HI.out.2.1, HI.out.2.2]; exact HQV.out
          · simp [intOf]; omega
    · obtain rfl : m = i := by omega
      have hnl : ¬ (m : Int) < (m : Int) := by omega
      exact absurd (yr_small hQ (by omega)) HE.out
set_option maxRecDepth 100000 in
set_option maxHeartbeats 8000000 in
theorem sy_ok (T : TB) (A : Option Addr) (m q : Nat) (c x s : Nat → Int) (w : World) (h : Tm w T) (hF : TFits T) (hl : BasM w A m c x s) (hm : m ≤ 9223372036854775807) (g : lfB T = true) (g2 : ¬ 60 < m) (hE : firstE (yrE T c x s) m = 0) :
    Calls Try.prog 4 #[.agg #[.slice T.AS T.nS T.cS, .slice T.AC T.nC T.cC, .slice T.AK T.nK T.cK, .int .i64 T.L, .int .i64 T.W], .slice A m q] w fun e w' => e = .returned (.bool true) ∧ Below w.heap.size w w' := by
  have q0 : decide (60 < (m : Int)) = false := decide_eq_false (by omega)
  have q00 : ¬ 60 < m := by omega
  have tc := lf_tc g
  have h6 := tc.ok.c6
  have cY := fun w h hl => year_any T A m q c x s w h tc hl (by omega)
  have HTC := Lib.hid tc
  clear tc
  have HE := Lib.hid hE
  clear hE
  have K0 : Bx (w.alloc (.cells #[.slice T.AS T.nS T.cS, .slice T.AC T.nC T.cC, .slice T.AK T.nK T.cK, .int .i64 T.L, .int .i64 T.W] 26)) (w.heap.size) 26 [.slice T.AS T.nS T.cS, .slice T.AC T.nC T.cC, .slice T.AK T.nK T.cK, .int .i64 T.L, .int .i64 T.W] := bx_new w [.slice T.AS T.nS T.cS, .slice T.AC T.nC T.cC, .slice T.AK T.nK T.cK, .int .i64 T.L, .int .i64 T.W] 26
  have B : Below w.heap.size w (w.alloc (.cells #[.slice T.AS T.nS T.cS, .slice T.AC T.nC T.cC, .slice T.AK T.nK T.cK, .int .i64 T.L, .int .i64 T.W] 26)) := ((Below.refl _ _).alloc (Nat.le_refl _) _)
  replace h := h.below (show Below w.heap.size w (w.alloc (.cells #[.slice T.AS T.nS T.cS, .slice T.AC T.nC T.cC, .slice T.AK T.nK T.cK, .int .i64 T.L, .int .i64 T.W] 26)) from B)
  have k0_0 := K0.cell (i := 0) rfl
  have k0_1 := K0.cell (i := 1) rfl
  have k0_2 := K0.cell (i := 2) rfl
  have k0_3 := K0.cell (i := 3) rfl
  have k0_4 := K0.cell (i := 4) rfl
  replace hl := hl.below (show Below w.heap.size w (w.alloc (.cells #[.slice T.AS T.nS T.cS, .slice T.AC T.nC T.cC, .slice T.AK T.nK T.cK, .int .i64 T.L, .int .i64 T.W] 26)) from B)
  go_enter Try.func4, Try.ntmps4
  go_wp2_with (fail)
  with_reducible refine (pays_any _).mono ?_
  rintro e w1 ⟨rfl, hb⟩
  clear k0_0 k0_1 k0_2 k0_3 k0_4
  replace K0 := K0.below hb
  replace h := h.below hb
  replace hl := hl.below hb
  replace B := below_step B hb B.size
  clear hb
  have k0_0 := K0.cell (i := 0) rfl
  have k0_1 := K0.cell (i := 1) rfl
  have k0_2 := K0.cell (i := 2) rfl
  have k0_3 := K0.cell (i := 3) rfl
  have k0_4 := K0.cell (i := 4) rfl
  go_wp2_with (fail)
  with_reducible refine (lfits_any T _ h hF).mono ?_
  rintro e w2 ⟨he, hb⟩
  clear k0_0 k0_1 k0_2 k0_3 k0_4
  replace K0 := K0.below hb
  replace h := h.below hb
  replace hl := hl.below hb
  replace B := below_step B hb B.size
  clear hb
  have k0_0 := K0.cell (i := 0) rfl
  have k0_1 := K0.cell (i := 1) rfl
  have k0_2 := K0.cell (i := 2) rfl
  have k0_3 := K0.cell (i := 3) rfl
  have k0_4 := K0.cell (i := 4) rfl
  rw [g] at he
  subst he
  go_wp2_with (fail)
  with_reducible refine (cY _ h hl).mono ?_
  rintro e w3 ⟨v, rfl, hok, _, hb⟩
  clear k0_0 k0_1 k0_2 k0_3 k0_4
  replace K0 := K0.below hb
  replace h := h.below hb
  replace hl := hl.below hb
  replace B := below_step B hb B.size
  clear hb
  have k0_0 := K0.cell (i := 0) rfl
  have k0_1 := K0.cell (i := 1) rfl
  have k0_2 := K0.cell (i := 2) rfl
  have k0_3 := K0.cell (i := 3) rfl
  have k0_4 := K0.cell (i := 4) rfl
  obtain ⟨u, rfl, HR⟩ := hok HE.out
  obtain ⟨Ar, cr, rfl, hM, _⟩ := rowsM_of HR
  clear hok cY HR
  clear k0_0 k0_1 k0_2 k0_3 k0_4
  have Bw := Below.refl w3.heap.size w3
  go_wp2
  go_loopw [42] (fun k X => ∃ i : Nat, i ≤ m ∧ k = .int .i64 i ∧ (∀ j, j < i → Qb (c j) ∧ Qb (x j) ∧ Qb (s j)) ∧ Below w3.heap.size w3 X) (fun k _ => m - (intOf k).toNat)
  case atStart => exact ⟨0, Nat.zero_le _, rfl, fun j hj => absurd hj (Nat.not_lt_zero _), Bw⟩
  case round =>
    clear Bw
    obtain ⟨i, hi, rfl, hQ, hbX⟩ := hrel
    by_cases hlt : i < m
    · obtain ⟨b, o, rfl, hcc⟩ := id (hl (by omega))
      obtain ⟨g0, g1, g2⟩ := hcc i hlt
      replace g0 := cell_later hbX g0
      replace g1 := cell_later hbX g1
      replace g2 := cell_later hbX g2
      have HQ := Lib.hid hQ
      have HBD := Lib.hid (yr_amt HE.out hlt)
      have K3 := bx_new wr [.int .i64 (c i), .int .i64 (x i), .int .i64 (s i)] 51
      have NB := below_new wr (.cells #[.int .i64 (c i), .int .i64 (x i), .int .i64 (s i)] 51)
      have B3 := below_step hbX NB hbX.size
      have B9 := below_step B B3 B.size
      have hin : (i : Int) < (m : Int) := by omega
      have k3_0 := K3.cell (i := 0) rfl
      have k3_1 := K3.cell (i := 1) rfl
      have k3_2 := K3.cell (i := 2) rfl
      clear hcc hQ NB hl h K0 hM
      generalize hci : c i = ci at *
      generalize hxi : x i = xi at *
      generalize hsi : s i = si at *
      have HI := Lib.hid (And.intro hci (And.intro hxi hsi))
      clear hci hxi hsi
      go_wp2
      clear g0 g1 g2 k3_0 k3_1 k3_2
      generalize wr.alloc (.cells #[.int .i64 ci, .int .i64 xi, .int .i64 si] 51) = W4 at *
      generalize wr.heap.size = pN at *
      go_loopw [53] (fun k X => ∃ j : Nat, j ≤ 3 ∧ k = .int .i64 j ∧ (1 ≤ j → Qb ci) ∧ (2 ≤ j → Qb xi) ∧ (3 ≤ j → Qb si) ∧ X = W4) (fun k _ => 3 - (intOf k).toNat)
      case atStart => exact ⟨0, by omega, rfl, fun h => absurd h (by omega), fun h => absurd h (by omega), fun h => absurd h (by omega), rfl⟩
      case round =>
        obtain ⟨j, hj, rfl, p1, p2, p3, hwb⟩ := hrel
        have hwb2 := hwb.symm
        clear hwb
        subst hwb2
        have hj4 : j = 0 ∨ j = 1 ∨ j = 2 ∨ j = 3 := by omega
        rcases hj4 with rfl | rfl | rfl | rfl
        · clear p1 p2 p3
          have HV := Lib.hid HBD.out.1
          have lx := fun W => ix3_0 ci xi si W
          rcases Int.lt_or_le 100000000000 ci with h1 | h1
          · have d1 : decide (100000000000 < ci) = true := decide_eq_true h1
            exfalso; have := amtB_yes HV.out; omega
          · have d1 : decide (100000000000 < ci) = false := decide_eq_false (by omega)
            have e1 : ¬ 100000000000 < ci := by omega
            rcases Int.lt_or_le ci (-100000000000) with h2 | h2
            · have d2 : decide (ci < -100000000000) = true := decide_eq_true h2
              exfalso; have := amtB_yes HV.out; omega
            · have d2 : decide (ci < -100000000000) = false := decide_eq_false (by omega)
              have e2 : ¬ ci < -100000000000 := by omega
              rcases Int.lt_or_le 1000000000 ci with h3 | h3
              · have d3 : decide (1000000000 < ci) = true := decide_eq_true h3
                go_wp2
                go_ret
                exact ⟨rfl, B9⟩
              · have d3 : decide (1000000000 < ci) = false := decide_eq_false (by omega)
                have e3 : ¬ 1000000000 < ci := by omega
                have HQV : Hid (Qb ci) := Lib.hid ⟨h2, h3⟩
                clear h1 h2 h3
                go_wp2
                refine ⟨⟨1, by omega, rfl, fun _ => HQV.out, fun h => absurd h (by omega), fun h => absurd h (by omega), by first | rfl | trivial⟩, ?_⟩
                simp [intOf]
        · clear p2 p3
          have HV := Lib.hid HBD.out.2.1
          have lx := fun W => ix3_1 ci xi si W
          rcases Int.lt_or_le 100000000000 xi with h1 | h1
          · have d1 : decide (100000000000 < xi) = true := decide_eq_true h1
            exfalso; have := amtB_yes HV.out; omega
          · have d1 : decide (100000000000 < xi) = false := decide_eq_false (by omega)
            have e1 : ¬ 100000000000 < xi := by omega
            rcases Int.lt_or_le xi (-100000000000) with h2 | h2
            · have d2 : decide (xi < -100000000000) = true := decide_eq_true h2
              exfalso; have := amtB_yes HV.out; omega
            · have d2 : decide (xi < -100000000000) = false := decide_eq_false (by omega)
              have e2 : ¬ xi < -100000000000 := by omega
              rcases Int.lt_or_le 1000000000 xi with h3 | h3
              · have d3 : decide (1000000000 < xi) = true := decide_eq_true h3
                go_wp2
                go_ret
                exact ⟨rfl, B9⟩
              · have d3 : decide (1000000000 < xi) = false := decide_eq_false (by omega)
                have e3 : ¬ 1000000000 < xi := by omega
                have HQV : Hid (Qb xi) := Lib.hid ⟨h2, h3⟩
                clear h1 h2 h3
                go_wp2
                refine ⟨⟨2, by omega, rfl, fun _ => p1 (by omega), fun _ => HQV.out, fun h => absurd h (by omega), by first | rfl | trivial⟩, ?_⟩
                simp [intOf]
        · clear p3
          have HV := Lib.hid HBD.out.2.2
          have lx := fun W => ix3_2 ci xi si W
          rcases Int.lt_or_le 100000000000 si with h1 | h1
          · have d1 : decide (100000000000 < si) = true := decide_eq_true h1
            exfalso; have := amtB_yes HV.out; omega
          · have d1 : decide (100000000000 < si) = false := decide_eq_false (by omega)
            have e1 : ¬ 100000000000 < si := by omega
            rcases Int.lt_or_le si (-100000000000) with h2 | h2
            · have d2 : decide (si < -100000000000) = true := decide_eq_true h2
              exfalso; have := amtB_yes HV.out; omega
            · have d2 : decide (si < -100000000000) = false := decide_eq_false (by omega)
              have e2 : ¬ si < -100000000000 := by omega
              rcases Int.lt_or_le 1000000000 si with h3 | h3
              · have d3 : decide (1000000000 < si) = true := decide_eq_true h3
                go_wp2
                go_ret
                exact ⟨rfl, B9⟩
              · have d3 : decide (1000000000 < si) = false := decide_eq_false (by omega)
                have e3 : ¬ 1000000000 < si := by omega
                have HQV : Hid (Qb si) := Lib.hid ⟨h2, h3⟩
                clear h1 h2 h3
                go_wp2
                refine ⟨⟨3, by omega, rfl, fun _ => p1 (by omega), fun _ => p2 (by omega), fun _ => HQV.out, by first | rfl | trivial⟩, ?_⟩
                simp [intOf]
        · have HQV : Hid (Qb ci ∧ Qb xi ∧ Qb si) := Lib.hid ⟨p1 (by omega), p2 (by omega), p3 (by omega)⟩
          clear p1 p2 p3
          go_wp2
          refine ⟨⟨i + 1, by omega, by go_num, fun j hj => ?_, B3⟩, ?_⟩
          · by_cases e : j < i
            · exact HQ.out j e
            · obtain rfl : j = i := by omega
              rw [HI.out.1, HI.out.2.1, HI.out.2.2]; exact HQV.out
          · simp [intOf]; omega
    · obtain rfl : m = i := by omega
      have hnl : ¬ (m : Int) < (m : Int) := by omega
      have hqn : ((m : Int) != (m : Int)) = false := by simp
      have hqc : ((T.nC : Int) != (T.nC : Int)) = false := by simp
      clear hQ
      replace h := h.below hbX
      replace hl := hl.below hbX
      replace hM := hM.below hbX
      replace K0 := K0.below hbX
      replace B := below_step B hbX B.size
      clear hbX
      have hmk := fun W => run_make_row' (P := Try.prog) 53 2 (.int .i64 0) 8 (by kernel_rfl) infoI rfl .i64 .i64 T.nC (by omega) (by omega) W
      have hZ := World.rowIs_made wr (.int .i64 0) T.nC 2
      have NB := below_new wr (.cells (madeCells #[.int .i64 0] T.nC) 2)
      have hz : rowAt (wr.alloc (.cells (madeCells #[.int .i64 0] T.nC) 2)) (some ⟨wr.heap.size, 0, none⟩) T.nC fun i => .int .i64 (ahd T x s 0 i) := fun _ => ⟨_, _, rfl, fun i hi => by
        have := hZ.cell (i := i) hi
        rw [Nat.zero_add]
        exact this⟩
      have k0_1 := K0.cell (i := 1) rfl
      replace h := h.below NB
      replace hl := hl.below NB
      replace hM := hM.below NB
      have K9 := K0.below NB
      replace B := below_step B NB B.size
      have Bw := Below.refl (wr.alloc (.cells (madeCells #[.int .i64 0] T.nC) 2)).heap.size (wr.alloc (.cells (madeCells #[.int .i64 0] T.nC) 2))
      clear NB hZ
      go_wp2
      clear k0_1 K0 hmk
      generalize (wr.alloc (.cells (madeCells #[.int .i64 0] T.nC) 2)) = wb at *
      generalize wr.heap.size = pz at *
      go_loopw [11, 88] (fun v k X => ∃ (i : Nat) (Ac : Option Addr) (cc : Nat), i ≤ m ∧ k = .int .i64 i ∧ v = .slice Ac T.nC cc ∧ (rowAt X Ac T.nC fun j => .int .i64 (ahd T x s i j)) ∧ Below wb.heap.size wb X) (fun _ k _ => m - (intOf k).toNat)
      case atStart => exact ⟨0, _, _, Nat.zero_le _, rfl, rfl, hz, Bw⟩
      case round =>
        clear Bw hz
        obtain ⟨i, Ac, cc, hi, rfl, rfl, hra, hbX⟩ := hrel
        by_cases hlt : i < m
        · obtain ⟨b, o, rfl, hcc⟩ := id (hl (by omega))
          obtain ⟨g0, g1, g2⟩ := hcc i hlt
          obtain ⟨br, orr, hAr, hrr⟩ := id (hM (by omega))
          obtain ⟨A', c', r0, hrs⟩ := hrr i hlt
          have hrs2 : Shs wb A' T.nC (yrA T x s i) (yrB' T x s i) := hrs
          subst hAr
          have hal := ahd_all (k := i) (fun j hj => first_zero HE.out j (by omega))
          obtain ⟨a0, a1, a2⟩ := yr_amt HE.out hlt
          have hpe : firstE (perE T (x i) (s i) (ahd T x s i)) T.nC = 0 := by
            have h1 := first_zero HE.out i hlt
            unfold yrE at h1
            rw [a0, a1, a2] at h1
            exact h1
          have K3 := bx_new wr [.int .i64 (c i), .int .i64 (x i), .int .i64 (s i)] 51
          have NB := below_new wr (.cells #[.int .i64 (c i), .int .i64 (x i), .int .i64 (s i)] 51)
          have B3 := below_step hbX NB hbX.size
          have J0 := K9.below B3
          have h4 := h.below B3
          have hra4 := row_later hra NB
          have hM4 := cell_later B3 r0
          have hrs4 := hrs2.below B3
          replace g0 := cell_later hbX g0
          replace g1 := cell_later hbX g1
          replace g2 := cell_later hbX g2
          have hin : (i : Int) < (m : Int) := by omega
          have cP := fun W h hr => per_any T (c i) (x i) (s i) Ac T.nC cc W h HTC.out (ahd T x s i) hr rfl a0 a1 a2 hal
          have HPE := Lib.hid hpe
          have HCB := Lib.hid (fun j => (cnt_bd T (ahd T x s i) j (amtB_yes a1).2 (amtB_yes a2).2).1)
          clear hcc hrr hrs hrs2 hal a0 a1 a2 hpe NB hM hl h r0 hra
          have k0_0 := J0.cell (i := 0) rfl
          have k0_1 := J0.cell (i := 1) rfl
          have k0_2 := J0.cell (i := 2) rfl
          have k0_3 := J0.cell (i := 3) rfl
          have k0_4 := J0.cell (i := 4) rfl
          have k3_0 := K3.cell (i := 0) rfl
          have k3_1 := K3.cell (i := 1) rfl
          have k3_2 := K3.cell (i := 2) rfl
          go_wp2_with (fail)
          clear g0 g1 g2
          with_reducible refine (cP _ h4 hra4).mono ?_
          rintro e W6 ⟨v, rfl, hok, _, NB⟩
          obtain ⟨v1, v2, rfl, OA, OB, _⟩ := hok HPE.out
          obtain ⟨A1, c1, rfl, _, _⟩ := own_len OA
          obtain ⟨A2, c2, rfl, _, _⟩ := own_len OB
          have hs1 : Shs W6 A1 T.nC (yrA T x s i) (yrB' T x s i) := shs_own OA
          have hr2 : rowAt W6 A2 T.nC fun j => .int .i64 (ahd T x s (i + 1) j) := row_own OB
          have hra6 := row_later hra4 NB
          have hM6 := cell_later NB hM4
          have hrs6 := hrs4.below NB
          have B6 := below_step B3 NB B3.size
          have Bz := Below.refl W6.heap.size W6
          clear k0_0 k0_1 k0_2 k0_3 k0_4 k3_0 k3_1 k3_2 hok OA OB hra4 hM4 hrs4 NB B3 cP K3 J0 h4 HPE
          go_wp2
          go_loopw [122] (fun k X => ∃ j : Nat, j ≤ T.nC ∧ k = .int .i64 j ∧ Below W6.heap.size W6 X) (fun k _ => T.nC - (intOf k).toNat)
          case atStart => exact ⟨0, Nat.zero_le _, rfl, Bz⟩
          case round =>
            clear Bz
            obtain ⟨j, hj, rfl, hbY⟩ := hrel
            by_cases hjl : j < T.nC
            · obtain ⟨b1, o1, hA1, hc1⟩ := hs1 (by omega)
              obtain ⟨b2, o2, hA2, hc2⟩ := hrs6 (by omega)
              obtain ⟨b3, o3, hA3, hc3⟩ := hr2 (by omega)
              obtain ⟨b4, o4, hA4, hc4⟩ := hra6 (by omega)
              obtain ⟨x0, x1⟩ := hc1 j hjl
              obtain ⟨y0, y1⟩ := hc2 j hjl
              replace x0 := cell_later hbY x0
              replace x1 := cell_later hbY x1
              replace y0 := cell_later hbY y0
              replace y1 := cell_later hbY y1
              have z0 : wr.cell? ⟨b3, o3 + j, none⟩ = some (.int .i64 (ahd T x s (i + 1) j)) := cell_later hbY (hc3 j hjl)
              have z1 : wr.cell? ⟨b4, o4 + j, none⟩ = some (.int .i64 (ahd T x s i j)) := cell_later hbY (hc4 j hjl)
              have r1 := cell_later hbY hM6
              have hle : ahd T x s i j ≤ ahd T x s (i + 1) j := by
                have := HCB.out j
                show _ ≤ ahd T x s i j + cntV T (x i) (s i) (ahd T x s i) j
                omega
              have hjn : (j : Int) < (T.nC : Int) := by omega
              clear hs1 hrs6 hr2 hra6 hc1 hc2 hc3 hc4 hM6
              subst hA1
              subst hA2
              subst hA3
              subst hA4
              generalize yrA T x s i j = d0 at *
              generalize yrB' T x s i j = d1 at *
              generalize ahd T x s (i + 1) j = an at *
              generalize ahd T x s i j = aa at *
              have dn : decide (an < aa) = false := decide_eq_false (by omega)
              have dn2 : ¬ an < aa := by omega
              clear hle
              go_wp2
              go_quiet (fail)
              have Bc := below_drewN hbY nq
              go_wp2
              refine ⟨⟨j + 1, by omega, by go_num, Bc⟩, ?_⟩
              simp [intOf]; omega
            · obtain rfl : j = T.nC := by omega
              have hnl : ¬ (T.nC : Int) < (T.nC : Int) := by omega
              have hr7 := row_later hr2 hbY
              have B7 := below_step B6 hbY B6.size
              clear hs1 hrs6 hr2 hra6 hM6
              go_wp2
              refine ⟨⟨i + 1, A2, c2, by omega, by go_num, rfl, hr7, B7⟩, ?_⟩
              simp [intOf]; omega
        · obtain rfl : m = i := by omega
          have hnl : ¬ (m : Int) < (m : Int) := by omega
          replace h := h.below hbX
          replace hl := hl.below hbX
          replace hM := hM.below hbX
          replace K9 := K9.below hbX
          replace B := below_step B hbX B.size
          have k0_1 := K9.cell (i := 1) rfl
          clear hbX hra
          obtain ⟨wc, hwc⟩ : ∃ wc, wc = wr := ⟨_, rfl⟩
          subst hwc
          have Bw := Below.refl wc.heap.size wc
          go_wp2
          clear k0_1
          go_loopw [154] (fun k X => ∃ j : Nat, j ≤ T.nC ∧ k = .int .i64 j ∧ Below wc.heap.size wc X) (fun k _ => T.nC - (intOf k).toNat)
          case atStart => exact ⟨0, Nat.zero_le _, rfl, Bw⟩
          case round =>
            clear Bw
            obtain ⟨j, hj, rfl, hbX⟩ := hrel
            by_cases hjl : j < T.nC
            · obtain ⟨b, o, hA, hcc⟩ := id (h.2.1 (by omega))
              obtain ⟨g0, g1, g2, g3, g4, g5, hbd⟩ := hcc j hjl
              have okc := HTC.out.ok.c j hjl
              have mw := (HTC.out.c j hjl).1
              have cC := fun W hl => counted_any T HTC.out j hjl A m q c x s W hl (by omega) HE.out
              have cD : ∀ k, k < m → ∀ W : World, Bds W (T.C j).b.A (T.C j).b.n (T.C j).b.F (T.C j).b.R (T.C j).b.E → Calls Try.prog 13 #[.agg #[.string (T.C j).N, .int .i64 (T.C j).B, .slice (T.C j).b.A (T.C j).b.n (T.C j).b.c, .int .i64 (T.C j).P, .int .i64 (T.C j).Y, .int .i64 (T.C j).W], .int .i64 (cntV T (x k) (s k) (ahd T x s k) j)] W fun e w' => e = .returned (.agg #[.int .i64 (yrA T x s k j), .int .i64 (yrB' T x s k j)]) ∧ Below W.heap.size W w' := fun k hk W hb => by
                obtain ⟨_, a1, a2⟩ := yr_amt HE.out hk
                have := cnt_bd T (ahd T x s k) j (amtB_yes a1).2 (amtB_yes a2).2
                exact ldue_any (T.C j) (cntV T (x k) (s k) (ahd T x s k) j) W hb okc mw (amtB_mk (by omega) (by omega))
              replace g0 := cell_later hbX g0
              replace g1 := cell_later hbX g1
              replace g2 := cell_later hbX g2
              replace g3 := cell_later hbX g3
              replace g4 := cell_later hbX g4
              replace g5 := cell_later hbX g5
              replace hbd := hbd.below hbX
              have J0 := K9.below hbX
              have hl1 := hl.below hbX
              have hM1 := hM.below hbX
              have HD := Lib.hid cD
              have k0_1 := J0.cell (i := 1) rfl
              clear hcc okc mw h hl hM K9 cD
              generalize T.AC = AC at *
              subst hA
              generalize T.C j = ci at *
              obtain ⟨N, cB, ⟨cA, cn2, cc2, F, R, E⟩, cP, cY, cW⟩ := ci
              dsimp only [CB.v] at *
              have K3 := bx_new wr [.string N, .int .i64 cB, .slice cA cn2 cc2, .int .i64 cP, .int .i64 cY, .int .i64 cW] 31
              have NB := below_new wr (.cells #[.string N, .int .i64 cB, .slice cA cn2 cc2, .int .i64 cP, .int .i64 cY, .int .i64 cW] 31)
              replace J0 := J0.below NB
              replace hl1 := hl1.below NB
              replace hM1 := hM1.below NB
              replace hbd := hbd.below NB
              have B3 := below_step hbX NB hbX.size
              have hjn : (j : Int) < (T.nC : Int) := by omega
              have k3_0 := K3.cell (i := 0) rfl
              have k3_1 := K3.cell (i := 1) rfl
              have k3_2 := K3.cell (i := 2) rfl
              have k3_3 := K3.cell (i := 3) rfl
              have k3_4 := K3.cell (i := 4) rfl
              have k3_5 := K3.cell (i := 5) rfl
              clear NB
              go_wp2_with (fail)
              clear g0 g1 g2 g3 g4 g5 k0_1
              generalize wr.alloc (.cells #[.string N, .int .i64 cB, .slice cA cn2 cc2, .int .i64 cP, .int .i64 cY, .int .i64 cW] 31) = W4 at *
              generalize wr.heap.size = pN at *
              with_reducible refine (cC _ hl1).mono ?_
              rintro e W6 ⟨u, rfl, OU, NB⟩
              obtain ⟨Au, cu, rfl, _, _⟩ := own_len OU
              have hru : rowAt W6 Au m fun k => .int .i64 (cntV T (x k) (s k) (ahd T x s k) j) := row_own OU
              replace J0 := J0.below NB
              replace K3 := K3.below NB
              replace hM1 := hM1.below NB
              replace hbd := hbd.below NB
              have B6 := below_step B3 NB B3.size
              have Bz := Below.refl W6.heap.size W6
              clear NB OU cC hl1 B3 k3_0 k3_1 k3_2 k3_3 k3_4 k3_5
              go_wp2
              go_loopw [169] (fun k X => ∃ l : Nat, l ≤ m ∧ k = .int .i64 l ∧ Below W6.heap.size W6 X) (fun k _ => m - (intOf k).toNat)
              case atStart => exact ⟨0, Nat.zero_le _, rfl, Bz⟩
              case round =>
                clear Bz
                obtain ⟨l, hl, rfl, hbY⟩ := hrel
                by_cases hll : l < m
                · obtain ⟨br, orr, rfl, hrr⟩ := id (hM1 (by omega))
                  obtain ⟨A', c', r0, hrs⟩ := hrr l hll
                  have hrs2 : Shs W6 A' T.nC (yrA T x s l) (yrB' T x s l) := hrs
                  obtain ⟨b2, o2, rfl, hc2⟩ := hrs2 (by omega)
                  obtain ⟨y0, y1⟩ := hc2 j hjl
                  obtain ⟨bu, ou, rfl, hcu⟩ := hru (by omega)
                  have u0 : wr.cell? ⟨bu, ou + l, none⟩ = some (.int .i64 (cntV T (x l) (s l) (ahd T x s l) j)) := cell_later hbY (hcu l hll)
                  replace y0 := cell_later hbY y0
                  replace y1 := cell_later hbY y1
                  have r1 : wr.cell? ⟨br, orr + l, none⟩ = some (.slice (some ⟨b2, o2, none⟩) T.nC c') := cell_later hbY r0
                  have cDl := HD.out l hll
                  have hbd2 := hbd.below hbY
                  have J2 := J0.below hbY
                  have K4 := K3.below hbY
                  have hln : (l : Int) < (m : Int) := by omega
                  clear hrr hrs hc2 hcu r0 hM1 HD
                  generalize cntV T (x l) (s l) (ahd T x s l) j = cn at *
                  generalize yrA T x s l j = d0 at *
                  generalize yrB' T x s l j = d1 at *
                  go_wp2
                  have cD2 := fun (d : Nat) (os : Array Obj) => Calls.regrown_of (d := d) (os := os) (w := wr) (cDl (grow (redrawn wr d) os) (hbd2.below (below_regrown wr d os)))
                  have e0 := fun d os => cell_regrown (K4.cell (i := 0) rfl) d os
                  have e1 := fun d os => cell_regrown (K4.cell (i := 1) rfl) d os
                  have e2 := fun d os => cell_regrown (K4.cell (i := 2) rfl) d os
                  have e3 := fun d os => cell_regrown (K4.cell (i := 3) rfl) d os
                  have e4 := fun d os => cell_regrown (K4.cell (i := 4) rfl) d os
                  have e5 := fun d os => cell_regrown (K4.cell (i := 5) rfl) d os
                  have t1 := fun d os => cell_regrown (J2.cell (i := 1) rfl) d os
                  have f0 := fun d os => cell_regrown y0 d os
                  have f1 := fun d os => cell_regrown y1 d os
                  have f2 := fun d os => cell_regrown r1 d os
                  clear u0 y0 y1 r1
                  refine wp_region_quiet_below mixedAll (by kernel_rfl) ?_
                  iterate 19 (go_big_quiet_step (fail))
                  go_big_quiet_step (exact cD2 _ _)
                  repeat (go_big_quiet_step (fail))
                  refine wpQuiet_nil ?_
                  intro _ hw'
                  obtain ⟨⟨dq, osq⟩, hw''⟩ := hw'
                  subst hw''
                  have NB := below_regrown wr dq osq
                  have Bc := below_step hbY NB hbY.size
                  clear cD2 e0 e1 e2 e3 e4 e5 t1 f0 f1 f2 cDl NB
                  generalize grow (redrawn wr dq) osq = W9 at *
                  go_wp2
                  refine ⟨⟨l + 1, by omega, by go_num, Bc⟩, ?_⟩
                  simp [intOf]; omega
                · obtain rfl : m = l := by omega
                  have hnl : ¬ (m : Int) < (m : Int) := by omega
                  have B7 := below_step B6 hbY B6.size
                  clear hM1 HD hru
                  go_wp2
                  refine ⟨⟨j + 1, by omega, by go_num, B7⟩, ?_⟩
                  simp [intOf]; omega
            · obtain rfl : j = T.nC := by omega
              have hnl : ¬ (T.nC : Int) < (T.nC : Int) := by omega
              have B9 := below_step B hbX B.size
              clear h hl hM K9
              go_wp2
              go_ret
              exact ⟨rfl, B9⟩
theorem wSocialYear (T : TB) (A : Option Addr) (m q : Nat) (c x s : Nat → Int) (w : World) (h : Tm w T) (hF : TFits T) (hl : BasM w A m c x s) (hm : m ≤ 9223372036854775807) (hb : ∀ i, i < m → i64F (c i) ∧ i64F (x i) ∧ i64F (s i)) :
    Calls Try.prog 4 #[.agg #[.slice T.AS T.nS T.cS, .slice T.AC T.nC T.cC, .slice T.AK T.nK T.cK, .int .i64 T.L, .int .i64 T.W], .slice A m q] w fun e w' => e = .returned (.bool true) ∧ Below w.heap.size w w' := by
  cases g : lfB T
  · exact sy_no T A m q c x s w h hF hl hm g
  · by_cases g2 : 60 < m
    · exact sy_long T A m q c x s w h hF hl hm g g2
    · by_cases hE : firstE (yrE T c x s) m = 0
      · exact sy_ok T A m q c x s w h hF hl hm g g2 hE
      · exact sy_bad T A m q c x s w h hF hl hm g g2 hE
end Go.Proofs.Ytifoapaoamhgcaa
