/- The walk of the law SocialCeils. -/
import Derived.Test.YtifoapaoamhgcaaSocH
import Derived.Test.YtifoapaoamhgcaaOpenB
namespace Go.Proofs.Ytifoapaoamhgcaa
open Go.RowKit Go.Sort
set_option linter.unusedVariables false
set_option linter.unusedSimpArgs false

theorem low_top {F R : Nat → Int} {n : Nat} (hI : Inc F n) (hR : Rts R n) : ∀ {j : Nat} {l : Int}, j < n → F j ≤ l → lowb F R j l ≤ l * topb R n
  | 0, l, hj, hl => by
    have h0 := hI.1
    have h1 := top_ge R n 0 hj
    have h2 : (l - F 0) * R 0 ≤ (l - F 0) * topb R n := Int.mul_le_mul_of_nonneg_left h1 (by omega)
    show (l - F 0) * R 0 ≤ l * topb R n
    rw [h0] at h2 ⊢
    simpa using h2
  | j + 1, l, hj, hl => by
    have hi := hI.2 (j + 1) (by omega) hj
    have ih := low_top hI hR (j := j) (l := F (j + 1)) (by omega) (by simp at hi; omega)
    have h1 := top_ge R n (j + 1) hj
    have h2 : (l - F (j + 1)) * R (j + 1) ≤ (l - F (j + 1)) * topb R n := Int.mul_le_mul_of_nonneg_left h1 (by omega)
    show (l - F (j + 1)) * R (j + 1) + lowb F R j (F (j + 1)) ≤ l * topb R n
    rw [Int.sub_mul] at h2
    rw [Int.sub_mul (c := topb R n)] at h2
    rw [Int.sub_mul]
    omega
theorem exact_top {F R : Nat → Int} {n : Nat} (hn : 1 ≤ n) (hI : Inc F n) (hR : Rts R n) {x : Int} (hx : 0 ≤ x) : exactV F R n x ≤ x * topb R n := by
  have := low_top hI hR (fnd_lt F x (n := n) (by omega)) (find_left hI x)
  unfold exactV
  rwa [show max x 0 = x by omega] at this ⊢
theorem rnd_less {e M : Int} (h0 : 0 ≤ e) : 0 ≤ rnd e 10000 M ∧ (rnd e 10000 M - 1) * 10000 < e ∨ (0 ≤ rnd e 10000 M ∧ rnd e 10000 M * 10000 ≤ e) := by
  rcases rnd_cases e 10000 M with h | ⟨h, h2⟩
  · right; rw [h]; omega
  · left; rw [h]; omega
theorem due_less {c : CB} (hok : Okb c.b.F c.b.R c.b.E c.b.n) {x : Int} (hx0 : 0 ≤ x) (hx : x ≤ 100000000000) : 0 ≤ dueA c x ∧ (dueA c x - 1) * 10000 < x * topb c.b.R c.b.n ∧ 0 ≤ dueB c x ∧ dueA c x ≤ 100000000000 := by
  have eA := exact_bd hok.1 hok.2.2.1 hok.2.2.2.1 hok.2.2.2.2.1 hx
  have eB := exact_bd hok.1 hok.2.2.1 hok.2.2.2.1 hok.2.2.2.2.2 hx
  have t := exact_top hok.1 hok.2.2.1 hok.2.2.2.2.1 hx0
  have rA := rnd_less (M := c.W) eA.1
  have rB := rnd_less (M := c.W) eB.1
  unfold dueA dueB
  generalize exactV c.b.F c.b.R c.b.n x = u at *
  generalize exactV c.b.F c.b.E c.b.n x = v at *
  generalize x * topb c.b.R c.b.n = z at *
  generalize rnd u 10000 c.W = r at *
  generalize rnd v 10000 c.W = r2 at *
  omega
theorem cnt_ceil {T : TB} {t s : Int} {a : Nat → Int} {i : Nat} : 0 ≤ cntV T t s a i ∧ (0 < (T.C i).P → cntV T t s a i ≤ (T.C i).P) ∧ (0 < (T.C i).Y → 0 ≤ a i → a i ≤ (T.C i).Y → a i + cntV T t s a i ≤ (T.C i).Y) := by
  unfold cntV undV undP onV
  generalize (T.C i).P = P
  generalize (T.C i).Y = Y
  generalize a i = ai
  split <;> split <;> split <;> omega
theorem ahd_bd {T : TB} {x s : Nat → Int} {i : Nat} : ∀ k, 0 ≤ ahd T x s k i ∧ (0 < (T.C i).Y → ahd T x s k i ≤ (T.C i).Y)
  | 0 => ⟨Int.le_refl _, fun h => by show (0 : Int) ≤ _; omega⟩
  | k + 1 => by
    have ih := ahd_bd (T := T) (x := x) (s := s) (i := i) k
    have h := cnt_ceil (T := T) (t := x k) (s := s k) (a := ahd T x s k) (i := i)
    show 0 ≤ ahd T x s k i + cntV T (x k) (s k) (ahd T x s k) i ∧ (_ → ahd T x s k i + cntV T (x k) (s k) (ahd T x s k) i ≤ _)
    exact ⟨by omega, fun hy => h.2.2 hy ih.1 (ih.2 hy)⟩
theorem yr_amt {T : TB} {c x s : Nat → Int} {k : Nat} (h : yrE T c x s k = 0) : x k ≤ 100000000000 ∧ s k ≤ 100000000000 := by
  unfold yrE at h
  split at h
  · rename_i hh
    simp only [Bool.and_eq_true] at hh
    exact ⟨(amtB_yes hh.1.2).2, (amtB_yes hh.2).2⟩
  · omega
/-- what a row takes of a contribution -/
theorem row_less {T : TB} (hT : TC T) {c x s : Nat → Int} {k i : Nat} (h : yrE T c x s k = 0) (hi : i < T.nC) :
    0 ≤ yrA T x s k i ∧ 0 ≤ yrB' T x s k i ∧ yrA T x s k i ≤ 100000000000 ∧ (0 < (T.C i).P → (yrA T x s k i - 1) * 10000 < (T.C i).P * topb (T.C i).b.R (T.C i).b.n) ∧
      (yrA T x s k i - 1) * 10000 < (ahd T x s (k + 1) i - ahd T x s k i) * topb (T.C i).b.R (T.C i).b.n := by
  have ha := yr_amt h
  have hc := cnt_ceil (T := T) (t := x k) (s := s k) (a := ahd T x s k) (i := i)
  have hb := cnt_bd T (ahd T x s k) i ha.1 ha.2
  have hd := due_less (hT.ok.c i hi) (c := T.C i) hb.1 hb.2
  have ht := top_nn (T.C i).b.R (T.C i).b.n
  have e : ahd T x s (k + 1) i - ahd T x s k i = cntV T (x k) (s k) (ahd T x s k) i := by
    show ahd T x s k i + cntV T (x k) (s k) (ahd T x s k) i - ahd T x s k i = _
    omega
  rw [e]
  refine ⟨hd.1, hd.2.2.1, hd.2.2.2, fun hp => ?_, hd.2.1⟩
  have : cntV T (x k) (s k) (ahd T x s k) i * topb (T.C i).b.R (T.C i).b.n ≤ (T.C i).P * topb (T.C i).b.R (T.C i).b.n := Int.mul_le_mul_of_nonneg_right (hc.2.1 hp) ht
  exact Int.lt_of_lt_of_le hd.2.1 this
/-- what all rows take of a contribution -/
theorem all_less {T : TB} (hT : TC T) {c x s : Nat → Int} {i : Nat} (hi : i < T.nC) : ∀ {m : Nat}, (∀ k, k < m → yrE T c x s k = 0) → (smS (yrA T x s) m i - (m : Int)) * 10000 ≤ ahd T x s m i * topb (T.C i).b.R (T.C i).b.n ∧ (0 < m → (smS (yrA T x s) m i - (m : Int)) * 10000 < ahd T x s m i * topb (T.C i).b.R (T.C i).b.n) ∧ 0 ≤ smS (yrA T x s) m i ∧ smS (yrA T x s) m i ≤ 100000000000 * (m : Int)
  | 0, _ => ⟨by simp [smS, ahd], fun h => absurd h (Nat.lt_irrefl 0), Int.le_refl _, by simp [smS]⟩
  | m + 1, h => by
    have ih := all_less hT (c := c) hi (m := m) (fun k hk => h k (by omega))
    have hr := row_less hT (h m (by omega)) hi
    have e : smS (yrA T x s) (m + 1) i = smS (yrA T x s) m i + yrA T x s m i := rfl
    rw [e]
    have h5 := hr.2.2.2.2
    simp only [Int.sub_mul] at h5
    generalize topb (T.C i).b.R (T.C i).b.n = tp at *
    generalize ahd T x s (m + 1) i * tp = z1 at *
    generalize ahd T x s m i * tp = z0 at *
    refine ⟨?_, fun _ => ?_, ?_, ?_⟩ <;> omega
set_option maxRecDepth 100000 in
set_option maxHeartbeats 8000000 in
theorem sc_no (T : TB) (A : Option Addr) (m q : Nat) (c x s : Nat → Int) (w : World) (h : Tm w T) (hF : TFits T) (hl : BasM w A m c x s) (hm : m ≤ 9223372036854775807) (g : lfB T = false) :
    Calls Try.prog 6 #[.agg #[.slice T.AS T.nS T.cS, .slice T.AC T.nC T.cC, .slice T.AK T.nK T.cK, .int .i64 T.L, .int .i64 T.W], .slice A m q] w fun e w' => e = .returned (.bool true) ∧ Below w.heap.size w w' := by
  have K0 : Bx (w.alloc (.cells #[.slice T.AS T.nS T.cS, .slice T.AC T.nC T.cC, .slice T.AK T.nK T.cK, .int .i64 T.L, .int .i64 T.W] 26)) (w.heap.size) 26 [.slice T.AS T.nS T.cS, .slice T.AC T.nC T.cC, .slice T.AK T.nK T.cK, .int .i64 T.L, .int .i64 T.W] := bx_new w [.slice T.AS T.nS T.cS, .slice T.AC T.nC T.cC, .slice T.AK T.nK T.cK, .int .i64 T.L, .int .i64 T.W] 26
  have B : Below w.heap.size w (w.alloc (.cells #[.slice T.AS T.nS T.cS, .slice T.AC T.nC T.cC, .slice T.AK T.nK T.cK, .int .i64 T.L, .int .i64 T.W] 26)) := ((Below.refl _ _).alloc (Nat.le_refl _) _)
  replace h := h.below (show Below w.heap.size w (w.alloc (.cells #[.slice T.AS T.nS T.cS, .slice T.AC T.nC T.cC, .slice T.AK T.nK T.cK, .int .i64 T.L, .int .i64 T.W] 26)) from B)
  have k0_0 := K0.cell (i := 0) rfl
  have k0_1 := K0.cell (i := 1) rfl
  have k0_2 := K0.cell (i := 2) rfl
  have k0_3 := K0.cell (i := 3) rfl
  have k0_4 := K0.cell (i := 4) rfl
  replace hl := hl.below (show Below w.heap.size w (w.alloc (.cells #[.slice T.AS T.nS T.cS, .slice T.AC T.nC T.cC, .slice T.AK T.nK T.cK, .int .i64 T.L, .int .i64 T.W] 26)) from B)
  go_enter Try.func6, Try.ntmps6
  go_wp2_with (fail)
  with_reducible refine (pays_any _).mono ?_
  rintro e w1 ⟨rfl, hb⟩
  clear k0_0 k0_1 k0_2 k0_3 k0_4
  replace K0 := K0.below hb
  replace h := h.below hb
  replace hl := hl.below hb
  replace B := below_step B hb B.size
  clear hb
  have k0_0 := K0.cell (i := 0) rfl
  have k0_1 := K0.cell (i := 1) rfl
  have k0_2 := K0.cell (i := 2) rfl
  have k0_3 := K0.cell (i := 3) rfl
  have k0_4 := K0.cell (i := 4) rfl
  go_wp2_with (fail)
  with_reducible refine (lfits_any T _ h hF).mono ?_
  rintro e w2 ⟨he, hb⟩
  clear k0_0 k0_1 k0_2 k0_3 k0_4
  replace K0 := K0.below hb
  replace h := h.below hb
  replace hl := hl.below hb
  replace B := below_step B hb B.size
  clear hb
  have k0_0 := K0.cell (i := 0) rfl
  have k0_1 := K0.cell (i := 1) rfl
  have k0_2 := K0.cell (i := 2) rfl
  have k0_3 := K0.cell (i := 3) rfl
  have k0_4 := K0.cell (i := 4) rfl
  rw [g] at he
  subst he
  go_wp2
  go_ret
  exact ⟨rfl, B⟩
set_option maxRecDepth 100000 in
set_option maxHeartbeats 8000000 in
theorem sc_long (T : TB) (A : Option Addr) (m q : Nat) (c x s : Nat → Int) (w : World) (h : Tm w T) (hF : TFits T) (hl : BasM w A m c x s) (hm : m ≤ 9223372036854775807) (g : lfB T = true) (g2 : 60 < m) :
    Calls Try.prog 6 #[.agg #[.slice T.AS T.nS T.cS, .slice T.AC T.nC T.cC, .slice T.AK T.nK T.cK, .int .i64 T.L, .int .i64 T.W], .slice A m q] w fun e w' => e = .returned (.bool true) ∧ Below w.heap.size w w' := by
  have q0 : decide (60 < (m : Int)) = true := decide_eq_true (by omega)
  have K0 : Bx (w.alloc (.cells #[.slice T.AS T.nS T.cS, .slice T.AC T.nC T.cC, .slice T.AK T.nK T.cK, .int .i64 T.L, .int .i64 T.W] 26)) (w.heap.size) 26 [.slice T.AS T.nS T.cS, .slice T.AC T.nC T.cC, .slice T.AK T.nK T.cK, .int .i64 T.L, .int .i64 T.W] := bx_new w [.slice T.AS T.nS T.cS, .slice T.AC T.nC T.cC, .slice T.AK T.nK T.cK, .int .i64 T.L, .int .i64 T.W] 26
  have B : Below w.heap.size w (w.alloc (.cells #[.slice T.AS T.nS T.cS, .slice T.AC T.nC T.cC, .slice T.AK T.nK T.cK, .int .i64 T.L, .int .i64 T.W] 26)) := ((Below.refl _ _).alloc (Nat.le_refl _) _)
  replace h := h.below (show Below w.heap.size w (w.alloc (.cells #[.slice T.AS T.nS T.cS, .slice T.AC T.nC T.cC, .slice T.AK T.nK T.cK, .int .i64 T.L, .int .i64 T.W] 26)) from B)
  have k0_0 := K0.cell (i := 0) rfl
  have k0_1 := K0.cell (i := 1) rfl
  have k0_2 := K0.cell (i := 2) rfl
  have k0_3 := K0.cell (i := 3) rfl
  have k0_4 := K0.cell (i := 4) rfl
  replace hl := hl.below (show Below w.heap.size w (w.alloc (.cells #[.slice T.AS T.nS T.cS, .slice T.AC T.nC T.cC, .slice T.AK T.nK T.cK, .int .i64 T.L, .int .i64 T.W] 26)) from B)
  go_enter Try.func6, Try.ntmps6
  go_wp2_with (fail)
  with_reducible refine (pays_any _).mono ?_
  rintro e w1 ⟨rfl, hb⟩
  clear k0_0 k0_1 k0_2 k0_3 k0_4
  replace K0 := K0.below hb
  replace h := h.below hb
  replace hl := hl.below hb
  replace B := below_step B hb B.size
  clear hb
  have k0_0 := K0.cell (i := 0) rfl
  have k0_1 := K0.cell (i := 1) rfl
  have k0_2 := K0.cell (i := 2) rfl
  have k0_3 := K0.cell (i := 3) rfl
  have k0_4 := K0.cell (i := 4) rfl
  go_wp2_with (fail)
  with_reducible refine (lfits_any T _ h hF).mono ?_
  rintro e w2 ⟨he, hb⟩
  clear k0_0 k0_1 k0_2 k0_3 k0_4
  replace K0 := K0.below hb
  replace h := h.below hb
  replace hl := hl.below hb
  replace B := below_step B hb B.size
  clear hb
  have k0_0 := K0.cell (i := 0) rfl
  have k0_1 := K0.cell (i := 1) rfl
  have k0_2 := K0.cell (i := 2) rfl
  have k0_3 := K0.cell (i := 3) rfl
  have k0_4 := K0.cell (i := 4) rfl
  rw [g] at he
  subst he
  go_wp2
  go_ret
  exact ⟨rfl, B⟩
set_option maxRecDepth 100000 in
set_option maxHeartbeats 8000000 in
theorem sc_zero (T : TB) (A : Option Addr) (m q : Nat) (c x s : Nat → Int) (w : World) (h : Tm w T) (hF : TFits T) (hl : BasM w A m c x s) (hm : m ≤ 9223372036854775807) (g : lfB T = true) (g2 : m = 0) :
    Calls Try.prog 6 #[.agg #[.slice T.AS T.nS T.cS, .slice T.AC T.nC T.cC, .slice T.AK T.nK T.cK, .int .i64 T.L, .int .i64 T.W], .slice A m q] w fun e w' => e = .returned (.bool true) ∧ Below w.heap.size w w' := by
  have q0 : decide (60 < (m : Int)) = false := decide_eq_false (by omega)
  have q1 : ((m : Int) == 0) = true := by simp; omega
  have K0 : Bx (w.alloc (.cells #[.slice T.AS T.nS T.cS, .slice T.AC T.nC T.cC, .slice T.AK T.nK T.cK, .int .i64 T.L, .int .i64 T.W] 26)) (w.heap.size) 26 [.slice T.AS T.nS T.cS, .slice T.AC T.nC T.cC, .slice T.AK T.nK T.cK, .int .i64 T.L, .int .i64 T.W] := bx_new w [.slice T.AS T.nS T.cS, .slice T.AC T.nC T.cC, .slice T.AK T.nK T.cK, .int .i64 T.L, .int .i64 T.W] 26
  have B : Below w.heap.size w (w.alloc (.cells #[.slice T.AS T.nS T.cS, .slice T.AC T.nC T.cC, .slice T.AK T.nK T.cK, .int .i64 T.L, .int .i64 T.W] 26)) := ((Below.refl _ _).alloc (Nat.le_refl _) _)
  replace h := h.below (show Below w.heap.size w (w.alloc (.cells #[.slice T.AS T.nS T.cS, .slice T.AC T.nC T.cC, .slice T.AK T.nK T.cK, .int .i64 T.L, .int .i64 T.W] 26)) from B)
  have k0_0 := K0.cell (i := 0) rfl
  have k0_1 := K0.cell (i := 1) rfl
  have k0_2 := K0.cell (i := 2) rfl
  have k0_3 := K0.cell (i := 3) rfl
  have k0_4 := K0.cell (i := 4) rfl
  replace hl := hl.below (show Below w.heap.size w (w.alloc (.cells #[.slice T.AS T.nS T.cS, .slice T.AC T.nC T.cC, .slice T.AK T.nK T.cK, .int .i64 T.L, .int .i64 T.W] 26)) from B)
  go_enter Try.func6, Try.ntmps6
  go_wp2_with (fail)
  with_reducible refine (pays_any _).mono ?_
  rintro e w1 ⟨rfl, hb⟩
  clear k0_0 k0_1 k0_2 k0_3 k0_4
  replace K0 := K0.below hb
  replace h := h.below hb
  replace hl := hl.below hb
  replace B := below_step B hb B.size
  clear hb
  have k0_0 := K0.cell (i := 0) rfl
  have k0_1 := K0.cell (i := 1) rfl
  have k0_2 := K0.cell (i := 2) rfl
  have k0_3 := K0.cell (i := 3) rfl
  have k0_4 := K0.cell (i := 4) rfl
  go_wp2_with (fail)
  with_reducible refine (lfits_any T _ h hF).mono ?_
  rintro e w2 ⟨he, hb⟩
  clear k0_0 k0_1 k0_2 k0_3 k0_4
  replace K0 := K0.below hb
  replace h := h.below hb
  replace hl := hl.below hb
  replace B := below_step B hb B.size
  clear hb
  have k0_0 := K0.cell (i := 0) rfl
  have k0_1 := K0.cell (i := 1) rfl
  have k0_2 := K0.cell (i := 2) rfl
  have k0_3 := K0.cell (i := 3) rfl
  have k0_4 := K0.cell (i := 4) rfl
  rw [g] at he
  subst he
  go_wp2
  go_ret
  exact ⟨rfl, B⟩
set_option maxRecDepth 100000 in
set_option maxHeartbeats 8000000 in
theorem sc_bad (T : TB) (A : Option Addr) (m q : Nat) (c x s : Nat → Int) (w : World) (h : Tm w T) (hF : TFits T) (hl : BasM w A m c x s) (hm : m ≤ 9223372036854775807) (g : lfB T = true) (g2 : ¬ 60 < m) (h0 : 0 < m) (hE : firstE (yrE T c x s) m ≠ 0) :
    Calls Try.prog 6 #[.agg #[.slice T.AS T.nS T.cS, .slice T.AC T.nC T.cC, .slice T.AK T.nK T.cK, .int .i64 T.L, .int .i64 T.W], .slice A m q] w fun e w' => e = .returned (.bool true) ∧ Below w.heap.size w w' := by
  have q0 : decide (60 < (m : Int)) = false := decide_eq_false (by omega)
  have q00 : ¬ 60 < m := by omega
  have q1 : ((m : Int) == 0) = false := by simp; omega
  have tc := lf_tc g
  have h6 := tc.ok.c6
  have cY := fun w h hl => year_any T A m q c x s w h tc hl (by omega)
  have HE := Lib.hid hE
  have q2 : (firstE (yrE T c x s) m != 0) = true := by simpa using hE
  clear hE tc
  have K0 : Bx (w.alloc (.cells #[.slice T.AS T.nS T.cS, .slice T.AC T.nC T.cC, .slice T.AK T.nK T.cK, .int .i64 T.L, .int .i64 T.W] 26)) (w.heap.size) 26 [.slice T.AS T.nS T.cS, .slice T.AC T.nC T.cC, .slice T.AK T.nK T.cK, .int .i64 T.L, .int .i64 T.W] := bx_new w [.slice T.AS T.nS T.cS, .slice T.AC T.nC T.cC, .slice T.AK T.nK T.cK, .int .i64 T.L, .int .i64 T.W] 26
  have B : Below w.heap.size w (w.alloc (.cells #[.slice T.AS T.nS T.cS, .slice T.AC T.nC T.cC, .slice T.AK T.nK T.cK, .int .i64 T.L, .int .i64 T.W] 26)) := ((Below.refl _ _).alloc (Nat.le_refl _) _)
  replace h := h.below (show Below w.heap.size w (w.alloc (.cells #[.slice T.AS T.nS T.cS, .slice T.AC T.nC T.cC, .slice T.AK T.nK T.cK, .int .i64 T.L, .int .i64 T.W] 26)) from B)
  have k0_0 := K0.cell (i := 0) rfl
  have k0_1 := K0.cell (i := 1) rfl
  have k0_2 := K0.cell (i := 2) rfl
  have k0_3 := K0.cell (i := 3) rfl
  have k0_4 := K0.cell (i := 4) rfl
  replace hl := hl.below (show Below w.heap.size w (w.alloc (.cells #[.slice T.AS T.nS T.cS, .slice T.AC T.nC T.cC, .slice T.AK T.nK T.cK, .int .i64 T.L, .int .i64 T.W] 26)) from B)
  go_enter Try.func6, Try.ntmps6
  go_wp2_with (fail)
  with_reducible refine (pays_any _).mono ?_
  rintro e w1 ⟨rfl, hb⟩
  clear k0_0 k0_1 k0_2 k0_3 k0_4
  replace K0 := K0.below hb
  replace h := h.below hb
  replace hl := hl.below hb
  replace B := below_step B hb B.size
  clear hb
  have k0_0 := K0.cell (i := 0) rfl
  have k0_1 := K0.cell (i := 1) rfl
  have k0_2 := K0.cell (i := 2) rfl
  have k0_3 := K0.cell (i := 3) rfl
  have k0_4 := K0.cell (i := 4) rfl
  go_wp2_with (fail)
  with_reducible refine (lfits_any T _ h hF).mono ?_
  rintro e w2 ⟨he, hb⟩
  clear k0_0 k0_1 k0_2 k0_3 k0_4
  replace K0 := K0.below hb
  replace h := h.below hb
  replace hl := hl.below hb
  replace B := below_step B hb B.size
  clear hb
  have k0_0 := K0.cell (i := 0) rfl
  have k0_1 := K0.cell (i := 1) rfl
  have k0_2 := K0.cell (i := 2) rfl
  have k0_3 := K0.cell (i := 3) rfl
  have k0_4 := K0.cell (i := 4) rfl
  rw [g] at he
  subst he
  go_wp2_with (fail)
  with_reducible refine (cY _ h hl).mono ?_
  rintro e w3 ⟨v, rfl, _, hbad, hb⟩
  clear k0_0 k0_1 k0_2 k0_3 k0_4
  replace K0 := K0.below hb
  replace h := h.below hb
  replace hl := hl.below hb
  replace B := below_step B hb B.size
  clear hb
  have k0_0 := K0.cell (i := 0) rfl
  have k0_1 := K0.cell (i := 1) rfl
  have k0_2 := K0.cell (i := 2) rfl
  have k0_3 := K0.cell (i := 3) rfl
  have k0_4 := K0.cell (i := 4) rfl
  obtain rfl := hbad HE.out
  clear hbad cY HE
  generalize firstE (yrE T c x s) m = fe at *
  go_wp2
  go_ret
  exact ⟨rfl, B⟩
set_option maxRecDepth 100000 in
set_option maxHeartbeats 8000000 in
theorem sc_ok (T : TB) (A : Option Addr) (m q : Nat) (c x s : Nat → Int) (w : World) (h : Tm w T) (hF : TFits T) (hl : BasM w A m c x s) (hm : m ≤ 9223372036854775807) (g : lfB T = true) (g2 : ¬ 60 < m) (h0 : 0 < m) (hE : firstE (yrE T c x s) m = 0) :
    Calls Try.prog 6 #[.agg #[.slice T.AS T.nS T.cS, .slice T.AC T.nC T.cC, .slice T.AK T.nK T.cK, .int .i64 T.L, .int .i64 T.W], .slice A m q] w fun e w' => e = .returned (.bool true) ∧ Below w.heap.size w w' := by
  have q0 : decide (60 < (m : Int)) = false := decide_eq_false (by omega)
  have q00 : ¬ 60 < m := by omega
  have q1 : ((m : Int) == 0) = false := by simp; omega
  have tc := lf_tc g
  have h6 := tc.ok.c6
  have cY := fun w h hl => year_any T A m q c x s w h tc hl (by omega)
  have HRL := Lib.hid (fun k (hk : k < m) i (hi : i < T.nC) => row_less tc (first_zero hE k hk) hi)
  have HAL := Lib.hid (fun i (hi : i < T.nC) k (hk : k ≤ m) => all_less tc (c := c) (x := x) (s := s) hi (m := k) (fun j hj => first_zero hE j (by omega)))
  have HTP := Lib.hid (fun i (hi : i < T.nC) => top_le (tc.ok.c i hi).2.2.2.2.1)
  have HCB := Lib.hid (fun i (hi : i < T.nC) => (tc.ok.c i hi).2.1)
  have HCC := Lib.hid (fun i (hi : i < T.nC) => (tc.c i hi).2)
  have HE := Lib.hid hE
  clear hE tc
  have K0 : Bx (w.alloc (.cells #[.slice T.AS T.nS T.cS, .slice T.AC T.nC T.cC, .slice T.AK T.nK T.cK, .int .i64 T.L, .int .i64 T.W] 26)) (w.heap.size) 26 [.slice T.AS T.nS T.cS, .slice T.AC T.nC T.cC, .slice T.AK T.nK T.cK, .int .i64 T.L, .int .i64 T.W] := bx_new w [.slice T.AS T.nS T.cS, .slice T.AC T.nC T.cC, .slice T.AK T.nK T.cK, .int .i64 T.L, .int .i64 T.W] 26
  have B : Below w.heap.size w (w.alloc (.cells #[.slice T.AS T.nS T.cS, .slice T.AC T.nC T.cC, .slice T.AK T.nK T.cK, .int .i64 T.L, .int .i64 T.W] 26)) := ((Below.refl _ _).alloc (Nat.le_refl _) _)
  replace h := h.below (show Below w.heap.size w (w.alloc (.cells #[.slice T.AS T.nS T.cS, .slice T.AC T.nC T.cC, .slice T.AK T.nK T.cK, .int .i64 T.L, .int .i64 T.W] 26)) from B)
  have k0_0 := K0.cell (i := 0) rfl
  have k0_1 := K0.cell (i := 1) rfl
  have k0_2 := K0.cell (i := 2) rfl
  have k0_3 := K0.cell (i := 3) rfl
  have k0_4 := K0.cell (i := 4) rfl
  replace hl := hl.below (show Below w.heap.size w (w.alloc (.cells #[.slice T.AS T.nS T.cS, .slice T.AC T.nC T.cC, .slice T.AK T.nK T.cK, .int .i64 T.L, .int .i64 T.W] 26)) from B)
  go_enter Try.func6, Try.ntmps6
  go_wp2_with (fail)
  with_reducible refine (pays_any _).mono ?_
  rintro e w1 ⟨rfl, hb⟩
  clear k0_0 k0_1 k0_2 k0_3 k0_4
  replace K0 := K0.below hb
  replace h := h.below hb
  replace hl := hl.below hb
  replace B := below_step B hb B.size
  clear hb
  have k0_0 := K0.cell (i := 0) rfl
  have k0_1 := K0.cell (i := 1) rfl
  have k0_2 := K0.cell (i := 2) rfl
  have k0_3 := K0.cell (i := 3) rfl
  have k0_4 := K0.cell (i := 4) rfl
  go_wp2_with (fail)
  with_reducible refine (lfits_any T _ h hF).mono ?_
  rintro e w2 ⟨he, hb⟩
  clear k0_0 k0_1 k0_2 k0_3 k0_4
  replace K0 := K0.below hb
  replace h := h.below hb
  replace hl := hl.below hb
  replace B := below_step B hb B.size
  clear hb
  have k0_0 := K0.cell (i := 0) rfl
  have k0_1 := K0.cell (i := 1) rfl
  have k0_2 := K0.cell (i := 2) rfl
  have k0_3 := K0.cell (i := 3) rfl
  have k0_4 := K0.cell (i := 4) rfl
  rw [g] at he
  subst he
  go_wp2_with (fail)
  with_reducible refine (cY _ h hl).mono ?_
  rintro e w3 ⟨v, rfl, hok, _, hb⟩
  clear k0_0 k0_1 k0_2 k0_3 k0_4
  replace K0 := K0.below hb
  replace h := h.below hb
  replace hl := hl.below hb
  replace B := below_step B hb B.size
  clear hb
  have k0_0 := K0.cell (i := 0) rfl
  have k0_1 := K0.cell (i := 1) rfl
  have k0_2 := K0.cell (i := 2) rfl
  have k0_3 := K0.cell (i := 3) rfl
  have k0_4 := K0.cell (i := 4) rfl
  obtain ⟨u, rfl, HR⟩ := hok HE.out
  obtain ⟨Ar, cr, rfl, hM, _⟩ := rowsM_of HR
  have MC := h.2.1
  clear hok cY HR h hl HE
  have Bw := Below.refl w3.heap.size w3
  go_wp2
  go_loopw [41] (fun k X => ∃ i : Nat, i ≤ T.nC ∧ k = .int .i64 i ∧ Below w3.heap.size w3 X) (fun k _ => T.nC - (intOf k).toNat)
  case atStart => exact ⟨0, Nat.zero_le _, rfl, Bw⟩
  case round =>
    clear Bw
    obtain ⟨i, hi, rfl, hbX⟩ := hrel
    by_cases hlt : i < T.nC
    · obtain ⟨b, o, hA, hcc⟩ := id (MC (by omega))
      obtain ⟨g0, g1, g2, g3, g4, g5, hbd⟩ := hcc i hlt
      have hal := HAL.out i hlt
      have htp := HTP.out i hlt
      have hcb := HCB.out i hlt
      obtain ⟨⟨p0, p1⟩, y0, y1⟩ := HCC.out i hlt
      have hrl := fun k hk => HRL.out k hk i hlt
      have hahd := fun k => ahd_bd (T := T) (x := x) (s := s) (i := i) k
      have HTT : Hid (∀ j, topb (T.C i).b.R (j + 1) = max (topb (T.C i).b.R j) ((T.C i).b.R j)) := Lib.hid fun _ => rfl
      have HT0 : Hid (topb (T.C i).b.R 0 = 0) := Lib.hid rfl
      clear hcc
      replace g0 := cell_later hbX g0
      replace g1 := cell_later hbX g1
      replace g2 := cell_later hbX g2
      replace g3 := cell_later hbX g3
      replace g4 := cell_later hbX g4
      replace g5 := cell_later hbX g5
      generalize T.AC = AC at *
      subst hA
      generalize T.C i = ci at *
      obtain ⟨N, cB, ⟨cA, cn, cc, Fb, Rb, Eb⟩, P, Y, cW⟩ := ci
      dsimp only at *
      have K8 := bx_new wr [.string N, .int .i64 cB, .slice cA cn cc, .int .i64 P, .int .i64 Y, .int .i64 cW] 31
      have NB := below_new wr (.cells #[.string N, .int .i64 cB, .slice cA cn cc, .int .i64 P, .int .i64 Y, .int .i64 cW] 31)
      have B8 := below_step hbX NB hbX.size
      have hbs := hbX.size
      have hlw : wr.heap.size < (wr.alloc (.cells #[.string N, .int .i64 cB, .slice cA cn cc, .int .i64 P, .int .i64 Y, .int .i64 cW] 31)).heap.size := by simp
      have k8_2 := K8.cell (i := 2) rfl
      have HAH := Lib.hid hal
      have HRH := Lib.hid hrl
      have HHD := Lib.hid hahd
      clear NB hal hrl hahd
      go_wp2
      clear g0 g1 g2 g3 g4 g5
      generalize wr.alloc (.cells #[.string N, .int .i64 cB, .slice cA cn cc, .int .i64 P, .int .i64 Y, .int .i64 cW] 31) = W8 at *
      generalize wr.heap.size = bs at *
      have Bz := Below.refl W8.heap.size W8
      go_loopw [9, 49] (fun t k X => ∃ j : Nat, j ≤ cn ∧ k = .int .i64 j ∧ t = .int .i64 (topb Rb j) ∧ Below W8.heap.size W8 X) (fun _ k _ => cn - (intOf k).toNat)
      case atStart => exact ⟨0, Nat.zero_le _, rfl, by rw [HT0.out], Bz⟩
      case round =>
        clear Bz
        obtain ⟨j, hj, rfl, rfl, hbY⟩ := hrel
        by_cases hjl : j < cn
        · obtain ⟨b2, o2, hA2, hc2⟩ := hbd (by omega)
          obtain ⟨z0, z1, z2⟩ := hc2 j hjl
          replace z0 := cell_later hbY (cell_later B8 z0)
          replace z1 := cell_later hbY (cell_later B8 z1)
          replace z2 := cell_later hbY (cell_later B8 z2)
          have HJ := Lib.hid (HTT.out j)
          have hb2 := below_step hbY (below_new wr (.cells #[.int .i64 (Fb j), .int .i64 (Rb j), .int .i64 (Eb j)] 65)) hbY.size
          clear hc2 hbd
          subst hA2
          generalize topb Rb j = t1 at *
          generalize Fb j = fi at *
          generalize Rb j = ri at *
          generalize Eb j = ei at *
          go_wp2
          refine ⟨⟨j + 1, by omega, by go_num, by rw [HJ.out], hb2⟩, ?_⟩
          simp [intOf]; omega
        · obtain rfl : j = cn := by omega
          have hnl : ¬ (j : Int) < (j : Int) := by omega
          replace K8 := K8.below hbY
          have B9 := below_step B8 hbY B8.size
          have ht0 := top_nn Rb j
          clear hbd B8 hbY k8_2
          generalize hwz : wr = wz at *
          generalize topb Rb j = tp at *
          have hal := HAH.out m (Nat.le_refl _)
          have hy := (HHD.out m)
          have Bv := Below.refl wz.heap.size wz
          go_wp2
          go_loopw [12, 60] (fun t k X => ∃ e : Nat, e ≤ m ∧ k = .int .i64 e ∧ t = .int .i64 (smS (yrA T x s) e i) ∧ Below wz.heap.size wz X) (fun _ k _ => m - (intOf k).toNat)
          case atStart => exact ⟨0, Nat.zero_le _, rfl, rfl, Bv⟩
          case round =>
            clear Bv hal hy
            obtain ⟨e, he, rfl, rfl, hbZ⟩ := hrel
            have J8 := K8.below hbZ
            have k8_3 := J8.cell (i := 3) rfl
            have k8_4 := J8.cell (i := 4) rfl
            by_cases hel : e < m
            · obtain ⟨b3, o3, rfl, hc3⟩ := hM (by omega)
              obtain ⟨A', c', r0, hs⟩ := hc3 e hel
              have hs2 : Shs w3 A' T.nC (yrA T x s e) (yrB' T x s e) := hs
              obtain ⟨b4, o4, rfl, hsc⟩ := hs2 (by omega)
              obtain ⟨s0, s1⟩ := hsc i hlt
              replace r0 : wr.cell? ⟨b3, o3 + e, none⟩ = some (.slice (some ⟨b4, o4, none⟩) T.nC c') := cell_later hbZ (cell_later B9 r0)
              replace s0 := cell_later hbZ (cell_later B9 s0)
              replace s1 := cell_later hbZ (cell_later B9 s1)
              obtain ⟨l0, l1, l2, l3, _⟩ := HRH.out e hel
              have l5 := HAH.out e he
              have HN : Hid (smS (yrA T x s) (e + 1) i = smS (yrA T x s) e i + yrA T x s e i) := Lib.hid rfl
              clear hc3 hs hs2 hsc hM
              generalize smS (yrA T x s) e i = u at *
              generalize yrA T x s e i = du at *
              generalize yrB' T x s e i = dv at *
              have d0 : decide (du < 0) = false := decide_eq_false (by omega)
              have d1 : decide (dv < 0) = false := decide_eq_false (by omega)
              have hw0 : wrap64 (u + du) = u + du := IntWalk.wrap64_in _ (by omega)
              have hw1 : wrap64 (du - 1) = du - 1 := IntWalk.wrap64_in _ (by omega)
              have hw2 : wrap64 ((du - 1) * 10000) = (du - 1) * 10000 := IntWalk.wrap64_in _ (by omega)
              have hpt : 0 ≤ P * tp ∧ P * tp ≤ 100000000000 * 10000 := ⟨Int.mul_nonneg p0 ht0, Int.mul_le_mul p1 htp ht0 (by omega)⟩
              have hw3 : wrap64 (P * tp) = P * tp := IntWalk.wrap64_in _ (by omega)
              have key : decide (0 < P) = false ∨ (decide (0 < P) = true ∧ decide (P * tp ≤ (du - 1) * 10000) = false) := by
                by_cases hp : 0 < P
                · have := l3 hp
                  exact .inr ⟨decide_eq_true hp, decide_eq_false (by omega)⟩
                · exact .inl (decide_eq_false hp)
              clear l0 l1 l2 l3 l5 hpt
              rcases key with kp | ⟨kp, kq⟩
              all_goals
                go_wp2
                go_quiet (fail)
                have hbV := below_drewN hbZ nq
                go_wp2
                refine ⟨⟨e + 1, by omega, by go_num, by rw [HN.out, hw0], hbV⟩, ?_⟩
                simp [intOf]; omega
            · obtain rfl : e = m := by omega
              have hnl : ¬ (e : Int) < (e : Int) := by omega
              obtain ⟨l0, l1, l2, l3⟩ := HAH.out e (Nat.le_refl _)
              replace l1 := l1 h0
              obtain ⟨v0, v1⟩ := HHD.out e
              have BX := below_step B9 hbZ B9.size
              have hyt : 0 < Y → ahd T x s e i * tp ≤ Y * tp := fun hY => Int.mul_le_mul_of_nonneg_right (v1 hY) ht0
              have hpt : 0 ≤ Y * tp ∧ Y * tp ≤ 100000000000 * 10000 := ⟨Int.mul_nonneg y0 ht0, Int.mul_le_mul y1 htp ht0 (by omega)⟩
              generalize ahd T x s e i * tp = z at *
              generalize smS (yrA T x s) e i = u at *
              have hw1 : wrap64 (u - (e : Int)) = u - (e : Int) := IntWalk.wrap64_in _ (by omega)
              have hw2 : wrap64 ((u - (e : Int)) * 10000) = (u - (e : Int)) * 10000 := IntWalk.wrap64_in _ (by omega)
              have hw3 : wrap64 (Y * tp) = Y * tp := IntWalk.wrap64_in _ (by omega)
              have key : decide (0 < Y) = false ∨ (decide (0 < Y) = true ∧ decide (Y * tp ≤ (u - (e : Int)) * 10000) = false) := by
                by_cases hp : 0 < Y
                · have := hyt hp
                  exact .inr ⟨decide_eq_true hp, decide_eq_false (by omega)⟩
                · exact .inl (decide_eq_false hp)
              clear l0 l1 l2 l3 hyt hpt v0 v1 hM
              rcases key with kp | ⟨kp, kq⟩
              all_goals
                go_wp2
                refine ⟨⟨i + 1, by omega, by go_num, BX⟩, ?_⟩
                simp [intOf]; omega
    · obtain rfl : i = T.nC := by omega
      have hnl : ¬ (T.nC : Int) < (T.nC : Int) := by omega
      have B5 := below_step B hbX B.size
      clear hM MC
      go_wp2
      go_ret
      exact ⟨rfl, B5⟩
theorem wSocialCeils (T : TB) (A : Option Addr) (m q : Nat) (c x s : Nat → Int) (w : World) (h : Tm w T) (hF : TFits T) (hl : BasM w A m c x s) (hm : m ≤ 9223372036854775807) (hb : ∀ i, i < m → i64F (c i) ∧ i64F (x i) ∧ i64F (s i)) :
    Calls Try.prog 6 #[.agg #[.slice T.AS T.nS T.cS, .slice T.AC T.nC T.cC, .slice T.AK T.nK T.cK, .int .i64 T.L, .int .i64 T.W], .slice A m q] w fun e w' => e = .returned (.bool true) ∧ Below w.heap.size w w' := by
  cases g : lfB T
  · exact sc_no T A m q c x s w h hF hl hm g
  · by_cases g2 : 60 < m
    · exact sc_long T A m q c x s w h hF hl hm g g2
    · by_cases h0 : m = 0
      · exact sc_zero T A m q c x s w h hF hl hm g h0
      · by_cases hE : firstE (yrE T c x s) m = 0
        · exact sc_ok T A m q c x s w h hF hl hm g g2 (by omega) hE
        · exact sc_bad T A m q c x s w h hF hl hm g g2 (by omega) hE
end Go.Proofs.Ytifoapaoamhgcaa
