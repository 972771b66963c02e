/- The walk of the law BandRises. -/
import Derived.Test.YtkiefceomgbbhaaBandH
import Derived.Test.YtkiefceomgbbhaaRefBand
import Derived.Test.YtkiefceomgbbhaaPostB
import Derived.Deep.Cut
import Derived.Deep.CutRange
namespace Go.Proofs.Ytkiefceomgbbhaa
open Go.RowKit Go.Sort
set_option linter.unusedVariables false

theorem fnd_mono {F : Nat → Int} {x y : Int} (h : x ≤ y) (n : Nat) : fnd F x n ≤ fnd F y n := by
  induction n with
  | zero => exact Nat.le_refl _
  | succ n ih =>
    have hl : fnd F x n ≤ n := by
      rcases Nat.eq_zero_or_pos n with e | e
      · subst e; simp [fnd]
      · have := fnd_lt F x e; omega
    simp only [fnd]
    by_cases h1 : 0 < n ∧ F n < x
    · rw [if_pos h1, if_pos (by omega)]; exact Nat.le_refl _
    · rw [if_neg h1]
      split
      · exact hl
      · exact ih
set_option maxHeartbeats 8000000 in
set_option maxRecDepth 100000 in
theorem wBandRises (A : Option Addr) (n c : Nat) (F R E : Nat → Int) (x y : Int) (w : World) (h : Bds w A n F R E) (hn : n ≤ 9223372036854775807) (hf : ∀ i, i < n → fits (F i) ∧ fits (R i) ∧ fits (E i)) (hx : -9223372036854775808 ≤ x) (hx' : x ≤ 9223372036854775807) (hy : -9223372036854775808 ≤ y) (hy' : y ≤ 9223372036854775807) :
    Calls Try.prog 5 #[.slice A n c, .int .i64 x, .int .i64 y] w fun e w' => e = .returned (.bool true) ∧ Below w.heap.size w w' := by
  have sm := sums_any w
  clear hf
  have c1 := fun (W : World) (hB : Bds W A n F R E) => refcheck_any A n c W F R E hB hn
  by_cases h0 : chk F R E n = 0
  · have ok := okb_of h0
    rw [h0] at c1
    clear h0
    by_cases hg : 100000000000 < x ∨ y < -100000000000 ∨ x < -100000000000 ∨ 100000000000 < y ∨ y < x
    · have key : decide (100000000000 < x) = true ∨ (decide (100000000000 < x) = false ∧ decide (y < -100000000000) = true) ∨ (decide (100000000000 < x) = false ∧ decide (y < -100000000000) = false ∧ decide (x < -100000000000) = true) ∨
          (decide (100000000000 < x) = false ∧ decide (y < -100000000000) = false ∧ decide (x < -100000000000) = false ∧ decide (100000000000 < y) = true) ∨
          (decide (100000000000 < x) = false ∧ decide (y < -100000000000) = false ∧ decide (x < -100000000000) = false ∧ decide (100000000000 < y) = false ∧ decide (y < x) = true) := by
        simp only [decide_eq_true_eq, decide_eq_false_iff_not]
        omega
      clear ok hg
      rcases key with k1 | ⟨k1, k2⟩ | ⟨k1, k2, k3⟩ | ⟨k1, k2, k3, k4⟩ | ⟨k1, k2, k3, k4, k5⟩
      all_goals
        go_enter Try.func5, Try.ntmps5
        go_wp2_with (fail)
        refine (sm).mono ?_
        rintro e w1 ⟨rfl, d1⟩
        have hb1 := d1
        have h_1 := h.below d1
        go_wp2_with (fail)
        refine (c1 _ h_1).mono ?_
        rintro e w2 ⟨rfl, d2⟩
        have hb2 := hb1.trans (d2.mono hb1.size)
        have h_2 := h_1.below d2
        go_wp2
        go_ret
        exact ⟨rfl, hb2⟩
    · have xA : amtB x = true := amtB_mk (by omega) (by omega)
      have yA : amtB y = true := amtB_mk (by omega) (by omega)
      have c2 := fun (W : World) (hB : Bds W A n F R E) => Exact_ok n c x A F R E W hB ok xA
      have c3 := fun (W : World) (hB : Bds W A n F R E) => Exact_ok n c y A F R E W hB ok yA
      have c4 := fun (W : World) (hB : Bds W A n F R E) => between_ok n c x y A F R E W hB ok xA yA
      have c5 := fun (W : World) (hB : Bds W A n F R E) => find_any x A n c W F R E hB ok.1 (by have := ok.2.1; omega)
      have c6 := fun (W : World) (hB : Bds W A n F R E) => find_any y A n c W F R E hB ok.1 (by have := ok.2.1; omega)
      have c7 := fun (W : World) (hB : Bds W A n F R E) => top_any A n c W F R E hB (by have := ok.2.1; omega)
      have k1 : decide (100000000000 < x) = false := by simp; omega
      have k2 : decide (y < -100000000000) = false := by simp; omega
      have k3 : decide (x < -100000000000) = false := by simp; omega
      have k4 : decide (100000000000 < y) = false := by simp; omega
      have k5 : decide (y < x) = false := by simp; omega
      have hxy : x ≤ y := by omega
      have x1 : -100000000000 ≤ x := by omega
      have y2 : y ≤ 100000000000 := by omega
      obtain ⟨o1, o2, oI, oF, oR, oE⟩ := ok
      obtain ⟨r1, r2⟩ := exact_rises (R := R) o1 oI oF oR hxy
      obtain ⟨b1, b2⟩ := exact_bd (R := R) o1 oI oF oR (x := x) (by omega)
      obtain ⟨b3, b4⟩ := exact_bd (R := R) o1 oI oF oR (x := y) (by omega)
      have tn := top_nn R n
      have tl := top_le oR
      have pt := fun D (h1 : 0 ≤ D) (h2 : D ≤ 100000000000) (W : World) => part_ok D (topb R n) W (amtB_mk (by omega) h2) (rateB_mk tn tl)
      have ij := fnd_mono (F := F) hxy n
      have jn := fnd_lt F y (n := n) (by omega)
      have jat := fnd_at F y n
      have jab := fnd_above F y n
      have hF0 := oI.1
      have hFj := oF _ jn
      generalize exactV F R n x = a at *
      generalize exactV F R n y = b at *
      generalize fnd F x n = i at *
      generalize fnd F y n = j at *
      generalize topb R n = T at *
      have hjc : (decide (y ≤ F j) = true ∧ j = 0 ∧ y ≤ 0) ∨ (decide (y ≤ F j) = false ∧ F j < y) := by
        rcases Int.lt_or_le (F j) y with h | h
        · exact .inr ⟨by simp; omega, h⟩
        · refine .inl ⟨by simp; omega, ?_⟩
          rcases jat with e | e
          · exact ⟨e, by rw [e] at h; omega⟩
          · omega
      have hj1 : (j + 1 < n ∧ y ≤ F (j + 1)) ∨ n ≤ j + 1 := by
        rcases Nat.lt_or_ge (j + 1) n with h | h
        · exact .inl ⟨h, jab (j + 1) (by omega) h⟩
        · exact .inr h
      have HR2 := Lib.hid r2
      have k6 : decide (b < a) = false := by simp; omega
      have k7 : decide (a < 0) = false := by simp; omega
      have k8 : decide ((j : Int) < (i : Int)) = false := by simp; omega
      have k9 : decide (j < i) = false := by simp; omega
      have ka : decide ((i : Int) < 0) = false := by simp
      have kb : decide ((n : Int) ≤ (j : Int)) = false := by simp; omega
      have kc : decide (n ≤ j) = false := by simp; omega
      have kd : (j : Int) < (n : Int) := by omega
      have ke : (b - a != b - a) = false := by simp
      have hcell : ∀ W, Bds W A n F R E → ∃ bb oo, A = some ⟨bb, oo, none⟩ ∧ W.cell? ⟨bb, oo + j * 3, none⟩ = some (.int .i64 (F j)) ∧ (j + 1 < n → W.cell? ⟨bb, oo + (j + 1) * 3, none⟩ = some (.int .i64 (F (j + 1)))) := fun W hB => by
        obtain ⟨bb, oo, e, hc⟩ := hB (by omega)
        exact ⟨bb, oo, e, (hc j jn).1, fun h => (hc (j + 1) h).1⟩
      have hD : (0 < x ∧ max y 0 - max x 0 = y - x) ∨ (x ≤ 0 ∧ 0 < y ∧ max y 0 - max x 0 = y) ∨ (y ≤ 0 ∧ max y 0 - max x 0 = 0) := by omega
      clear jat jab oI oF oR oE r2 hg xA yA hF0 hx hx' hy hy' hn
      rcases hD with ⟨m1, m2⟩ | ⟨m1, m3, m2⟩ | ⟨m1, m2⟩
      · rw [m2] at HR2
        have p7 := pt (y - x) (by omega) (by omega)
        obtain ⟨P, hP⟩ : ∃ P, P = (y - x) * T := ⟨_, rfl⟩
        rw [← hP] at HR2 p7
        have pb := mul_bd 10000 (x := y - x) (by omega) (by omega) tn tl
        rw [← hP] at pb
        obtain ⟨pb1, pb2⟩ := pb
        have hle := HR2.out
        clear hP m2 pt
        rcases hjc with ⟨q1, q2, q3⟩ | ⟨q1, q2⟩
        · exfalso
          omega
        · rcases hj1 with ⟨s1, s2⟩ | s1
          · have u1 : decide (((j : Int) + 1) < (n : Int)) = true := by simp; omega
            have u2 : (j : Int) + 1 < (n : Int) := by omega
            have u3 : decide (j + 1 < n) = true := by simp; omega
            have u4 : decide (F (j + 1) < y) = false := by simp; omega
            go_enter Try.func5, Try.ntmps5
            go_wp2_with (fail)
            refine (sm).mono ?_
            rintro e w1 ⟨rfl, d1⟩
            have hb1 := d1
            have h_1 := h.below d1
            go_wp2_with (fail)
            refine (c1 _ h_1).mono ?_
            rintro e w2 ⟨rfl, d2⟩
            have hb2 := hb1.trans (d2.mono hb1.size)
            have h_2 := h_1.below d2
            go_wp2_with (fail)
            refine (c2 _ h_2).mono ?_
            rintro e w3 ⟨rfl, d3⟩
            have hb3 := hb2.trans (d3.mono hb2.size)
            have h_3 := h_2.below d3
            go_wp2_with (fail)
            refine (c3 _ h_3).mono ?_
            rintro e w4 ⟨rfl, d4⟩
            have hb4 := hb3.trans (d4.mono hb3.size)
            have h_4 := h_3.below d4
            go_wp2_with (fail)
            refine (c4 _ h_4).mono ?_
            rintro e w5 ⟨rfl, d5⟩
            have hb5 := hb4.trans (d5.mono hb4.size)
            have h_5 := h_4.below d5
            go_wp2_with (fail)
            refine (c5 _ h_5).mono ?_
            rintro e w' ⟨rfl, rfl⟩
            go_wp2_with (fail)
            refine (c6 _ h_5).mono ?_
            rintro e w' ⟨rfl, rfl⟩
            obtain ⟨bb, oo, rfl, g0, g1⟩ := hcell _ h_5
            have g2 := g1 s1
            clear g1
            go_upto_region 11 with (fail)
            clear c1 c2 c3 c4 c5 c6 sm ke k1 k2 k3 k4 k5 hle r1 pb1 pb2 hcell h h_1 h_2 h_3 h_4 d2 d3 d4 d5 hb1 hb2 hb3 hb4
            go_wp2_with (fail)
            refine (c7 _ h_5).mono ?_
            rintro e w6 ⟨rfl, d6⟩
            have hb6 := hb5.trans (d6.mono hb5.size)
            go_wp2_with (fail)
            refine (p7 _).mono ?_
            rintro e w7 ⟨rfl, d7⟩
            have hb7 := hb6.trans (d7.mono hb6.size)
            go_wp2
            go_ret
            exact ⟨ret_b (by have := HR2.out; simp; omega), hb7⟩
          · have u1 : decide (((j : Int) + 1) < (n : Int)) = false := by simp; omega
            have u2 : ¬ (j : Int) + 1 < (n : Int) := by omega
            have u3 : decide (j + 1 < n) = false := by simp; omega
            go_enter Try.func5, Try.ntmps5
            go_wp2_with (fail)
            refine (sm).mono ?_
            rintro e w1 ⟨rfl, d1⟩
            have hb1 := d1
            have h_1 := h.below d1
            go_wp2_with (fail)
            refine (c1 _ h_1).mono ?_
            rintro e w2 ⟨rfl, d2⟩
            have hb2 := hb1.trans (d2.mono hb1.size)
            have h_2 := h_1.below d2
            go_wp2_with (fail)
            refine (c2 _ h_2).mono ?_
            rintro e w3 ⟨rfl, d3⟩
            have hb3 := hb2.trans (d3.mono hb2.size)
            have h_3 := h_2.below d3
            go_wp2_with (fail)
            refine (c3 _ h_3).mono ?_
            rintro e w4 ⟨rfl, d4⟩
            have hb4 := hb3.trans (d4.mono hb3.size)
            have h_4 := h_3.below d4
            go_wp2_with (fail)
            refine (c4 _ h_4).mono ?_
            rintro e w5 ⟨rfl, d5⟩
            have hb5 := hb4.trans (d5.mono hb4.size)
            have h_5 := h_4.below d5
            go_wp2_with (fail)
            refine (c5 _ h_5).mono ?_
            rintro e w' ⟨rfl, rfl⟩
            go_wp2_with (fail)
            refine (c6 _ h_5).mono ?_
            rintro e w' ⟨rfl, rfl⟩
            obtain ⟨bb, oo, rfl, g0, g1⟩ := hcell _ h_5
            clear g1
            go_upto_region 11 with (fail)
            clear c1 c2 c3 c4 c5 c6 sm ke k1 k2 k3 k4 k5 hle r1 pb1 pb2 hcell h h_1 h_2 h_3 h_4 d2 d3 d4 d5 hb1 hb2 hb3 hb4
            go_wp2_with (fail)
            refine (c7 _ h_5).mono ?_
            rintro e w6 ⟨rfl, d6⟩
            have hb6 := hb5.trans (d6.mono hb5.size)
            go_wp2_with (fail)
            refine (p7 _).mono ?_
            rintro e w7 ⟨rfl, d7⟩
            have hb7 := hb6.trans (d7.mono hb6.size)
            go_wp2
            go_ret
            exact ⟨ret_b (by have := HR2.out; simp; omega), hb7⟩
      · rw [m2] at HR2
        have p7 := pt y (by omega) (by omega)
        obtain ⟨P, hP⟩ : ∃ P, P = y * T := ⟨_, rfl⟩
        rw [← hP] at HR2 p7
        have pb := mul_bd 10000 (x := y) (by omega) (by omega) tn tl
        rw [← hP] at pb
        obtain ⟨pb1, pb2⟩ := pb
        have hle := HR2.out
        clear hP m2 pt
        rcases hjc with ⟨q1, q2, q3⟩ | ⟨q1, q2⟩
        · exfalso
          omega
        · rcases hj1 with ⟨s1, s2⟩ | s1
          · have u1 : decide (((j : Int) + 1) < (n : Int)) = true := by simp; omega
            have u2 : (j : Int) + 1 < (n : Int) := by omega
            have u3 : decide (j + 1 < n) = true := by simp; omega
            have u4 : decide (F (j + 1) < y) = false := by simp; omega
            go_enter Try.func5, Try.ntmps5
            go_wp2_with (fail)
            refine (sm).mono ?_
            rintro e w1 ⟨rfl, d1⟩
            have hb1 := d1
            have h_1 := h.below d1
            go_wp2_with (fail)
            refine (c1 _ h_1).mono ?_
            rintro e w2 ⟨rfl, d2⟩
            have hb2 := hb1.trans (d2.mono hb1.size)
            have h_2 := h_1.below d2
            go_wp2_with (fail)
            refine (c2 _ h_2).mono ?_
            rintro e w3 ⟨rfl, d3⟩
            have hb3 := hb2.trans (d3.mono hb2.size)
            have h_3 := h_2.below d3
            go_wp2_with (fail)
            refine (c3 _ h_3).mono ?_
            rintro e w4 ⟨rfl, d4⟩
            have hb4 := hb3.trans (d4.mono hb3.size)
            have h_4 := h_3.below d4
            go_wp2_with (fail)
            refine (c4 _ h_4).mono ?_
            rintro e w5 ⟨rfl, d5⟩
            have hb5 := hb4.trans (d5.mono hb4.size)
            have h_5 := h_4.below d5
            go_wp2_with (fail)
            refine (c5 _ h_5).mono ?_
            rintro e w' ⟨rfl, rfl⟩
            go_wp2_with (fail)
            refine (c6 _ h_5).mono ?_
            rintro e w' ⟨rfl, rfl⟩
            obtain ⟨bb, oo, rfl, g0, g1⟩ := hcell _ h_5
            have g2 := g1 s1
            clear g1
            go_upto_region 11 with (fail)
            clear c1 c2 c3 c4 c5 c6 sm ke k1 k2 k3 k4 k5 hle r1 pb1 pb2 hcell h h_1 h_2 h_3 h_4 d2 d3 d4 d5 hb1 hb2 hb3 hb4
            go_wp2_with (fail)
            refine (c7 _ h_5).mono ?_
            rintro e w6 ⟨rfl, d6⟩
            have hb6 := hb5.trans (d6.mono hb5.size)
            go_wp2_with (fail)
            refine (p7 _).mono ?_
            rintro e w7 ⟨rfl, d7⟩
            have hb7 := hb6.trans (d7.mono hb6.size)
            go_wp2
            go_ret
            exact ⟨ret_b (by have := HR2.out; simp; omega), hb7⟩
          · have u1 : decide (((j : Int) + 1) < (n : Int)) = false := by simp; omega
            have u2 : ¬ (j : Int) + 1 < (n : Int) := by omega
            have u3 : decide (j + 1 < n) = false := by simp; omega
            go_enter Try.func5, Try.ntmps5
            go_wp2_with (fail)
            refine (sm).mono ?_
            rintro e w1 ⟨rfl, d1⟩
            have hb1 := d1
            have h_1 := h.below d1
            go_wp2_with (fail)
            refine (c1 _ h_1).mono ?_
            rintro e w2 ⟨rfl, d2⟩
            have hb2 := hb1.trans (d2.mono hb1.size)
            have h_2 := h_1.below d2
            go_wp2_with (fail)
            refine (c2 _ h_2).mono ?_
            rintro e w3 ⟨rfl, d3⟩
            have hb3 := hb2.trans (d3.mono hb2.size)
            have h_3 := h_2.below d3
            go_wp2_with (fail)
            refine (c3 _ h_3).mono ?_
            rintro e w4 ⟨rfl, d4⟩
            have hb4 := hb3.trans (d4.mono hb3.size)
            have h_4 := h_3.below d4
            go_wp2_with (fail)
            refine (c4 _ h_4).mono ?_
            rintro e w5 ⟨rfl, d5⟩
            have hb5 := hb4.trans (d5.mono hb4.size)
            have h_5 := h_4.below d5
            go_wp2_with (fail)
            refine (c5 _ h_5).mono ?_
            rintro e w' ⟨rfl, rfl⟩
            go_wp2_with (fail)
            refine (c6 _ h_5).mono ?_
            rintro e w' ⟨rfl, rfl⟩
            obtain ⟨bb, oo, rfl, g0, g1⟩ := hcell _ h_5
            clear g1
            go_upto_region 11 with (fail)
            clear c1 c2 c3 c4 c5 c6 sm ke k1 k2 k3 k4 k5 hle r1 pb1 pb2 hcell h h_1 h_2 h_3 h_4 d2 d3 d4 d5 hb1 hb2 hb3 hb4
            go_wp2_with (fail)
            refine (c7 _ h_5).mono ?_
            rintro e w6 ⟨rfl, d6⟩
            have hb6 := hb5.trans (d6.mono hb5.size)
            go_wp2_with (fail)
            refine (p7 _).mono ?_
            rintro e w7 ⟨rfl, d7⟩
            have hb7 := hb6.trans (d7.mono hb6.size)
            go_wp2
            go_ret
            exact ⟨ret_b (by have := HR2.out; simp; omega), hb7⟩
      · rw [m2] at HR2
        have p7 := pt 0 (by omega) (by omega)
        obtain ⟨P, hP⟩ : ∃ P, P = 0 * T := ⟨_, rfl⟩
        rw [← hP] at HR2 p7
        have pb1 : 0 ≤ P := by rw [hP]; omega
        have pb2 : P ≤ 0 := by rw [hP]; omega
        have hle := HR2.out
        clear hP m2 pt
        rcases hjc with ⟨q1, q2, q3⟩ | ⟨q1, q2⟩
        · have q4 : decide (0 < (j : Int)) = false := by simp; omega
          have q5 : decide (0 < j) = false := by simp; omega
          clear q2
          rcases hj1 with ⟨s1, s2⟩ | s1
          · have u1 : decide (((j : Int) + 1) < (n : Int)) = true := by simp; omega
            have u2 : (j : Int) + 1 < (n : Int) := by omega
            have u3 : decide (j + 1 < n) = true := by simp; omega
            have u4 : decide (F (j + 1) < y) = false := by simp; omega
            go_enter Try.func5, Try.ntmps5
            go_wp2_with (fail)
            refine (sm).mono ?_
            rintro e w1 ⟨rfl, d1⟩
            have hb1 := d1
            have h_1 := h.below d1
            go_wp2_with (fail)
            refine (c1 _ h_1).mono ?_
            rintro e w2 ⟨rfl, d2⟩
            have hb2 := hb1.trans (d2.mono hb1.size)
            have h_2 := h_1.below d2
            go_wp2_with (fail)
            refine (c2 _ h_2).mono ?_
            rintro e w3 ⟨rfl, d3⟩
            have hb3 := hb2.trans (d3.mono hb2.size)
            have h_3 := h_2.below d3
            go_wp2_with (fail)
            refine (c3 _ h_3).mono ?_
            rintro e w4 ⟨rfl, d4⟩
            have hb4 := hb3.trans (d4.mono hb3.size)
            have h_4 := h_3.below d4
            go_wp2_with (fail)
            refine (c4 _ h_4).mono ?_
            rintro e w5 ⟨rfl, d5⟩
            have hb5 := hb4.trans (d5.mono hb4.size)
            have h_5 := h_4.below d5
            go_wp2_with (fail)
            refine (c5 _ h_5).mono ?_
            rintro e w' ⟨rfl, rfl⟩
            go_wp2_with (fail)
            refine (c6 _ h_5).mono ?_
            rintro e w' ⟨rfl, rfl⟩
            obtain ⟨bb, oo, rfl, g0, g1⟩ := hcell _ h_5
            have g2 := g1 s1
            clear g1
            go_upto_region 11 with (fail)
            clear c1 c2 c3 c4 c5 c6 sm ke k1 k2 k3 k4 k5 hle r1 pb1 pb2 hcell h h_1 h_2 h_3 h_4 d2 d3 d4 d5 hb1 hb2 hb3 hb4
            go_wp2_with (fail)
            refine (c7 _ h_5).mono ?_
            rintro e w6 ⟨rfl, d6⟩
            have hb6 := hb5.trans (d6.mono hb5.size)
            go_wp2_with (fail)
            refine (p7 _).mono ?_
            rintro e w7 ⟨rfl, d7⟩
            have hb7 := hb6.trans (d7.mono hb6.size)
            go_wp2
            go_ret
            exact ⟨ret_b (by have := HR2.out; simp; omega), hb7⟩
          · have u1 : decide (((j : Int) + 1) < (n : Int)) = false := by simp; omega
            have u2 : ¬ (j : Int) + 1 < (n : Int) := by omega
            have u3 : decide (j + 1 < n) = false := by simp; omega
            go_enter Try.func5, Try.ntmps5
            go_wp2_with (fail)
            refine (sm).mono ?_
            rintro e w1 ⟨rfl, d1⟩
            have hb1 := d1
            have h_1 := h.below d1
            go_wp2_with (fail)
            refine (c1 _ h_1).mono ?_
            rintro e w2 ⟨rfl, d2⟩
            have hb2 := hb1.trans (d2.mono hb1.size)
            have h_2 := h_1.below d2
            go_wp2_with (fail)
            refine (c2 _ h_2).mono ?_
            rintro e w3 ⟨rfl, d3⟩
            have hb3 := hb2.trans (d3.mono hb2.size)
            have h_3 := h_2.below d3
            go_wp2_with (fail)
            refine (c3 _ h_3).mono ?_
            rintro e w4 ⟨rfl, d4⟩
            have hb4 := hb3.trans (d4.mono hb3.size)
            have h_4 := h_3.below d4
            go_wp2_with (fail)
            refine (c4 _ h_4).mono ?_
            rintro e w5 ⟨rfl, d5⟩
            have hb5 := hb4.trans (d5.mono hb4.size)
            have h_5 := h_4.below d5
            go_wp2_with (fail)
            refine (c5 _ h_5).mono ?_
            rintro e w' ⟨rfl, rfl⟩
            go_wp2_with (fail)
            refine (c6 _ h_5).mono ?_
            rintro e w' ⟨rfl, rfl⟩
            obtain ⟨bb, oo, rfl, g0, g1⟩ := hcell _ h_5
            clear g1
            go_upto_region 11 with (fail)
            clear c1 c2 c3 c4 c5 c6 sm ke k1 k2 k3 k4 k5 hle r1 pb1 pb2 hcell h h_1 h_2 h_3 h_4 d2 d3 d4 d5 hb1 hb2 hb3 hb4
            go_wp2_with (fail)
            refine (c7 _ h_5).mono ?_
            rintro e w6 ⟨rfl, d6⟩
            have hb6 := hb5.trans (d6.mono hb5.size)
            go_wp2_with (fail)
            refine (p7 _).mono ?_
            rintro e w7 ⟨rfl, d7⟩
            have hb7 := hb6.trans (d7.mono hb6.size)
            go_wp2
            go_ret
            exact ⟨ret_b (by have := HR2.out; simp; omega), hb7⟩
        · exfalso
          omega
  · have k0 : (chk F R E n != 0) = true := by simpa using h0
    clear h0
    generalize chk F R E n = k at *
    go_enter Try.func5, Try.ntmps5
    go_wp2_with (fail)
    refine (sm).mono ?_
    rintro e w1 ⟨rfl, d1⟩
    have hb1 := d1
    have h_1 := h.below d1
    go_wp2_with (fail)
    refine (c1 _ h_1).mono ?_
    rintro e w2 ⟨rfl, d2⟩
    have hb2 := hb1.trans (d2.mono hb1.size)
    have h_2 := h_1.below d2
    go_wp2
    go_ret
    exact ⟨rfl, hb2⟩
end Go.Proofs.Ytkiefceomgbbhaa
