/- The walk of the law PairBands. -/
import Derived.Test.YtkiefceomgbbhaaPairE
import Derived.Test.YtkiefceomgbbhaaRefBand
import Derived.Test.YtkiefceomgbbhaaPostB
namespace Go.Proofs.Ytkiefceomgbbhaa
open Go.RowKit Go.Sort
set_option linter.unusedVariables false

theorem order_00b : FloatKind.f64.format.order 0 0 = some .eq := order_eq (is_zero false) (is_zero false) rfl
set_option maxHeartbeats 8000000 in
set_option maxRecDepth 100000 in
theorem wPairBands (A : Option Addr) (n c : Nat) (F R E : Nat → Int) (x m : Int) (w : World) (h : Bds w A n F R E) (hn : n ≤ 9223372036854775807) (hf : ∀ i, i < n → fits (F i) ∧ fits (R i) ∧ fits (E i)) (hx : -9223372036854775808 ≤ x) (hx' : x ≤ 9223372036854775807) (hm : -9223372036854775808 ≤ m) (hm' : m ≤ 9223372036854775807) :
    Calls Try.prog 10 #[.slice A n c, .int .i64 x, .int .i64 m] w fun e w' => e = .returned (.bool true) ∧ Below w.heap.size w w' := by
  have sm := both_any w
  have o0 := order_00b
  clear hf hm hm'
  by_cases h40 : 40 < n
  · have t1 : decide (40 < (n : Int)) = true := by simp; omega
    go_enter Try.func10, Try.ntmps10
    go_wp2_with (fail)
    with_reducible refine sm.mono ?_
    rintro e w1 ⟨rfl, hb1⟩
    have h_1 := h.below hb1
    go_wp2
    go_ret
    exact ⟨rfl, hb1⟩
  · have t1 : decide (40 < (n : Int)) = false := by simp; omega
    have c1 := fun (W : World) (hB : Bds W A n F R E) => refcheck_any A n c W F R E hB (by omega)
    by_cases h0 : chk F R E n = 0
    · have ok := okb_of h0
      rw [h0] at c1
      clear h0
      cases hA : amtB x
      · have c2 := fun (W : World) (hB : Bds W A n F R E) => banded_amt n c x A F R E W hB ok hA
        have hA2 := amtB_no hA
        clear ok hA
        have key : (decide (100000000000 < x) = true) ∨ (decide (100000000000 < x) = false ∧ decide (x < -100000000000) = true) := by
          rcases hA2 with h | h
          · exact .inr ⟨by simp; omega, by simp; omega⟩
          · exact .inl (by simp; omega)
        clear hA2
        rcases key with k1 | ⟨k1, k2⟩
        all_goals
          go_enter Try.func10, Try.ntmps10
          go_wp2_with (fail)
          with_reducible refine sm.mono ?_
          rintro e w1 ⟨rfl, hb1⟩
          have h_1 := h.below hb1
          go_wp2_with (fail)
          with_reducible refine (c2 _ h_1).mono ?_
          rintro e w2 ⟨rfl, d2⟩
          have hb2 := hb1.trans (d2.mono hb1.size)
          have h_2 := h_1.below d2
          go_wp2_with (fail)
          with_reducible refine (c1 _ h_2).mono ?_
          rintro e w3 ⟨rfl, d3⟩
          have hb3 := hb2.trans (d3.mono hb2.size)
          have h_3 := h_2.below d3
          go_wp2
          go_ret
          exact ⟨rfl, hb3⟩
      · obtain ⟨a1, a2⟩ := amtB_yes hA
        have k1 : decide (100000000000 < x) = false := by simp; omega
        have k2 : decide (x < -100000000000) = false := by simp; omega
        have c2 := fun (W : World) (hB : Bds W A n F R E) => banded_ok n c x A F R E W hB ok hA
        have c3 := fun (W : World) (hB : Bds W A n F R E) => refexact_any x A n c false W F R E R hB rfl ok a2 a1
        have c4 := fun (W : World) (hB : Bds W A n F R E) => refexact_any x A n c true W F R E E hB rfl ok a2 a1
        have c5 := fun (W : World) (hB : Bds W A n F R E) => Exact_ok n c x A F R E W hB ok hA
        have c6 := fun (W : World) (hB : Bds W A n F R E) => Employer_ok n c x A F R E W hB ok hA
        rw [← exact_ref ok.1 ok.2.2.1 ok.2.2.2.1] at c3 c4
        obtain ⟨u1, u2⟩ := exact_bd (R := R) ok.1 ok.2.2.1 ok.2.2.2.1 ok.2.2.2.2.1 a2
        obtain ⟨v1, v2⟩ := exact_bd (R := E) ok.1 ok.2.2.1 ok.2.2.2.1 ok.2.2.2.2.2 a2
        clear ok hA
        generalize exactV F R n x = u at *
        generalize exactV F E n x = v at *
        have su : sdB u = true := sdB_mk (by omega) (by omega)
        have sv : sdB v = true := sdB_mk (by omega) (by omega)
        have eu : exB u = true := exB_mk (by omega) (by omega)
        have ev : exB v = true := exB_mk (by omega) (by omega)
        have s1 := fun sx sy (i1 : Is sx u) (i2 : Is sy v) => sides_ok sx sy u v i1 i2 su sv
        cases hmo : modeB m
        · have s2 := fun sx sy (i1 : Is sx u) (i2 : Is sy v) => pcoins_mode sx sy u v m i1 i2 su sv hmo
          have s3 := fun W => coins_mode u m W eu hmo
          have s4 := fun W => coins_mode v m W ev hmo
          clear su sv eu ev hmo
          go_enter Try.func10, Try.ntmps10
          go_wp2_with (fail)
          with_reducible refine sm.mono ?_
          rintro e w1 ⟨rfl, hb1⟩
          have h_1 := h.below hb1
          go_wp2_with (fail)
          with_reducible refine (c2 _ h_1).mono ?_
          rintro e w2 ⟨sx, sy, rfl, isx, isy, d2⟩
          have hb2 := hb1.trans (d2.mono hb1.size)
          have h_2 := h_1.below d2
          go_wp2_with (fail)
          with_reducible refine (c1 _ h_2).mono ?_
          rintro e w3 ⟨rfl, d3⟩
          have hb3 := hb2.trans (d3.mono hb2.size)
          have h_3 := h_2.below d3
          have s1' := s1 sx sy isx isy
          have s2' := s2 sx sy isx isy
          clear isx isy s1 s2
          go_wp2_with (fail)
          with_reducible refine (s1' _).mono ?_
          rintro e w' ⟨rfl, rfl⟩
          go_wp2_with (fail)
          with_reducible refine (c3 _ h_3).mono ?_
          rintro e w' ⟨rfl, rfl⟩
          go_wp2_with (fail)
          with_reducible refine (c4 _ h_3).mono ?_
          rintro e w' ⟨rfl, rfl⟩
          go_wp2_with (fail)
          with_reducible refine (c5 _ h_3).mono ?_
          rintro e w4 ⟨rfl, d4⟩
          have hb4 := hb3.trans (d4.mono hb3.size)
          have h_4 := h_3.below d4
          go_wp2_with (fail)
          with_reducible refine (c6 _ h_4).mono ?_
          rintro e w5 ⟨rfl, d5⟩
          have hb5 := hb4.trans (d5.mono hb4.size)
          have h_5 := h_4.below d5
          go_wp2_with (fail)
          with_reducible refine (s2' _).mono ?_
          rintro e w6 ⟨rfl, d6⟩
          have hb6 := hb5.trans (d6.mono hb5.size)
          have h_6 := h_5.below d6
          have p6 := P2.new w6 (0) (0) 65
          have hb8 := hb6.alloc hb6.size (.cells #[.int .i64 (0), .int .i64 (0)] 65)
          clear c1 c2 c3 c4 c5 c6 s1' s2' d2 d3 d4 d5 d6 h_1 h_2 h_3 h_4 h_5 h_6 h sm
          go_wp2_with (fail)
          with_reducible refine (s3 _).mono ?_
          rintro e w' ⟨rfl, rfl⟩
          go_wp2_with (fail)
          with_reducible refine (s4 _).mono ?_
          rintro e w' ⟨rfl, rfl⟩
          go_wp2
          go_ret
          exact ⟨rfl, hb8⟩
        · have s2 := fun sx sy (i1 : Is sx u) (i2 : Is sy v) => pcoins_ok sx sy u v m i1 i2 su sv hmo
          have s3 := fun W => coins_ok u m W eu hmo
          have s4 := fun W => coins_ok v m W ev hmo
          generalize rnd u 10000 m = ru at *
          generalize rnd v 10000 m = rv at *
          clear su sv eu ev hmo
          go_enter Try.func10, Try.ntmps10
          go_wp2_with (fail)
          with_reducible refine sm.mono ?_
          rintro e w1 ⟨rfl, hb1⟩
          have h_1 := h.below hb1
          go_wp2_with (fail)
          with_reducible refine (c2 _ h_1).mono ?_
          rintro e w2 ⟨sx, sy, rfl, isx, isy, d2⟩
          have hb2 := hb1.trans (d2.mono hb1.size)
          have h_2 := h_1.below d2
          go_wp2_with (fail)
          with_reducible refine (c1 _ h_2).mono ?_
          rintro e w3 ⟨rfl, d3⟩
          have hb3 := hb2.trans (d3.mono hb2.size)
          have h_3 := h_2.below d3
          have s1' := s1 sx sy isx isy
          have s2' := s2 sx sy isx isy
          clear isx isy s1 s2
          go_wp2_with (fail)
          with_reducible refine (s1' _).mono ?_
          rintro e w' ⟨rfl, rfl⟩
          go_wp2_with (fail)
          with_reducible refine (c3 _ h_3).mono ?_
          rintro e w' ⟨rfl, rfl⟩
          go_wp2_with (fail)
          with_reducible refine (c4 _ h_3).mono ?_
          rintro e w' ⟨rfl, rfl⟩
          go_wp2_with (fail)
          with_reducible refine (c5 _ h_3).mono ?_
          rintro e w4 ⟨rfl, d4⟩
          have hb4 := hb3.trans (d4.mono hb3.size)
          have h_4 := h_3.below d4
          go_wp2_with (fail)
          with_reducible refine (c6 _ h_4).mono ?_
          rintro e w5 ⟨rfl, d5⟩
          have hb5 := hb4.trans (d5.mono hb4.size)
          have h_5 := h_4.below d5
          go_wp2_with (fail)
          with_reducible refine (s2' _).mono ?_
          rintro e w6 ⟨rfl, d6⟩
          have hb6 := hb5.trans (d6.mono hb5.size)
          have h_6 := h_5.below d6
          have p6 := P2.new w6 (ru) (rv) 65
          have hb8 := hb6.alloc hb6.size (.cells #[.int .i64 (ru), .int .i64 (rv)] 65)
          clear c1 c2 c3 c4 c5 c6 s1' s2' d2 d3 d4 d5 d6 h_1 h_2 h_3 h_4 h_5 h_6 h sm
          go_wp2_with (fail)
          with_reducible refine (s3 _).mono ?_
          rintro e w' ⟨rfl, k3, rfl⟩
          go_wp2_with (fail)
          with_reducible refine (s4 _).mono ?_
          rintro e w' ⟨rfl, k4, rfl⟩
          go_wp2
          go_ret
          exact ⟨rfl, below_drewN hb8 _⟩
    · have c2 := fun (W : World) (hB : Bds W A n F R E) => banded_chk n c x A F R E W hB (by omega) h0
      have k0 : (chk F R E n != 0) = true := by simpa using h0
      have k2 : (chk F R E n == chk F R E n) = true := by simp
      clear h0
      generalize chk F R E n = k at *
      go_enter Try.func10, Try.ntmps10
      go_wp2_with (fail)
      with_reducible refine sm.mono ?_
      rintro e w1 ⟨rfl, hb1⟩
      have h_1 := h.below hb1
      go_wp2_with (fail)
      with_reducible refine (c2 _ h_1).mono ?_
      rintro e w2 ⟨rfl, d2⟩
      have hb2 := hb1.trans (d2.mono hb1.size)
      have h_2 := h_1.below d2
      go_wp2_with (fail)
      with_reducible refine (c1 _ h_2).mono ?_
      rintro e w3 ⟨rfl, d3⟩
      have hb3 := hb2.trans (d3.mono hb2.size)
      have h_3 := h_2.below d3
      go_wp2
      go_ret
      exact ⟨rfl, hb3⟩
end Go.Proofs.Ytkiefceomgbbhaa
