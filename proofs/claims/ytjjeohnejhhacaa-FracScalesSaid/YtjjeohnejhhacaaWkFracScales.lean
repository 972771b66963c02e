/- The walk of the law FracScales. -/
import Derived.Test.YtjjeohnejhhacaaFracP
namespace Go.Proofs.Ytjjeohnejhhacaa
open Go.RowKit
set_option linter.unusedVariables false

set_option maxHeartbeats 2000000 in
set_option maxRecDepth 100000 in
theorem wFracScales (x n d : Int) (w : World) (hx : -9223372036854775808 ≤ x) (hx' : x ≤ 9223372036854775807) (hn : -9223372036854775808 ≤ n) (hn' : n ≤ 9223372036854775807) (hd : -9223372036854775808 ≤ d) (hd' : d ≤ 9223372036854775807) :
    Calls Try.prog 7 #[.int .i64 x, .int .i64 n, .int .i64 d] w fun e w' => e = .returned (.bool true) ∧ Below w.heap.size w w' := by
  have pa := parts_any w
  cases ha : amtB x
  · have sc := fun w => scale_amt x n d w ha
    have h := amtB_no ha
    clear ha
    rcases h with h | h
    · have h2 : ¬ 100000000000 < x := by omega
      go_enter Try.func7, Try.ntmps7
      go_wp2_with (fail)
      refine pa.mono ?_
      rintro e w1 ⟨rfl, hb1⟩
      go_wp2_with (fail)
      refine (sc _).mono ?_
      rintro e w2 ⟨rfl, hb2⟩
      go_wp2
      go_ret
      exact ⟨ret_b (by first | rfl | (simp; done) | (simp; omega)), below_step hb1 hb2 hb1.size⟩
    · go_enter Try.func7, Try.ntmps7
      go_wp2_with (fail)
      refine pa.mono ?_
      rintro e w1 ⟨rfl, hb1⟩
      go_wp2_with (fail)
      refine (sc _).mono ?_
      rintro e w2 ⟨rfl, hb2⟩
      go_wp2
      go_ret
      exact ⟨ret_b (by first | rfl | (simp; done) | (simp; omega)), below_step hb1 hb2 hb1.size⟩
  · have h := amtB_yes ha
    obtain ⟨x1, x2⟩ := h
    by_cases h1 : n < 0
    · have sc := fun w => scale_range x n d w ha (.inl h1)
      clear ha
      go_enter Try.func7, Try.ntmps7
      go_wp2_with (fail)
      refine pa.mono ?_
      rintro e w1 ⟨rfl, hb1⟩
      go_wp2_with (fail)
      refine (sc _).mono ?_
      rintro e w2 ⟨rfl, hb2⟩
      go_wp2
      go_ret
      exact ⟨ret_b (by first | rfl | (simp; done) | (simp; omega)), below_step hb1 hb2 hb1.size⟩
    · by_cases h2 : 1048576 < n
      · have sc := fun w => scale_range x n d w ha (.inr (.inl h2))
        clear ha
        go_enter Try.func7, Try.ntmps7
        go_wp2_with (fail)
        refine pa.mono ?_
        rintro e w1 ⟨rfl, hb1⟩
        go_wp2_with (fail)
        refine (sc _).mono ?_
        rintro e w2 ⟨rfl, hb2⟩
        go_wp2
        go_ret
        exact ⟨ret_b (by first | rfl | (simp; done) | (simp; omega)), below_step hb1 hb2 hb1.size⟩
      · by_cases h3 : d < 1
        · have sc := fun w => scale_range x n d w ha (.inr (.inr (.inl h3)))
          clear ha
          go_enter Try.func7, Try.ntmps7
          go_wp2_with (fail)
          refine pa.mono ?_
          rintro e w1 ⟨rfl, hb1⟩
          go_wp2_with (fail)
          refine (sc _).mono ?_
          rintro e w2 ⟨rfl, hb2⟩
          go_wp2
          go_ret
          exact ⟨ret_b (by first | rfl | (simp; done) | (simp; omega)), below_step hb1 hb2 hb1.size⟩
        · by_cases h4 : 1048576 < d
          · have sc := fun w => scale_range x n d w ha (.inr (.inr (.inr h4)))
            clear ha
            go_enter Try.func7, Try.ntmps7
            go_wp2_with (fail)
            refine pa.mono ?_
            rintro e w1 ⟨rfl, hb1⟩
            go_wp2_with (fail)
            refine (sc _).mono ?_
            rintro e w2 ⟨rfl, hb2⟩
            go_wp2
            go_ret
            exact ⟨ret_b (by first | rfl | (simp; done) | (simp; omega)), below_step hb1 hb2 hb1.size⟩
          · have n1 : 0 ≤ n := by omega
            have n2 : n ≤ 1048576 := by omega
            have d1 : 1 ≤ d := by omega
            have d2 : d ≤ 1048576 := by omega
            have m := mul_bd 1048576 x1 x2 n1 n2
            have p1 : -104857600000000000 ≤ x * n := by omega
            have p2 : x * n ≤ 104857600000000000 := by omega
            have e := Int.mul_ediv_add_emod (x * n) d
            have e1 := Int.emod_nonneg (x * n) (show d ≠ 0 by omega)
            have e2 := Int.emod_lt_of_pos (x * n) (show 0 < d by omega)
            have hr : rnd (x * n) d 1 = x * n / d := by simp [rnd, rises]
            have rd := fun w => round_ok (x * n) d 1 w (by omega) (by omega) d1 (by omega) (by decide)
            rw [hr] at rd
            have sc := fun b hb w => scale_ok x n d w ha n1 n2 d1 d2 b hb
            rw [Int.mul_comm] at e
            generalize hq : x * n / d = q at *
            generalize x * n % d = r at *
            have f1 : q * d ≤ x * n := by omega
            have f2 : x * n - q * d < d := by omega
            clear h1 h2 h3 h4 m hr hq ha e e1 e2 r
            cases hb : amtB q
            · have sc := sc false hb
              have g := amtB_no hb
              clear hb
              rcases g with g | g
              · have g2 : ¬ 100000000000 < q := by omega
                go_enter Try.func7, Try.ntmps7
                go_wp2_with (fail)
                refine pa.mono ?_
                rintro e w1 ⟨rfl, hb1⟩
                go_wp2_with (fail)
                refine (sc _).mono ?_
                rintro e w2 ⟨rfl, hb2⟩
                go_wp2_with (fail)
                refine (rd _).mono ?_
                rintro e w3 ⟨rfl, k, rfl⟩
                go_wp2
                go_ret
                exact ⟨ret_b (by first | rfl | (simp; done) | (simp; omega)), below_drewN (below_step hb1 hb2 hb1.size) _⟩
              · go_enter Try.func7, Try.ntmps7
                go_wp2_with (fail)
                refine pa.mono ?_
                rintro e w1 ⟨rfl, hb1⟩
                go_wp2_with (fail)
                refine (sc _).mono ?_
                rintro e w2 ⟨rfl, hb2⟩
                go_wp2_with (fail)
                refine (rd _).mono ?_
                rintro e w3 ⟨rfl, k, rfl⟩
                go_wp2
                go_ret
                exact ⟨ret_b (by first | rfl | (simp; done) | (simp; omega)), below_drewN (below_step hb1 hb2 hb1.size) _⟩
            · have sc := sc true hb
              have g := amtB_yes hb
              obtain ⟨g1, g2⟩ := g
              clear hb
              go_enter Try.func7, Try.ntmps7
              go_wp2_with (fail)
              refine pa.mono ?_
              rintro e w1 ⟨rfl, hb1⟩
              go_wp2_with (fail)
              refine (sc _).mono ?_
              rintro e w2 ⟨rfl, hb2⟩
              go_wp2_with (fail)
              refine (rd _).mono ?_
              rintro e w3 ⟨rfl, k, rfl⟩
              go_wp2
              go_ret
              exact ⟨ret_b (by first | rfl | (simp; done) | (simp; omega)), below_drewN (below_step hb1 hb2 hb1.size) _⟩
end Go.Proofs.Ytjjeohnejhhacaa
