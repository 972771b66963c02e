/- The walk of the law HoldLimit. -/
import Derived.Test.YtgekojbmlppmdaaHldD
namespace Go.Proofs.Ytgekojbmlppmdaa
open Go.RowKit Go.Sort
set_option linter.unusedVariables false

theorem limV_in {L c : Int} (h0 : 0 ≤ L) (h1 : L ≤ 10000) (hc : 0 < c) (hc' : c ≤ 100000000000) : limV L c * 10000 ≤ c * L ∧ c * L < (limV L c + 1) * 10000 ∧ 0 ≤ limV L c ∧ limV L c ≤ 100000000000 ∧ 0 ≤ c * L ∧ c * L ≤ 1000000000000000 := by
  have b := limV_bd h0 h1 hc'
  have a := Int.mul_nonneg (Int.le_of_lt hc) h0
  have d := Int.mul_le_mul_of_nonneg_left h1 (Int.le_of_lt hc)
  have e : limV L c = c * L / 10000 := by unfold limV; rw [show max c 0 = c by omega]
  rw [e] at b ⊢
  generalize c * L = p at *
  omega
theorem wHoldLimit (r c : Int) (w : World) (hr : -9223372036854775808 ≤ r ∧ r ≤ 9223372036854775807) (hc : -9223372036854775808 ≤ c ∧ c ≤ 9223372036854775807) :
    Calls Try.prog 5 #[.int .i64 r, .int .i64 c] w fun e w' => e = .returned (.bool true) ∧ Below w.heap.size w w' := by
  have ho := holds_any w
  by_cases h1 : 100000000000 < c
  · have lm := fun w => limit_amt none none none 0 0 0 0 0 0 r 0 c w h1
    go_enter Try.func5, Try.ntmps5
    go_wp2_with (fail)
    with_reducible refine ho.mono ?_
    rintro e w1 ⟨rfl, hb⟩
    go_wp2_with (fail)
    with_reducible refine (lm _).mono ?_
    rintro e w2 ⟨rfl, hb2⟩
    go_wp2
    go_ret
    exact ⟨rfl, below_step hb hb2 hb.size⟩
  · cases hR : rateB r
    · have lm := fun w => limit_rate none none none 0 0 0 0 0 0 r 0 c w (by omega) hR
      have hn := rateB_no hR
      clear hR
      by_cases hn0 : r < 0
      · clear hn
        go_enter Try.func5, Try.ntmps5
        go_wp2_with (fail)
        with_reducible refine ho.mono ?_
        rintro e w1 ⟨rfl, hb⟩
        go_wp2_with (fail)
        with_reducible refine (lm _).mono ?_
        rintro e w2 ⟨rfl, hb2⟩
        go_wp2
        go_ret
        exact ⟨rfl, below_step hb hb2 hb.size⟩
      · have hn1 : 10000 < r := by omega
        clear hn
        go_enter Try.func5, Try.ntmps5
        go_wp2_with (fail)
        with_reducible refine ho.mono ?_
        rintro e w1 ⟨rfl, hb⟩
        go_wp2_with (fail)
        with_reducible refine (lm _).mono ?_
        rintro e w2 ⟨rfl, hb2⟩
        go_wp2
        go_ret
        exact ⟨rfl, below_step hb hb2 hb.size⟩
    · have lm := fun w => limit_ok none none none 0 0 0 0 0 0 r 0 c w (by omega) hR
      obtain ⟨r0, r1⟩ := rateB_yes hR
      clear hR
      have t0 : ¬ r < 0 := by omega
      have t1 : ¬ 10000 < r := by omega
      by_cases hc0 : c ≤ 0
      · have e : limV r c = 0 := by unfold limV; rw [show max c 0 = 0 by omega]; simp
        rw [e] at lm
        clear e
        go_enter Try.func5, Try.ntmps5
        go_wp2_with (fail)
        with_reducible refine ho.mono ?_
        rintro e w1 ⟨rfl, hb⟩
        go_wp2_with (fail)
        with_reducible refine (lm _).mono ?_
        rintro e w2 ⟨rfl, hb2⟩
        go_wp2
        go_ret
        exact ⟨rfl, below_step hb hb2 hb.size⟩
      · obtain ⟨l0, l1, l2, l3, l4, l5⟩ := limV_in r0 r1 (show 0 < c by omega) (by omega)
        generalize limV r c = l at *
        have u1 : wrap64 (c * r) = c * r := IntWalk.wrap64_in _ (by omega)
        have u2 : decide (l * 10000 ≤ wrap64 (c * r)) = true := by rw [u1]; simpa using l0
        have U3 := Lib.hid (show decide (wrap64 (c * r) < (l + 1) * 10000) = true by rw [u1]; simpa using l1)
        clear u1
        go_enter Try.func5, Try.ntmps5
        go_wp2_with (fail)
        with_reducible refine ho.mono ?_
        rintro e w1 ⟨rfl, hb⟩
        go_wp2_with (fail)
        with_reducible refine (lm _).mono ?_
        rintro e w2 ⟨rfl, hb2⟩
        go_wp2
        go_ret
        first | exact ⟨rfl, below_step hb hb2 hb.size⟩ | exact ⟨ret_b U3.out, below_step hb hb2 hb.size⟩
end Go.Proofs.Ytgekojbmlppmdaa
