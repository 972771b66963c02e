/- The law PieceChecks, walked. -/
import Derived.Test.YtcldknmhmbpboaaPcT
import Derived.Test.YtcldknmhmbpboaaPcF
namespace Go.Proofs.Ytcldknmhmbpboaa
open Go.RowKit Go.Sort
set_option linter.unusedVariables false
set_option linter.unusedSimpArgs false

set_option maxHeartbeats 4000000 in
set_option maxRecDepth 100000 in
theorem wPieceChecks (A : Option Addr) (c : Nat) (f : Lf) (x : Int) (w : World) (h : Lm w A f) (hn : f.n ≤ 9223372036854775807) (hx1 : -9223372036854775808 ≤ x) (hx2 : x ≤ 9223372036854775807) :
    Calls Try.prog 3 #[.slice A f.n c, .int .i64 x] w fun e w' => e = .returned (.bool true) ∧ Below w.heap.size w w' := by
  by_cases hl : 400 < f.n
  · have d1 : decide (400 < (f.n : Int)) = true := by simp; omega
    clear hl
    go_enter Try.func3, Try.ntmps3
    go_wp2_with (fail)
    refine (goes_any _).mono ?_
    rintro e w1 ⟨rfl, hb⟩
    go_wp2
    go_ret
    exact ⟨rfl, hb⟩
  · have d1 : decide (400 < (f.n : Int)) = false := by simp; omega
    have cW := fun W hh => wrong_any A c f W hh (by omega)
    have cA := fun W hh => at_any A c f x W hh (by omega)
    have cC := fun W hh => check_any A c f W hh (by omega)
    have cV := fun W hh hk h0 hT => lawat_any A c f x W hh (by omega) hk h0 hT
    by_cases hc : f.chk = 0
    · by_cases hx : xB x = true
      · obtain ⟨x0, xT⟩ := xB_yes hx
        have hV : atV f x = f.val x := by unfold atV; rw [if_pos hc, if_pos hx]
        have hE : atE f x = 0 := by unfold atE; rw [if_pos hc, if_pos hx]
        have d2 : decide (x < 0) = false := by simp; omega
        have d3 : decide (10000000000 < x) = false := by simp; omega
        rw [hV, hE] at cA
        rw [hc] at cW cC
        have cV' := fun W hh => cV W hh (Lf.chk_zero hc).rk x0 xT
        clear cV hV hE hc hx x0 xT hl
        generalize f.val x = y at *
        go_enter Try.func3, Try.ntmps3
        go_wp2_with (fail)
        refine (goes_any _).mono ?_
        rintro e w1 ⟨rfl, hb⟩
        go_wp2_with (fail)
        refine (cW _ (h.below hb)).mono ?_
        rintro e w2 ⟨rfl, hb1⟩
        have B1 := below_step hb hb1 hb.size
        go_wp2_with (fail)
        refine (cA _ (h.below B1)).mono ?_
        rintro e w3 ⟨rfl, hb2⟩
        have B2 := below_step B1 hb2 B1.size
        go_wp2_with (fail)
        refine (cC _ (h.below B2)).mono ?_
        rintro e w4 ⟨rfl, hb3⟩
        have B3 := below_step B2 hb3 B2.size
        clear hb hb1 hb2 hb3 B1 B2 cW cA cC
        go_wp2_with (fail)
        refine (cV' _ (h.below B3)).mono ?_
        rintro e w5 ⟨rfl, hb⟩
        have B4 := below_step B3 hb B3.size
        go_wp2
        go_ret
        exact ⟨rfl, B4⟩
      · have hV : atV f x = 0 := by unfold atV; rw [if_pos hc, if_neg hx]
        have hE : atE f x = 1 := by unfold atE; rw [if_pos hc, if_neg hx]
        have hx2 := xB_no (by simpa using hx)
        rw [hV, hE] at cA
        rw [hc] at cW cC
        clear cV hV hE hc hx hl
        rcases (show x < 0 ∨ (¬ x < 0 ∧ 10000000000 < x) by omega) with h1 | ⟨h1, h2⟩
        · have d2 : decide (x < 0) = true := decide_eq_true h1
          clear h1 hx2
          go_enter Try.func3, Try.ntmps3
          go_wp2_with (fail)
          refine (goes_any _).mono ?_
          rintro e w1 ⟨rfl, hb⟩
          go_wp2_with (fail)
          refine (cW _ (h.below hb)).mono ?_
          rintro e w2 ⟨rfl, hb1⟩
          have B1 := below_step hb hb1 hb.size
          go_wp2_with (fail)
          refine (cA _ (h.below B1)).mono ?_
          rintro e w3 ⟨rfl, hb2⟩
          have B2 := below_step B1 hb2 B1.size
          go_wp2_with (fail)
          refine (cC _ (h.below B2)).mono ?_
          rintro e w4 ⟨rfl, hb3⟩
          have B3 := below_step B2 hb3 B2.size
          clear hb hb1 hb2 hb3 B1 B2 cW cA cC
          go_wp2
          go_ret
          exact ⟨rfl, B3⟩
        · have d2 : decide (x < 0) = false := decide_eq_false h1
          have d3 : decide (10000000000 < x) = true := decide_eq_true h2
          clear h1 h2 hx2
          go_enter Try.func3, Try.ntmps3
          go_wp2_with (fail)
          refine (goes_any _).mono ?_
          rintro e w1 ⟨rfl, hb⟩
          go_wp2_with (fail)
          refine (cW _ (h.below hb)).mono ?_
          rintro e w2 ⟨rfl, hb1⟩
          have B1 := below_step hb hb1 hb.size
          go_wp2_with (fail)
          refine (cA _ (h.below B1)).mono ?_
          rintro e w3 ⟨rfl, hb2⟩
          have B2 := below_step B1 hb2 B1.size
          go_wp2_with (fail)
          refine (cC _ (h.below B2)).mono ?_
          rintro e w4 ⟨rfl, hb3⟩
          have B3 := below_step B2 hb3 B2.size
          clear hb hb1 hb2 hb3 B1 B2 cW cA cC
          go_wp2
          go_ret
          exact ⟨rfl, B3⟩
    · have hV : atV f x = 0 := by unfold atV; rw [if_neg hc]
      have hE : atE f x = f.chk := by unfold atE; rw [if_neg hc]
      rw [hV, hE] at cA
      have b1 : (f.chk != 0) = true := by simp; exact hc
      have b2 : (f.chk != f.chk) = false := by simp
      have b3 : (f.chk == f.chk) = true := by simp
      clear cV hV hE hc hl
      generalize f.chk = q at *
      go_enter Try.func3, Try.ntmps3
      go_wp2_with (fail)
      refine (goes_any _).mono ?_
      rintro e w1 ⟨rfl, hb⟩
      go_wp2_with (fail)
      refine (cW _ (h.below hb)).mono ?_
      rintro e w2 ⟨rfl, hb1⟩
      have B1 := below_step hb hb1 hb.size
      go_wp2_with (fail)
      refine (cA _ (h.below B1)).mono ?_
      rintro e w3 ⟨rfl, hb2⟩
      have B2 := below_step B1 hb2 B1.size
      go_wp2_with (fail)
      refine (cC _ (h.below B2)).mono ?_
      rintro e w4 ⟨rfl, hb3⟩
      have B3 := below_step B2 hb3 B2.size
      clear hb hb1 hb2 hb3 B1 B2 cW cA cC
      go_wp2
      go_ret
      exact ⟨rfl, B3⟩
end Go.Proofs.Ytcldknmhmbpboaa
