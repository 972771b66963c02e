/- The walk of the law BandExact. -/
import Derived.Test.YtkiefceomgbbhaaBandH
import Derived.Test.YtkiefceomgbbhaaRefBand
import Derived.Test.YtkiefceomgbbhaaPostB
namespace Go.Proofs.Ytkiefceomgbbhaa
open Go.RowKit Go.Sort
set_option linter.unusedVariables false

set_option maxHeartbeats 4000000 in
set_option maxRecDepth 100000 in
theorem wBandExact (A : Option Addr) (n c : Nat) (F R E : Nat → Int) (x : Int) (w : World) (h : Bds w A n F R E) (hn : n ≤ 9223372036854775807) (hf : ∀ i, i < n → fits (F i) ∧ fits (R i) ∧ fits (E i)) (hx : -9223372036854775808 ≤ x) (hx' : x ≤ 9223372036854775807) :
    Calls Try.prog 4 #[.slice A n c, .int .i64 x] w fun e w' => e = .returned (.bool true) ∧ Below w.heap.size w w' := by
  have sm := sums_any w
  clear hf
  have c1 := fun (W : World) (hB : Bds W A n F R E) => refcheck_any A n c W F R E hB hn
  by_cases h0 : chk F R E n = 0
  · have ok := okb_of h0
    rw [h0] at c1
    clear h0
    cases hA : amtB x
    · have hA2 := amtB_no hA
      clear ok hA
      have key : (decide (100000000000 < x) = true) ∨ (decide (100000000000 < x) = false ∧ decide (x < -100000000000) = true) := by
        rcases hA2 with h | h
        · exact .inr ⟨by simp; omega, by simp; omega⟩
        · exact .inl (by simp; omega)
      clear hA2
      rcases key with k1 | ⟨k1, k2⟩
      all_goals
        go_enter Try.func4, Try.ntmps4
        go_wp2_with (fail)
        refine (sm).mono ?_
        rintro e w1 ⟨rfl, d1⟩
        have hb1 := d1
        have h_1 := h.below d1
        go_wp2_with (fail)
        refine (c1 _ h_1).mono ?_
        rintro e w2 ⟨rfl, d2⟩
        have hb2 := hb1.trans (d2.mono hb1.size)
        have h_2 := h_1.below d2
        go_wp2
        go_ret
        exact ⟨rfl, hb2⟩
    · have c2 := fun (W : World) (hB : Bds W A n F R E) => Exact_ok n c x A F R E W hB ok hA
      have c3 := fun (W : World) (hB : Bds W A n F R E) => Employer_ok n c x A F R E W hB ok hA
      obtain ⟨a1, a2⟩ := amtB_yes hA
      have c4 := fun (W : World) (hB : Bds W A n F R E) => refexact_any x A n c false W F R E R hB rfl ok a2 a1
      have c5 := fun (W : World) (hB : Bds W A n F R E) => refexact_any x A n c true W F R E E hB rfl ok a2 a1
      have k1 : decide (100000000000 < x) = false := by simp; omega
      have k2 : decide (x < -100000000000) = false := by simp; omega
      rw [exact_ref ok.1 ok.2.2.1 ok.2.2.2.1] at c2 c3
      clear ok hA
      generalize refb F R x n = u at *
      generalize refb F E x n = v at *
      go_enter Try.func4, Try.ntmps4
      go_wp2_with (fail)
      refine (sm).mono ?_
      rintro e w1 ⟨rfl, d1⟩
      have hb1 := d1
      have h_1 := h.below d1
      go_wp2_with (fail)
      refine (c1 _ h_1).mono ?_
      rintro e w2 ⟨rfl, d2⟩
      have hb2 := hb1.trans (d2.mono hb1.size)
      have h_2 := h_1.below d2
      go_wp2_with (fail)
      refine (c2 _ h_2).mono ?_
      rintro e w3 ⟨rfl, d3⟩
      have hb3 := hb2.trans (d3.mono hb2.size)
      have h_3 := h_2.below d3
      go_wp2_with (fail)
      refine (c3 _ h_3).mono ?_
      rintro e w4 ⟨rfl, d4⟩
      have hb4 := hb3.trans (d4.mono hb3.size)
      have h_4 := h_3.below d4
      go_wp2_with (fail)
      refine (c4 _ h_4).mono ?_
      rintro e w' ⟨rfl, rfl⟩
      go_wp2_with (fail)
      refine (c5 _ h_4).mono ?_
      rintro e w' ⟨rfl, rfl⟩
      go_wp2
      go_ret
      exact ⟨rfl, hb4⟩
  · have k0 : (chk F R E n != 0) = true := by simpa using h0
    clear h0
    generalize chk F R E n = k at *
    go_enter Try.func4, Try.ntmps4
    go_wp2_with (fail)
    refine (sm).mono ?_
    rintro e w1 ⟨rfl, d1⟩
    have hb1 := d1
    have h_1 := h.below d1
    go_wp2_with (fail)
    refine (c1 _ h_1).mono ?_
    rintro e w2 ⟨rfl, d2⟩
    have hb2 := hb1.trans (d2.mono hb1.size)
    have h_2 := h_1.below d2
    go_wp2
    go_ret
    exact ⟨rfl, hb2⟩
end Go.Proofs.Ytkiefceomgbbhaa
