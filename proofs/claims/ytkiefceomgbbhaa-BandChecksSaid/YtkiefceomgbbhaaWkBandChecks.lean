/- The walk of the law BandChecks. -/
import Derived.Test.YtkiefceomgbbhaaBandH
import Derived.Test.YtkiefceomgbbhaaRefBand
import Derived.Test.YtkiefceomgbbhaaPostB
namespace Go.Proofs.Ytkiefceomgbbhaa
open Go.RowKit Go.Sort
set_option linter.unusedVariables false

set_option maxHeartbeats 4000000 in
set_option maxRecDepth 100000 in
theorem wBandChecks (A : Option Addr) (n c : Nat) (F R E : Nat → Int) (x : Int) (w : World) (h : Bds w A n F R E) (hn : n ≤ 9223372036854775807) (hf : ∀ i, i < n → fits (F i) ∧ fits (R i) ∧ fits (E i)) (hx : -9223372036854775808 ≤ x) (hx' : x ≤ 9223372036854775807) :
    Calls Try.prog 3 #[.slice A n c, .int .i64 x] w fun e w' => e = .returned (.bool true) ∧ Below w.heap.size w w' := by
  have sm := sums_any w
  clear hf
  by_cases h40 : 40 < n
  · have t1 : decide (40 < (n : Int)) = true := by simp; omega
    clear h
    go_enter Try.func3, Try.ntmps3
    go_wp2_with (fail)
    refine sm.mono ?_
    rintro e w1 ⟨rfl, hb1⟩
    go_wp2
    go_ret
    exact ⟨rfl, hb1⟩
  · have t1 : decide (40 < (n : Int)) = false := by simp; omega
    have c1 := fun (W : World) (hB : Bds W A n F R E) => refcheck_any A n c W F R E hB (by omega)
    have c4 := fun (W : World) (hB : Bds W A n F R E) => check_any A n c W F R E hB (by omega)
    by_cases h0 : chk F R E n = 0
    · have ok := okb_of h0
      rw [h0] at c1 c4
      have HOK := Lib.hid ok
      clear h0
      cases hA : amtB x
      · have c2 := fun (W : World) (hB : Bds W A n F R E) => Exact_amt n c x A F R E W hB ok hA
        have c3 := fun (W : World) (hB : Bds W A n F R E) => Employer_amt n c x A F R E W hB ok hA
        have hA2 := amtB_no hA
        clear ok hA
        have key : (decide (100000000000 < x) = true) ∨ (decide (100000000000 < x) = false ∧ decide (x < -100000000000) = true) := by
          rcases hA2 with h | h
          · exact .inr ⟨by simp; omega, by simp; omega⟩
          · exact .inl (by simp; omega)
        clear hA2
        rcases key with k1 | ⟨k1, k2⟩
        all_goals
          go_enter Try.func3, Try.ntmps3
          go_wp2_with (fail)
          refine sm.mono ?_
          rintro e w1 ⟨rfl, hb1⟩
          have B1 := h.below hb1
          go_wp2_with (fail)
          refine (c1 _ B1).mono ?_
          rintro e w2 ⟨rfl, d2⟩
          have B2 := B1.below d2
          have hb2 := hb1.trans (d2.mono hb1.size)
          go_wp2_with (fail)
          refine (c2 _ B2).mono ?_
          rintro e w3 ⟨rfl, d3⟩
          have B3 := B2.below d3
          have hb3 := hb2.trans (d3.mono hb2.size)
          go_wp2_with (fail)
          refine (c3 _ B3).mono ?_
          rintro e w4 ⟨rfl, d4⟩
          have B4 := B3.below d4
          have hb4 := hb3.trans (d4.mono hb3.size)
          go_wp2_with (fail)
          refine (c4 _ B4).mono ?_
          rintro e w5 ⟨rfl, d5⟩
          have hb5 := hb4.trans (d5.mono hb4.size)
          go_wp2
          go_ret
          exact ⟨rfl, hb5⟩
      · have c2 := fun (W : World) (hB : Bds W A n F R E) => Exact_ok n c x A F R E W hB ok hA
        have c3 := fun (W : World) (hB : Bds W A n F R E) => Employer_ok n c x A F R E W hB ok hA
        obtain ⟨a1, a2⟩ := amtB_yes hA
        have k1 : decide (100000000000 < x) = false := by simp; omega
        have k2 : decide (x < -100000000000) = false := by simp; omega
        clear ok hA
        generalize exactV F R n x = u at *
        generalize exactV F E n x = v at *
        go_enter Try.func3, Try.ntmps3
        go_wp2_with (fail)
        refine sm.mono ?_
        rintro e w1 ⟨rfl, hb1⟩
        have B1 := h.below hb1
        go_wp2_with (fail)
        refine (c1 _ B1).mono ?_
        rintro e w2 ⟨rfl, d2⟩
        have B2 := B1.below d2
        have hb2 := hb1.trans (d2.mono hb1.size)
        go_wp2_with (fail)
        refine (c2 _ B2).mono ?_
        rintro e w3 ⟨rfl, d3⟩
        have B3 := B2.below d3
        have hb3 := hb2.trans (d3.mono hb2.size)
        go_wp2_with (fail)
        refine (c3 _ B3).mono ?_
        rintro e w4 ⟨rfl, d4⟩
        have B4 := B3.below d4
        have hb4 := hb3.trans (d4.mono hb3.size)
        go_wp2_with (fail)
        refine (c4 _ B4).mono ?_
        rintro e w5 ⟨rfl, d5⟩
        have hb5 := hb4.trans (d5.mono hb4.size)
        go_wp2
        go_ret
        exact ⟨rfl, hb5⟩
    · have c2 := fun (W : World) (hB : Bds W A n F R E) => Exact_chk n c x A F R E W hB (by omega) h0
      have c3 := fun (W : World) (hB : Bds W A n F R E) => Employer_chk n c x A F R E W hB (by omega) h0
      have c5 := fun (W : World) (hB : Bds W A n F R E) => bscale_chk 1 2 A n c W F R E hB (by omega) h0
      have k0 : (chk F R E n != 0) = true := by simpa using h0
      have k1 : (chk F R E n != chk F R E n) = false := by simp
      have k2 : (chk F R E n == chk F R E n) = true := by simp
      clear h0
      generalize chk F R E n = k at *
      go_enter Try.func3, Try.ntmps3
      go_wp2_with (fail)
      refine sm.mono ?_
      rintro e w1 ⟨rfl, hb1⟩
      have B1 := h.below hb1
      go_wp2_with (fail)
      refine (c1 _ B1).mono ?_
      rintro e w2 ⟨rfl, d2⟩
      have B2 := B1.below d2
      have hb2 := hb1.trans (d2.mono hb1.size)
      go_wp2_with (fail)
      refine (c2 _ B2).mono ?_
      rintro e w3 ⟨rfl, d3⟩
      have B3 := B2.below d3
      have hb3 := hb2.trans (d3.mono hb2.size)
      go_wp2_with (fail)
      refine (c3 _ B3).mono ?_
      rintro e w4 ⟨rfl, d4⟩
      have B4 := B3.below d4
      have hb4 := hb3.trans (d4.mono hb3.size)
      go_wp2_with (fail)
      refine (c4 _ B4).mono ?_
      rintro e w5 ⟨rfl, d5⟩
      have B5 := B4.below d5
      have hb5 := hb4.trans (d5.mono hb4.size)
      go_wp2_with (fail)
      refine (c5 _ B5).mono ?_
      rintro e w6 ⟨rfl, d6⟩
      have hb6 := hb5.trans (d6.mono hb5.size)
      go_wp2
      go_ret
      exact ⟨rfl, hb6⟩
end Go.Proofs.Ytkiefceomgbbhaa
