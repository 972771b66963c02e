/- What the document's own calls of the tax answer: Round, Free, Exact. -/
import Derived.Test.YtifoapaoamhgcaaFracA
import Derived.Test.YtifoapaoamhgcaaBandC
import Derived.Lib.Hide
import Derived.Sort.Walk0
namespace Go.Proofs.Ytifoapaoamhgcaa
open Go.RowKit Go.Sort
set_option linter.unusedVariables false
set_option linter.unusedSimpArgs false

/-- a number rounded by its quotient and its rest -/
def rndQ (q r m : Int) : Int := if 0 < r ∧ rises q r 10000 m = true then q + 1 else q
theorem rndQ_of {x q r : Int} (m : Int) (he : x = 10000 * q + r) (h0 : 0 ≤ r) (h1 : r < 10000) : rnd x 10000 m = rndQ q r m := by
  have := (Int.ediv_emod_unique (a := x) (b := 10000) (q := q) (r := r) (by omega)).2 ⟨by omega, h0, h1⟩
  unfold rnd rndQ
  rw [this.1, this.2]
theorem rround_any (x m : Int) (w : World) (hx : 0 ≤ x) (hx' : x ≤ 1000000000000000) (hm : modeB m = true) :
    Calls Try.prog 38 #[.int .i64 x, .int .i64 m] w fun e w' => e = .returned (.int .i64 (rnd x 10000 m)) ∧ w = w' := by
  obtain ⟨q, r, hq, hr, he, hr0, hr1, hq0, hq1⟩ : ∃ q r : Int, x.tdiv 10000 = q ∧ x.tmod 10000 = r ∧ x = 10000 * q + r ∧ 0 ≤ r ∧ r < 10000 ∧ 0 ≤ q ∧ q ≤ 100000000000 :=
    ⟨_, _, rfl, rfl, by rw [Int.tdiv_eq_ediv_of_nonneg hx, Int.tmod_eq_emod_of_nonneg hx]; omega, by rw [Int.tmod_eq_emod_of_nonneg hx]; omega, by rw [Int.tmod_eq_emod_of_nonneg hx]; omega, by rw [Int.tdiv_eq_ediv_of_nonneg hx]; omega, by rw [Int.tdiv_eq_ediv_of_nonneg hx]; omega⟩
  rw [rndQ_of m he hr0 hr1]
  have hm2 := modeB_yes hm
  have h2 : q.tmod 2 = q % 2 := Int.tmod_eq_emod_of_nonneg hq0
  have g3 : decide (x < 0) = false := by simp; omega
  have g6 : decide (r < 0) = false := by simp; omega
  have hcase : r = 0 ∨ (0 < r ∧ r < 5000) ∨ (r = 5000 ∧ q % 2 = 0) ∨ (r = 5000 ∧ q % 2 ≠ 0) ∨ 5000 < r := by omega
  have hmm : m = 1 ∨ m = 2 ∨ m = 3 ∨ m = 4 ∨ m = 5 ∨ m = 6 := by omega
  have hge : decide (0 < x) = true ∨ (r = 0 ∧ q = 0) := by simp; omega
  clear hm hm2 hx'
  rcases hcase with c | c | c | c | c
  · have g0 : decide (0 < r) = false := by simp; omega
    have g1 : decide (5000 < r) = false := by simp; omega
    have g2 : (r == 5000) = false := by simp; omega
    have HV : ∀ m, Hid (rndQ q r m = q) := fun m => Lib.hid (by unfold rndQ; rw [if_neg (by omega)])
    clear c hge he h2
    rcases hmm with rfl | rfl | rfl | rfl | rfl | rfl
    all_goals
      go_enter Try.func38, Try.ntmps38
      go_wp2
      go_ret
      exact ⟨ret_i (HV _).out.symm, rfl⟩
  · have g0 : decide (0 < r) = true := by simp; omega
    have g1 : decide (5000 < r) = false := by simp; omega
    have g2 : (r == 5000) = false := by simp; omega
    have HV1 : Hid (rndQ q r 1 = q) := Lib.hid (by simp [rndQ, rises])
    have HV2 : Hid (rndQ q r 2 = q + 1) := Lib.hid (by simp [rndQ, rises]; omega)
    have HV3 : Hid (rndQ q r 3 = q) := Lib.hid (by simp [rndQ, rises]; omega)
    have HV4 : Hid (rndQ q r 4 = q) := Lib.hid (by unfold rndQ rises; simp [show ¬ r = 10000 - r by omega, show ¬ 10000 - r < r by omega])
    have HV5 : Hid (rndQ q r 5 = q) := Lib.hid (by unfold rndQ rises; simp [show ¬ r = 10000 - r by omega, show ¬ 10000 - r < r by omega])
    have HV6 : Hid (rndQ q r 6 = q) := Lib.hid (by unfold rndQ rises; simp [show ¬ r = 10000 - r by omega, show ¬ 10000 - r < r by omega])
    clear c hge he h2
    rcases hmm with rfl | rfl | rfl | rfl | rfl | rfl
    all_goals
      go_enter Try.func38, Try.ntmps38
      go_wp2
      go_ret
      first | exact ⟨ret_i HV1.out.symm, rfl⟩ | exact ⟨ret_i HV2.out.symm, rfl⟩ | exact ⟨ret_i HV3.out.symm, rfl⟩ | exact ⟨ret_i HV4.out.symm, rfl⟩ | exact ⟨ret_i HV5.out.symm, rfl⟩ | exact ⟨ret_i HV6.out.symm, rfl⟩
  · have g0 : decide (0 < r) = true := by simp; omega
    have g1 : decide (5000 < r) = false := by simp; omega
    have g2 : (r == 5000) = true := by simp; omega
    have g4 : (q % 2 != 0) = false := by simp; omega
    have g5 : decide (0 < x) = true := by simp; omega
    have HV1 : Hid (rndQ q r 1 = q) := Lib.hid (by simp [rndQ, rises])
    have HV2 : Hid (rndQ q r 2 = q + 1) := Lib.hid (by simp [rndQ, rises]; omega)
    have HV3 : Hid (rndQ q r 3 = q) := Lib.hid (by simp [rndQ, rises]; omega)
    have HV4 : Hid (rndQ q r 4 = q + 1) := Lib.hid (by rw [c.1]; unfold rndQ rises; simp [hq0, show ¬ q < 0 by omega, c.2])
    have HV5 : Hid (rndQ q r 5 = q) := Lib.hid (by rw [c.1]; unfold rndQ rises; simp [hq0, show ¬ q < 0 by omega, c.2])
    have HV6 : Hid (rndQ q r 6 = q) := Lib.hid (by rw [c.1]; unfold rndQ rises; simp [hq0, show ¬ q < 0 by omega, c.2])
    clear c hge he
    rcases hmm with rfl | rfl | rfl | rfl | rfl | rfl
    all_goals
      go_enter Try.func38, Try.ntmps38
      go_wp2
      go_ret
      first | exact ⟨ret_i HV1.out.symm, rfl⟩ | exact ⟨ret_i HV2.out.symm, rfl⟩ | exact ⟨ret_i HV3.out.symm, rfl⟩ | exact ⟨ret_i HV4.out.symm, rfl⟩ | exact ⟨ret_i HV5.out.symm, rfl⟩ | exact ⟨ret_i HV6.out.symm, rfl⟩
  · have g0 : decide (0 < r) = true := by simp; omega
    have g1 : decide (5000 < r) = false := by simp; omega
    have g2 : (r == 5000) = true := by simp; omega
    have g4 : (q % 2 != 0) = true := by simp; omega
    have g5 : decide (0 < x) = true := by simp; omega
    have HV1 : Hid (rndQ q r 1 = q) := Lib.hid (by simp [rndQ, rises])
    have HV2 : Hid (rndQ q r 2 = q + 1) := Lib.hid (by simp [rndQ, rises]; omega)
    have HV3 : Hid (rndQ q r 3 = q) := Lib.hid (by simp [rndQ, rises]; omega)
    have HV4 : Hid (rndQ q r 4 = q + 1) := Lib.hid (by rw [c.1]; unfold rndQ rises; simp [hq0, show ¬ q < 0 by omega, show q % 2 = 1 by omega])
    have HV5 : Hid (rndQ q r 5 = q + 1) := Lib.hid (by rw [c.1]; unfold rndQ rises; simp [hq0, show ¬ q < 0 by omega, show q % 2 = 1 by omega])
    have HV6 : Hid (rndQ q r 6 = q) := Lib.hid (by rw [c.1]; unfold rndQ rises; simp [hq0, show ¬ q < 0 by omega, show q % 2 = 1 by omega])
    clear c hge he
    rcases hmm with rfl | rfl | rfl | rfl | rfl | rfl
    all_goals
      go_enter Try.func38, Try.ntmps38
      go_wp2
      go_ret
      first | exact ⟨ret_i HV1.out.symm, rfl⟩ | exact ⟨ret_i HV2.out.symm, rfl⟩ | exact ⟨ret_i HV3.out.symm, rfl⟩ | exact ⟨ret_i HV4.out.symm, rfl⟩ | exact ⟨ret_i HV5.out.symm, rfl⟩ | exact ⟨ret_i HV6.out.symm, rfl⟩
  · have g0 : decide (0 < r) = true := by simp; omega
    have g1 : decide (5000 < r) = true := by simp; omega
    have g2 : (r == 5000) = false := by simp; omega
    have HV1 : Hid (rndQ q r 1 = q) := Lib.hid (by simp [rndQ, rises])
    have HV2 : Hid (rndQ q r 2 = q + 1) := Lib.hid (by simp [rndQ, rises]; omega)
    have HV3 : Hid (rndQ q r 3 = q) := Lib.hid (by simp [rndQ, rises]; omega)
    have HV4 : Hid (rndQ q r 4 = q + 1) := Lib.hid (by unfold rndQ rises; simp [show ¬ r = 10000 - r by omega, show 10000 - r < r by omega, show 0 < r by omega])
    have HV5 : Hid (rndQ q r 5 = q + 1) := Lib.hid (by unfold rndQ rises; simp [show ¬ r = 10000 - r by omega, show 10000 - r < r by omega, show 0 < r by omega])
    have HV6 : Hid (rndQ q r 6 = q + 1) := Lib.hid (by unfold rndQ rises; simp [show ¬ r = 10000 - r by omega, show 10000 - r < r by omega, show 0 < r by omega])
    clear c hge he h2
    rcases hmm with rfl | rfl | rfl | rfl | rfl | rfl
    all_goals
      go_enter Try.func38, Try.ntmps38
      go_wp2
      go_ret
      first | exact ⟨ret_i HV1.out.symm, rfl⟩ | exact ⟨ret_i HV2.out.symm, rfl⟩ | exact ⟨ret_i HV3.out.symm, rfl⟩ | exact ⟨ret_i HV4.out.symm, rfl⟩ | exact ⟨ret_i HV5.out.symm, rfl⟩ | exact ⟨ret_i HV6.out.symm, rfl⟩

end Go.Proofs.Ytifoapaoamhgcaa
