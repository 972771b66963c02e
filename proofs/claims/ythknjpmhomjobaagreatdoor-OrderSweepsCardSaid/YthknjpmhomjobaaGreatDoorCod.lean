/- Tax codes: which may be, and what they free: no program in sight. -/
import Derived.Test.YthknjpmhomjobaaGreatDoorPlain
namespace Go.Proofs.YthknjpmhomjobaaGreatDoor
open Go.RowKit
set_option linter.unusedVariables false

/-- may a code's number count an amount? -/
def cntB (a : Int) : Bool := decide (0 ≤ a ∧ a ≤ 999999000 ∧ a % 1000 = 0)
theorem cntB_yes {a : Int} (h : cntB a = true) : 0 ≤ a ∧ a ≤ 999999000 ∧ a % 1000 = 0 := by simpa [cntB] using h
theorem cntB_mk {a : Int} (h : 0 ≤ a) (h1 : a ≤ 999999000) (h2 : a % 1000 = 0) : cntB a = true := by simp [cntB, h, h1, h2]
/-- is there such a kind, and has it such an amount and such a band? -/
def fitB (k a f : Int) : Bool :=
  if k = 1 then cntB a && decide (f = 0)
  else if k = 2 then cntB a && decide (0 < a) && decide (f = 0)
  else if k = 3 then decide (a = 0) && decide (0 ≤ f) && decide (f ≤ 7)
  else if k = 4 then decide (a = 0) && decide (f = 0)
  else false
/-- may a code be, and why not? -/
def chkC (s k a f : Int) : Int := if s < 0 ∨ 7 < s then 81 else if fitB k a f = true then 0 else 80
theorem chkC_ok {s k a f : Int} (h0 : 0 ≤ s) (h7 : s ≤ 7) (h : fitB k a f = true) : chkC s k a f = 0 := by
  unfold chkC; rw [if_neg (by omega), if_pos h]
theorem chkC_zero {s k a f : Int} (h : chkC s k a f = 0) : 0 ≤ s ∧ s ≤ 7 ∧ fitB k a f = true := by
  unfold chkC at h
  split at h
  · omega
  · split at h
    · exact ⟨by omega, by omega, by assumption⟩
    · omega
theorem chkC_cases (s k a f : Int) : chkC s k a f = 0 ∨ chkC s k a f = 80 ∨ chkC s k a f = 81 := by
  unfold chkC; split
  · exact .inr (.inr rfl)
  · split
    · exact .inl rfl
    · exact .inr (.inl rfl)
/-- of a code that may be: its amount and its band -/
theorem fitB_yes {k a f : Int} (h : fitB k a f = true) : (k = 1 ∧ 0 ≤ a ∧ a ≤ 999999000 ∧ a % 1000 = 0 ∧ f = 0) ∨ (k = 2 ∧ 0 < a ∧ a ≤ 999999000 ∧ a % 1000 = 0 ∧ f = 0) ∨ (k = 3 ∧ a = 0 ∧ 0 ≤ f ∧ f ≤ 7) ∨ (k = 4 ∧ a = 0 ∧ f = 0) := by
  unfold fitB at h
  split at h
  · rename_i e
    simp only [Bool.and_eq_true, decide_eq_true_eq] at h
    have := cntB_yes h.1
    exact .inl ⟨e, by omega, by omega, by omega, h.2⟩
  · split at h
    · rename_i e
      simp only [Bool.and_eq_true, decide_eq_true_eq] at h
      have := cntB_yes h.1.1
      exact .inr (.inl ⟨e, by omega, by omega, by omega, h.2⟩)
    · split at h
      · rename_i e
        simp only [Bool.and_eq_true, decide_eq_true_eq] at h
        exact .inr (.inr (.inl ⟨e, by omega, by omega, by omega⟩))
      · split at h
        · rename_i e
          simp only [Bool.and_eq_true, decide_eq_true_eq] at h
          exact .inr (.inr (.inr ⟨e, by omega, by omega⟩))
        · cases h
theorem fitB_bd {k a f : Int} (h : fitB k a f = true) : 1 ≤ k ∧ k ≤ 4 ∧ 0 ≤ a ∧ a ≤ 999999000 ∧ a % 1000 = 0 ∧ 0 ≤ f ∧ f ≤ 7 := by
  rcases fitB_yes h with h | h | h | h <;> omega
/-- how much is free, and why nothing is told -/
def freeV (s k a f n d : Int) : Int × Int :=
  if chkC s k a f ≠ 0 then (0, chkC s k a f)
  else if n < 0 ∨ d < n ∨ d < 1 ∨ 1048576 < d then (0, 1)
  else (if k = 2 then -(a * n / d) else a * n / d, 0)
theorem freeV_bad {s k a f n d : Int} (h : chkC s k a f ≠ 0) : freeV s k a f n d = (0, chkC s k a f) := by unfold freeV; rw [if_pos h]
theorem freeV_range {s k a f n d : Int} (h : chkC s k a f = 0) (h2 : n < 0 ∨ d < n ∨ d < 1 ∨ 1048576 < d) : freeV s k a f n d = (0, 1) := by unfold freeV; rw [if_neg (by omega), if_pos h2]
theorem freeV_ok {s k a f n d : Int} (h : chkC s k a f = 0) (h1 : 0 ≤ n) (h2 : n ≤ d) (h3 : 1 ≤ d) (h4 : d ≤ 1048576) : freeV s k a f n d = (if k = 2 then -(a * n / d) else a * n / d, 0) := by unfold freeV; rw [if_neg (by omega), if_neg (by omega)]
/-- a part of an amount is between nothing and the amount -/
theorem part_bd {a n d : Int} (ha : 0 ≤ a) (h1 : 0 ≤ n) (h2 : n ≤ d) (h3 : 1 ≤ d) : 0 ≤ a * n / d ∧ a * n / d ≤ a := by
  have h := Int.mul_nonneg ha h1
  refine ⟨Int.ediv_nonneg h (by omega), ?_⟩
  have := Int.mul_le_mul_of_nonneg_left h2 ha
  exact Int.ediv_le_of_le_mul (by omega) this
/-- how much is taxed, and why nothing is told -/
def chargeV (s k a f x n d : Int) : Int × Int :=
  if (freeV s k a f n d).2 ≠ 0 then (0, (freeV s k a f n d).2)
  else if amtB x = false then (0, 10)
  else if k = 4 then (0, 0)
  else if amtB (x - (freeV s k a f n d).1) = false then (0, 10)
  else (max (x - (freeV s k a f n d).1) 0, 0)
end Go.Proofs.YthknjpmhomjobaaGreatDoor
