/- Plain numbers of what is withheld: the limit, a part, a step, a year of steps, and a plan. No program in sight. -/
import Derived.Test.YtffihnbpjcgicaaDoorRight
namespace Go.Proofs.YtffihnbpjcgicaaDoor.Hd
open Go.RowKit

theorem rnd_down (n d : Int) : rnd n d 1 = n / d := by
  unfold rnd rises
  simp
/-- the most that may be withheld -/
def limV (L c : Int) : Int := max c 0 * L / 10000
/-- how much is withheld -/
def partV (need lim : Int) (back : Bool) : Int := if min need lim < 0 ∧ back = false then 0 else min need lim
theorem limV_bd {L c : Int} (h0 : 0 ≤ L) (h1 : L ≤ 10000) (hc : c ≤ 100000000000) : 0 ≤ limV L c ∧ limV L c ≤ 100000000000 ∧ limV L c ≤ max c 0 := by
  unfold limV
  have hm : 0 ≤ max c 0 := by omega
  have hm2 : max c 0 ≤ 100000000000 := by omega
  have a := Int.mul_nonneg hm h0
  have b := Int.mul_le_mul_of_nonneg_left h1 hm
  generalize max c 0 = m at *
  generalize m * L = p at *
  omega
theorem partV_bd {need lim : Int} {back : Bool} (h : 0 ≤ lim) : (0 ≤ need → 0 ≤ partV need lim back ∧ partV need lim back ≤ need) ∧ (need ≤ 0 → need ≤ partV need lim back ∧ partV need lim back ≤ 0) ∧ partV need lim back ≤ lim := by
  unfold partV
  split <;> omega
/-- why a step is refused -/
def stepE (L W S c D : Int) : Int :=
  if (amtB W && amtB S && amtB c && amtB D) = false then 10
  else if rateB L = false then 50
  else if amtB (D - W) = false then 10 else 0
/-- how much a step withholds -/
def stepH (L W c D : Int) (back : Bool) : Int := partV (D - W) (limV L c) back
theorem stepE_ok {L W S c D : Int} (h : stepE L W S c D = 0) : amtB W = true ∧ amtB S = true ∧ amtB c = true ∧ amtB D = true ∧ rateB L = true ∧ amtB (D - W) = true := by
  unfold stepE at h
  split at h
  · omega
  · rename_i h1
    split at h
    · omega
    · rename_i h2
      split at h
      · omega
      · rename_i h3
        simp only [Bool.not_eq_false, Bool.and_eq_true] at h1 h2 h3
        exact ⟨h1.1.1.1, h1.1.1.2, h1.1.2, h1.2, h2, h3⟩
theorem stepE_mk {L W S c D : Int} (h : (amtB W && amtB S && amtB c && amtB D) = true) (hr : rateB L = true) (hn : amtB (D - W) = true) : stepE L W S c D = 0 := by
  unfold stepE; simp [h, hr, hn]
theorem stepE_10 {L W S c D : Int} (h : (amtB W && amtB S && amtB c && amtB D) = false) : stepE L W S c D = 10 := by unfold stepE; rw [if_pos h]
theorem stepE_50 {L W S c D : Int} (h : (amtB W && amtB S && amtB c && amtB D) = true) (hr : rateB L = false) : stepE L W S c D = 50 := by unfold stepE; simp [h, hr]
theorem stepE_n {L W S c D : Int} (h : (amtB W && amtB S && amtB c && amtB D) = true) (hr : rateB L = true) (hn : amtB (D - W) = false) : stepE L W S c D = 10 := by unfold stepE; simp [h, hr, hn]
/-- what a step that is not refused leaves: both amounts may be -/
theorem step_bd {L W S c D : Int} {back : Bool} (h : stepE L W S c D = 0) : (-100000000000 ≤ W + stepH L W c D back ∧ W + stepH L W c D back ≤ 100000000000) ∧ (-100000000000 ≤ D - W - stepH L W c D back ∧ D - W - stepH L W c D back ≤ 100000000000) ∧ (-100000000000 ≤ stepH L W c D back ∧ stepH L W c D back ≤ 100000000000) := by
  obtain ⟨hW, hS, hc, hD, hL, hn⟩ := stepE_ok h
  have a := amtB_yes hW
  have b := amtB_yes hc
  have d := amtB_yes hD
  have e := amtB_yes hn
  have f := rateB_yes hL
  have l := limV_bd f.1 f.2 b.2
  have p := partV_bd (need := D - W) (back := back) l.1
  unfold stepH
  generalize partV (D - W) (limV L c) back = x at *
  generalize limV L c = y at *
  omega

/-- a period: its cash, what is due, and whether something may be paid back -/
structure Py where
  c : Int
  D : Int
  b : Bool
/-- the state behind so many steps -/
def yrS (L : Int) (f : Nat → Py) : Nat → Int × Int
  | 0 => (0, 0)
  | i + 1 => ((yrS L f i).1 + stepH L (yrS L f i).1 (f i).c (f i).D (f i).b, (f i).D - (yrS L f i).1 - stepH L (yrS L f i).1 (f i).c (f i).D (f i).b)
def yrE (L : Int) (f : Nat → Py) (i : Nat) : Int := stepE L (yrS L f i).1 (yrS L f i).2 (f i).c (f i).D
def yrH (L : Int) (f : Nat → Py) (i : Nat) : Int := stepH L (yrS L f i).1 (f i).c (f i).D (f i).b
def yrL (L : Int) (f : Nat → Py) (n : Nat) : List Int := (List.range n).map (yrH L f)
theorem yrL_succ (L : Int) (f : Nat → Py) (n : Nat) : yrL L f (n + 1) = yrL L f n ++ [yrH L f n] := by simp [yrL, List.range_succ]
theorem yrL_len (L : Int) (f : Nat → Py) (n : Nat) : (yrL L f n).length = n := by simp [yrL]
theorem yrL_get (L : Int) (f : Nat → Py) (n i : Nat) (h : i < n) : (yrL L f n)[i]'(by rw [yrL_len]; exact h) = yrH L f i := by simp [yrL]
theorem yrS_succ (L : Int) (f : Nat → Py) (i : Nat) : yrS L f (i + 1) = ((yrS L f i).1 + yrH L f i, (f i).D - (yrS L f i).1 - yrH L f i) := rfl
theorem yrS_bd (L : Int) (f : Nat → Py) (i : Nat) (h : ∀ j, j < i → yrE L f j = 0) : (-100000000000 ≤ (yrS L f i).1 ∧ (yrS L f i).1 ≤ 100000000000) ∧ (-100000000000 ≤ (yrS L f i).2 ∧ (yrS L f i).2 ≤ 100000000000) := by
  cases i with
  | zero => exact ⟨⟨by simp [yrS], by simp [yrS]⟩, by simp [yrS], by simp [yrS]⟩
  | succ i =>
    have := step_bd (back := (f i).b) (h i (by omega))
    exact ⟨this.1, this.2.1⟩
/-- behind a step both are together what is due -/
theorem yrS_due (L : Int) (f : Nat → Py) (i : Nat) : (yrS L f (i + 1)).1 + (yrS L f (i + 1)).2 = (f i).D := by
  rw [yrS_succ]; dsimp only; omega
/-- the sum of what was withheld is what is withheld -/
def sumH (L : Int) (f : Nat → Py) : Nat → Int
  | 0 => 0
  | i + 1 => sumH L f i + yrH L f i
theorem sumH_is (L : Int) (f : Nat → Py) (i : Nat) : sumH L f i = (yrS L f i).1 := by
  induction i with
  | zero => rfl
  | succ i ih => rw [yrS_succ]; show sumH L f i + _ = _; rw [ih]

/-- what is carried behind so many steps of a plan -/
def rcS (S l : Int) : Nat → Int
  | 0 => S
  | i + 1 => rcS S l i - min (rcS S l i) l
theorem rcS_bd {S l : Int} (h : 0 ≤ S) (hl : 0 ≤ l) (i : Nat) : 0 ≤ rcS S l i ∧ rcS S l i ≤ S := by
  induction i with
  | zero => exact ⟨h, Int.le_refl _⟩
  | succ i ih => show 0 ≤ rcS S l i - min (rcS S l i) l ∧ rcS S l i - min (rcS S l i) l ≤ S; omega
theorem rcS_lim {S l : Int} {i : Nat} (h : 0 < rcS S l (i + 1)) : min (rcS S l i) l = l := by
  have : 0 < rcS S l i - min (rcS S l i) l := h
  omega
def rcL (S l : Int) (n : Nat) : List Int := (List.range n).map fun i => min (rcS S l i) l
theorem rcL_succ (S l : Int) (n : Nat) : rcL S l (n + 1) = rcL S l n ++ [min (rcS S l n) l] := by simp [rcL, List.range_succ]
theorem rcL_len (S l : Int) (n : Nat) : (rcL S l n).length = n := by simp [rcL]
theorem rcL_get (S l : Int) (n i : Nat) (h : i < n) : (rcL S l n)[i]'(by rw [rcL_len]; exact h) = min (rcS S l i) l := by simp [rcL]
def rcT (S l : Int) : Nat → Int
  | 0 => 0
  | i + 1 => rcT S l i + min (rcS S l i) l
theorem rcT_is (S l : Int) (i : Nat) : rcT S l i + rcS S l i = S := by
  induction i with
  | zero => show 0 + S = S; omega
  | succ i ih => show rcT S l i + min (rcS S l i) l + (rcS S l i - min (rcS S l i) l) = S; omega
theorem rcS_mono {S l : Int} (hl : 0 ≤ l) {i j : Nat} (h : i ≤ j) : rcS S l j ≤ max (rcS S l i) 0 := by
  obtain ⟨m, rfl⟩ : ∃ m, j = i + m := ⟨j - i, by omega⟩
  induction m with
  | zero => exact Int.le_max_left _ _
  | succ m ih =>
    have := ih (by omega)
    show rcS S l (i + m) - min (rcS S l (i + m)) l ≤ _
    omega
end Go.Proofs.YtffihnbpjcgicaaDoor.Hd
