/- Plain facts of choices: the worst one keeps least. -/
import Derived.Test.YtoppipjbdakmeaaTabS
namespace Go.Proofs.Ytoppipjbdakmeaa
open Go.RowKit
set_option linter.unusedVariables false
set_option linter.unusedSimpArgs false

theorem numbB_mk {n m : Int} (h : 0 ≤ n) (h' : n < m) : numbB n m = true := by simp [numbB, h, h']
theorem rate_worst {T : TB} (h : T.chk = 0) : rateV T (allW T.S T.L T.nS).1 (allW T.S T.L T.nS).2.1 = ((allW T.S T.L T.nS).2.2, 0) := by
  rcases allW_is T.S T.L T.nS with e | ⟨i, j, hi, hj, e⟩
  · rw [e]; rfl
  · rw [e]
    unfold rateV
    have h1 : limB (i : Int) (j : Int) = false := by
      unfold limB
      rw [decide_eq_false (by omega)]; rfl
    have h2 : numbB (i : Int) T.nS = true := numbB_mk (by omega) (by omega)
    have h3 : numbB (j : Int) (T.S (i : Int).toNat).n = true := by rw [Int.toNat_natCast]; exact numbB_mk (by omega) (by omega)
    show (if limB (i : Int) (j : Int) = true then _ else if numbB (i : Int) T.nS = false then _ else if numbB (j : Int) (T.S (i : Int).toNat).n = false then _ else _) = _
    rw [h1, h2, h3]
    simp
theorem all_steep {C : Nat → CB} (n : Nat) (h : GoodC C n) : allN C (fun i => (steep (C i).b.R (C i).b.n : Nat)) n = true ∧ sumR C (fun i => (steep (C i).b.R (C i).b.n : Nat)) n = takeC C n := by
  induction n with
  | zero => exact ⟨rfl, rfl⟩
  | succ n ih =>
    obtain ⟨a, b⟩ := ih fun i hi => h i (by omega)
    have := steep_lt (C n).b.R (h n (by omega)).1
    constructor
    · show (allN C _ n && numbB _ _) = true
      rw [a, numbB_mk (by dsimp only; omega) (by dsimp only; omega)]; rfl
    · show sumR C _ n + _ = takeC C n + _
      rw [b]
      show _ + (C n).b.R ((steep (C n).b.R (C n).b.n : Nat) : Int).toNat = _
      rw [Int.toNat_natCast]
theorem kept_worst {T : TB} (h : T.chk = 0) : keptV T (allW T.S T.L T.nS).1 (allW T.S T.L T.nS).2.1 (fun i => (steep (T.C i).b.R (T.C i).b.n : Nat)) T.nC = (keptW T, 0) := by
  obtain ⟨a, b⟩ := all_steep T.nC (good_of (tok_of h))
  unfold keptV
  rw [if_pos h, rate_worst h, a, b]
  simp [keptW]
theorem sum_top {C : Nat → CB} {f : Nat → Int} (n : Nat) (h : GoodC C n) (ha : allN C f n = true) : sumR C f n ≤ takeC C n := by
  induction n with
  | zero => exact Int.le_refl _
  | succ n ih =>
    have ha' : (allN C f n && numbB (f n) (C n).b.n) = true := ha
    rw [Bool.and_eq_true] at ha'
    have a := ih (fun i hi => h i (by omega)) ha'.1
    have b := numbB_yes ha'.2
    have c := steep_top (C n).b.R (n := (C n).b.n) (f n).toNat (by omega)
    show sumR C f n + _ ≤ takeC C n + _
    omega
theorem kept_least {T : TB} (h : T.chk = 0) {s b : Int} {f : Nat → Int} (hr : (rateV T s b).2 = 0) (ha : allN T.C f T.nC = true) : keptW T ≤ 10000 - (rateV T s b).1 - sumR T.C f T.nC := by
  have a := sum_top T.nC (good_of (tok_of h)) ha
  have r : (rateV T s b).1 ≤ (allW T.S T.L T.nS).2.2 := by
    unfold rateV at hr ⊢
    split
    · exact allW_limit _ _ _
    · split
      · rename_i h1 h2
        rw [if_neg h1, if_pos h2] at hr
        exact absurd hr (by decide)
      · split
        · rename_i h1 h2 h3
          rw [if_neg h1, if_neg h2, if_pos h3] at hr
          exact absurd hr (by decide)
        · rename_i h1 h2 h3
          have x := numbB_yes (by simpa using h2)
          have y := numbB_yes (by simpa using h3)
          exact allW_top _ _ _ _ _ (by omega) (by omega)
  unfold keptW
  omega
theorem keptV_ok {T : TB} (h : T.chk = 0) {s b rv re : Int} (hr : rateV T s b = (rv, re)) (f : Nat → Int) (m : Nat) :
    keptV T s b f m = if re = 0 then (if m = T.nC then (if allN T.C f m = true then (10000 - rv - sumR T.C f m, 0) else (0, 3)) else (0, 3)) else (0, re) := by
  unfold keptV
  rw [if_pos h, hr]
end Go.Proofs.Ytoppipjbdakmeaa
