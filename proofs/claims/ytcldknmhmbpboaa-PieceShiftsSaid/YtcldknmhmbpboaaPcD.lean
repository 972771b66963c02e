/- Functions that are shifted, that fall, that reach a value, as plain numbers. -/
import Derived.Test.YtcldknmhmbpboaaPcC
namespace Go.Proofs.Ytcldknmhmbpboaa
open Go.RowKit
set_option linter.unusedVariables false
namespace Lf
/-- the value, where the last piece goes on -/
def ext (f : Lf) (y : Int) : Int := if y ≤ 10000000000 then f.val y else f.ln (f.n - 1) y
/-- a piece, shifted -/
def shF (f : Lf) (by_ : Int) (i : Nat) : Int := max (f.F i) by_ - by_
def shV (f : Lf) (by_ : Int) (i : Nat) : Int := f.ln i (max (f.F i) by_)
/-- the first k pieces from the one of `by_` on, shifted -/
def sh (f : Lf) (by_ : Int) : Nat → Lf
  | 0 => emp
  | k + 1 => (f.sh by_ k).thn (f.shF by_ (f.idx by_ + k)) (f.shV by_ (f.idx by_ + k)) (f.R (f.idx by_ + k))
def shE (f : Lf) (by_ : Int) (k : Nat) : Int := if f.idx by_ + k < f.n then f.shF by_ (f.idx by_ + k) else 10000000001
theorem Ord.sh_rep {f : Lf} (hf : f.Ord) {t : Int} (h0 : 0 ≤ t) (hT : t ≤ 10000000000) : ∀ k, f.idx t + k ≤ f.n → Rep (f.sh t k) (f.shE t k) fun x => f.ext (x + t)
  | 0, _ => by
    obtain ⟨a, b, c, d⟩ := hf.idx_bd h0 hT
    have : f.shE t 0 = 0 := by
      unfold shE shF
      rw [Nat.add_zero, if_pos a]; omega
    rw [this]; exact rep_emp _
  | k + 1, hk => by
    have ih := hf.sh_rep h0 hT k (by omega)
    obtain ⟨a, b, c, d⟩ := hf.idx_bd h0 hT
    have e1 : f.shE t k = f.shF t (f.idx t + k) := if_pos (by omega)
    rw [e1] at ih
    have hF : ∀ j, 0 < j → f.idx t + j < f.n → t < f.F (f.idx t + j) := fun j hj hn => by
      rw [lst_in (show f.idx t + 1 < f.n by omega)] at c
      by_cases e : j = 1
      · subst e; omega
      · have := hf.mono (i := f.idx t + 1) (j := f.idx t + j) (by omega) hn; omega
    have m1 : f.F (f.idx t + k) ≤ max (f.F (f.idx t + k)) t := by omega
    refine ih.thn (by unfold shF; omega) ?_ fun x p q => ?_
    · unfold shE
      split
      · rename_i hn
        have := hF (k + 1) (by omega) hn
        have u := hf.up (f.idx t + k) (by omega)
        rw [show f.idx t + k + 1 = f.idx t + (k + 1) by omega] at u
        unfold shF; omega
      · have := (hf.fb (f.idx t + k) (by omega)).2
        unfold shF; omega
    · unfold shF at p
      have hy : f.ln (f.idx t + k) (x + t) = f.shV t (f.idx t + k) + (x - f.shF t (f.idx t + k)) * f.R (f.idx t + k) := by
        rw [ln_from f (f.idx t + k) (max (f.F (f.idx t + k)) t) (x + t)]
        unfold shV shF
        congr 2; omega
      rw [← hy]
      unfold ext
      by_cases hn : f.idx t + (k + 1) < f.n
      · have e2 : f.shE t (k + 1) = f.shF t (f.idx t + (k + 1)) := if_pos hn
        have := hF (k + 1) (by omega) hn
        rw [e2] at q
        unfold shF at q
        have hb := (hf.fb _ hn).2
        rw [if_pos (by omega)]
        exact (hf.idx_is (i := f.idx t + k) (by omega) (by omega) (by rw [lst_in (by omega), show f.idx t + k + 1 = f.idx t + (k + 1) by omega]; omega)).2.symm
      · have e3 : f.idx t + k = f.n - 1 := by omega
        split
        · rename_i hle
          exact (hf.idx_is (i := f.idx t + k) (by omega) (by omega) (by rw [lst_out (by omega)]; exact hle)).2.symm
        · rw [e3]
theorem Ord.sh_end {f : Lf} (hf : f.Ord) {t : Int} (h0 : 0 ≤ t) (hT : t ≤ 10000000000) {k : Nat} (hk : f.idx t + k = f.n) : Rep (f.sh t k) 10000000001 fun x => f.ext (x + t) := by
  have := hf.sh_rep h0 hT k (by omega)
  unfold shE at this
  rwa [if_neg (by omega)] at this
theorem sh_n (f : Lf) (t : Int) : ∀ k, (f.sh t k).n ≤ k
  | 0 => Nat.le_refl _
  | k + 1 => Nat.le_trans (thn_n _ _ _ _) (by have := sh_n f t k; omega)
theorem sh_R {f : Lf} {t : Int} {p : Int → Prop} (h : ∀ i, i < f.n → p (f.R i)) : ∀ k, f.idx t + k ≤ f.n → ∀ i, i < (f.sh t k).n → p ((f.sh t k).R i)
  | 0, _ => fun i hi => absurd hi (Nat.not_lt_zero i)
  | k + 1, hk => thn_R (sh_R h k (by omega)) (h _ (by omega))
/-- does it fall at a piece? -/
def falP (f : Lf) (i : Nat) : Prop := (f.R i < 0 ∧ f.F i < f.lst i) ∨ (0 < i ∧ f.V i < f.ln (i - 1) (f.F i - 1))
instance (f : Lf) (i : Nat) : Decidable (f.falP i) := by unfold falP; infer_instance
/-- does one of the first k fall? -/
def falB (f : Lf) : Nat → Bool
  | 0 => false
  | k + 1 => falB f k || decide (f.falP k)
theorem fal_stop {f : Lf} {i n : Nat} (hi : i < n) (h : f.falP i) : f.falB n = true := by
  induction n with
  | zero => omega
  | succ n ih =>
    show (f.falB n || decide (f.falP n)) = true
    by_cases e : i = n
    · subst e; simp [h]
    · rw [ih (by omega)]; rfl
theorem fal_succ {f : Lf} {i : Nat} (h0 : f.falB i = false) (h : ¬ f.falP i) : f.falB (i + 1) = false := by
  show (f.falB i || decide (f.falP i)) = false
  simp [h0, h]
/-- is the value reached in a piece? -/
def rcP (f : Lf) (y : Int) (i : Nat) : Prop := y ≤ f.V i ∨ y ≤ f.ln i (f.lst i)
/-- the number at which it is reached -/
def rcX (f : Lf) (y : Int) (i : Nat) : Int := if y ≤ f.V i then f.F i else f.F i + (y - f.V i + f.R i - 1) / f.R i
theorem rc_rate {f : Lf} (hf : f.Ord) {y : Int} {i : Nat} (hi : i < f.n) (h1 : ¬ y ≤ f.V i) (h2 : y ≤ f.ln i (f.lst i)) : 0 < f.R i := by
  have b := hf.lst_bd hi
  rcases Int.lt_or_le 0 (f.R i) with h | h
  · exact h
  · have := Int.mul_nonpos_of_nonneg_of_nonpos (show 0 ≤ f.lst i - f.F i by omega) h
    unfold ln at h2; omega
theorem rc_ok {f : Lf} (hf : f.Ord) {y : Int} {i : Nat} (hi : i < f.n) (h0 : ∀ j, j < i → ¬ f.rcP y j) (h : f.rcP y i) :
    0 ≤ f.rcX y i ∧ f.rcX y i ≤ 10000000000 ∧ y ≤ f.val (f.rcX y i) ∧ (f.rcX y i = 0 ∨ (0 ≤ f.rcX y i - 1 ∧ f.val (f.rcX y i - 1) < y)) := by
  have b := hf.lst_bd hi
  have fb := hf.fb i hi
  by_cases h1 : y ≤ f.V i
  · rw [show f.rcX y i = f.F i from if_pos h1]
    have p := hf.idx_is hi (Int.le_refl _) b.1
    rw [p.2, ln_self]
    refine ⟨by omega, by omega, h1, ?_⟩
    rcases Nat.eq_zero_or_pos i with rfl | hpos
    · exact .inl hf.f0
    · right
      have hl := hf.lst_bd (i := i - 1) (by omega)
      have hq := hf.idx_is (i := i - 1) (x := f.lst (i - 1)) (by omega) hl.1 (Int.le_refl _)
      have hn := h0 (i - 1) (by omega)
      unfold rcP at hn
      rw [← hq.2] at hn
      have e : f.lst (i - 1) = f.F i - 1 := by rw [lst_in (by omega), show i - 1 + 1 = i by omega]
      rw [e] at hn hl
      have := (hf.fb (i - 1) (by omega)).1
      omega
  · have h2 : y ≤ f.ln i (f.lst i) := by
      rcases h with h | h
      · exact absurd h h1
      · exact h
    have r0 := rc_rate hf hi h1 h2
    rw [show f.rcX y i = f.F i + (y - f.V i + f.R i - 1) / f.R i from if_neg h1]
    unfold ln at h2
    have d1 := Int.mul_ediv_add_emod (y - f.V i + f.R i - 1) (f.R i)
    have d2 := Int.emod_nonneg (y - f.V i + f.R i - 1) (show f.R i ≠ 0 by omega)
    have d3 := Int.emod_lt_of_pos (y - f.V i + f.R i - 1) r0
    have q1 : 1 ≤ (y - f.V i + f.R i - 1) / f.R i := by
      rw [Int.le_ediv_iff_mul_le r0]; omega
    generalize (y - f.V i + f.R i - 1) / f.R i = q at *
    have hq : q * f.R i = f.R i * q := Int.mul_comm _ _
    have hle : q ≤ f.lst i - f.F i := by
      rcases Int.lt_or_le (f.lst i - f.F i) q with hh | hh
      · have := Int.mul_le_mul_of_nonneg_right (show f.lst i - f.F i ≤ q - 1 by omega) (show 0 ≤ f.R i by omega)
        rw [Int.sub_mul q 1] at this
        omega
      · exact hh
    have p1 := hf.idx_is (x := f.F i + q) hi (by omega) (by omega)
    have p2 := hf.idx_is (x := f.F i + q - 1) hi (by omega) (by omega)
    refine ⟨by omega, by omega, ?_, .inr ⟨by omega, ?_⟩⟩
    · rw [p1.2]; unfold ln
      rw [show f.F i + q - f.F i = q by omega]; omega
    · rw [p2.2]; unfold ln
      rw [show f.F i + q - 1 - f.F i = q - 1 by omega, Int.sub_mul]; omega
theorem rc_none {f : Lf} (hf : f.Ord) {y : Int} (h0 : ∀ j, j < f.n → ¬ f.rcP y j) : f.val 10000000000 < y := by
  have n1 := hf.n1
  have hl := hf.lst_bd (i := f.n - 1) (by omega)
  have hq := hf.idx_is (i := f.n - 1) (x := f.lst (f.n - 1)) (by omega) hl.1 (Int.le_refl _)
  have e : f.lst (f.n - 1) = 10000000000 := lst_out (by omega)
  have hn := h0 (f.n - 1) (by omega)
  unfold rcP at hn
  rw [← hq.2, e] at hn
  omega
end Lf
end Go.Proofs.Ytcldknmhmbpboaa
