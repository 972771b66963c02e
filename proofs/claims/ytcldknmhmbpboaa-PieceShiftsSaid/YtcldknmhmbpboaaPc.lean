/- Functions that go by straight pieces, as plain numbers: what they are, where they are cut, what two of them come to. No program in sight. -/
import Derived.IntWalk
import Derived.Calls
namespace Go.Proofs.Ytcldknmhmbpboaa
open Go.RowKit

/-- pieces: how many, from where, the value there, the rate -/
structure Lf where
  n : Nat
  F : Nat → Int
  V : Nat → Int
  R : Nat → Int
namespace Lf
/-- the value at x, as the piece i goes -/
def ln (f : Lf) (i : Nat) (x : Int) : Int := f.V i + (x - f.F i) * f.R i
/-- a piece's last number -/
def lst (f : Lf) (i : Nat) : Int := if i + 1 < f.n then f.F (i + 1) - 1 else 10000000000
theorem lst_in {f : Lf} {i : Nat} (h : i + 1 < f.n) : f.lst i = f.F (i + 1) - 1 := if_pos h
theorem lst_out {f : Lf} {i : Nat} (h : ¬ i + 1 < f.n) : f.lst i = 10000000000 := if_neg h
/-- the last of k pieces that begins no later -/
def ix (f : Lf) (x : Int) : Nat → Nat
  | 0 => 0
  | k + 1 => if f.F k ≤ x then k else f.ix x k
/-- the value at x of the last of k pieces that begins no later -/
def vl (f : Lf) (x : Int) : Nat → Int
  | 0 => 0
  | k + 1 => if f.F k ≤ x then f.ln k x else f.vl x k
def idx (f : Lf) (x : Int) : Nat := f.ix x f.n
def val (f : Lf) (x : Int) : Int := f.vl x f.n
/-- what is wrong with a piece's beginning, order, rate -/
def stP (f : Lf) (i : Nat) : Int := if f.F i < 0 ∨ 10000000000 < f.F i then 1 else if i = 0 ∧ f.F i ≠ 0 then 1 else if 0 < i ∧ f.F i ≤ f.F (i - 1) then 6 else if f.R i < -40000 ∨ 40000 < f.R i then 50 else 0
def stQ (f : Lf) (i : Nat) : Int := if f.V i < -4000000000000000 ∨ 4000000000000000 < f.V i then 10 else if f.ln i (f.lst i) < -4000000000000000 ∨ 4000000000000000 < f.ln i (f.lst i) then 10 else 0
def fst (g : Nat → Int) : Nat → Int
  | 0 => 0
  | k + 1 => if fst g k = 0 then g k else fst g k
theorem fst_stop {g : Nat → Int} {i n : Nat} (hi : i < n) (h0 : fst g i = 0) (hs : g i ≠ 0) : fst g n = g i := by
  obtain ⟨m, rfl⟩ : ∃ m, n = i + 1 + m := ⟨n - i - 1, by omega⟩
  induction m with
  | zero => simp [fst, h0]
  | succ m ih =>
    have := ih (by omega)
    show (if fst g (i + 1 + m) = 0 then _ else fst g (i + 1 + m)) = _
    rw [this, if_neg hs]
theorem fst_succ {g : Nat → Int} {i : Nat} (h0 : fst g i = 0) (hs : g i = 0) : fst g (i + 1) = 0 := by simp [fst, h0, hs]
theorem fst_zero {g : Nat → Int} {n : Nat} (h : fst g n = 0) : ∀ i, i < n → g i = 0 := by
  induction n with
  | zero => intro i hi; omega
  | succ n ih =>
    have h1 : fst g n = 0 := by
      have h' : (if fst g n = 0 then g n else fst g n) = 0 := h
      split at h' <;> simp_all
    have h2 : g n = 0 := by
      have h' : (if fst g n = 0 then g n else fst g n) = 0 := h
      rwa [if_pos h1] at h'
    intro i hi
    by_cases e : i = n
    · subst e; exact h2
    · exact ih h1 i (by omega)
theorem fst_of {g : Nat → Int} {n : Nat} (h : ∀ i, i < n → g i = 0) : fst g n = 0 := by
  induction n with
  | zero => rfl
  | succ n ih => exact fst_succ (ih fun i hi => h i (by omega)) (h n (by omega))
theorem fst_some {g : Nat → Int} {n : Nat} (h : fst g n ≠ 0) : ∃ i, i < n ∧ fst g n = g i ∧ g i ≠ 0 := by
  induction n with
  | zero => exact absurd rfl h
  | succ n ih =>
    have h' : (if fst g n = 0 then g n else fst g n) ≠ 0 := h
    show ∃ i, i < n + 1 ∧ (if fst g n = 0 then g n else fst g n) = g i ∧ g i ≠ 0
    by_cases e : fst g n = 0
    · rw [if_pos e] at h' ⊢
      exact ⟨n, by omega, rfl, h'⟩
    · rw [if_neg e] at h' ⊢
      obtain ⟨i, hi, h1, h2⟩ := ih e
      exact ⟨i, by omega, h1, h2⟩
/-- what is wrong with pieces -/
def chk (f : Lf) : Int := if f.n < 1 ∨ 256 < f.n then 2 else if fst f.stP f.n ≠ 0 then fst f.stP f.n else fst f.stQ f.n
/-- the pieces are in order -/
structure Ord (f : Lf) : Prop where
  n1 : 1 ≤ f.n
  f0 : f.F 0 = 0
  fb : ∀ i, i < f.n → 0 ≤ f.F i ∧ f.F i ≤ 10000000000
  up : ∀ i, i + 1 < f.n → f.F i < f.F (i + 1)
/-- it is a function -/
structure OK (f : Lf) : Prop extends Ord f where
  n2 : f.n ≤ 256
  rb : ∀ i, i < f.n → -40000 ≤ f.R i ∧ f.R i ≤ 40000
  vb : ∀ i, i < f.n → -4000000000000000 ≤ f.V i ∧ f.V i ≤ 4000000000000000
  eb : ∀ i, i < f.n → -4000000000000000 ≤ f.ln i (f.lst i) ∧ f.ln i (f.lst i) ≤ 4000000000000000
theorem stP_zero {f : Lf} {i : Nat} (h : f.stP i = 0) : (0 ≤ f.F i ∧ f.F i ≤ 10000000000) ∧ (i = 0 → f.F i = 0) ∧ (0 < i → f.F (i - 1) < f.F i) ∧ (-40000 ≤ f.R i ∧ f.R i ≤ 40000) := by
  unfold stP at h
  split at h
  · omega
  · split at h
    · omega
    · split at h
      · omega
      · split at h
        · omega
        · refine ⟨by omega, fun e => ?_, fun e => by omega, by omega⟩
          subst e; omega
theorem stQ_zero {f : Lf} {i : Nat} (h : f.stQ i = 0) : (-4000000000000000 ≤ f.V i ∧ f.V i ≤ 4000000000000000) ∧ (-4000000000000000 ≤ f.ln i (f.lst i) ∧ f.ln i (f.lst i) ≤ 4000000000000000) := by
  unfold stQ at h
  split at h
  · omega
  · split at h <;> omega
theorem chk_zero {f : Lf} (h : f.chk = 0) : f.OK := by
  unfold chk at h
  split at h
  · omega
  · rename_i hn
    split at h
    · rename_i hp; exact absurd h hp
    · rename_i hp
      have hp' : fst f.stP f.n = 0 := by
        rcases Int.lt_trichotomy (fst f.stP f.n) 0 with e | e | e
        · exact absurd (fun e' => by omega) hp
        · exact e
        · exact absurd (fun e' => by omega) hp
      have P := fun i hi => stP_zero (fst_zero hp' i hi)
      have Q := fun i hi => stQ_zero (fst_zero h i hi)
      exact { n1 := by omega, f0 := (P 0 (by omega)).2.1 rfl, fb := fun i hi => (P i hi).1, up := fun i hi => by have := (P (i + 1) hi).2.2.1 (by omega); simpa using this
              n2 := by omega, rb := fun i hi => (P i hi).2.2.2, vb := fun i hi => (Q i hi).1, eb := fun i hi => (Q i hi).2 }
theorem Ord.mono {f : Lf} (h : f.Ord) : ∀ {i j : Nat}, i < j → j < f.n → f.F i < f.F j := fun {i j} hij hj => by
  obtain ⟨k, rfl⟩ : ∃ k, j = i + 1 + k := ⟨j - i - 1, by omega⟩
  clear hij
  induction k with
  | zero => exact h.up i hj
  | succ k ih => have := ih (by omega); have := h.up (i + 1 + k) (by omega); simp only [Nat.add_assoc] at *; omega
theorem Ord.lst_bd {f : Lf} (h : f.Ord) {i : Nat} (hi : i < f.n) : f.F i ≤ f.lst i ∧ f.lst i ≤ 10000000000 := by
  unfold lst
  split
  · rename_i h2; have := h.up i h2; have := h.fb (i + 1) h2; omega
  · have := h.fb i hi; omega
/-- the piece of a number is told by its bounds -/
theorem Ord.ix_is {f : Lf} (h : f.Ord) {x : Int} : ∀ {k : Nat}, k ≤ f.n → ∀ {i : Nat}, i < k → f.F i ≤ x → (∀ j, i < j → j < k → x < f.F j) → f.ix x k = i ∧ f.vl x k = f.ln i x
  | 0, _, i, hi, _, _ => by omega
  | k + 1, hk, i, hi, h1, h2 => by
    by_cases e : i = k
    · subst e; exact ⟨if_pos h1, if_pos h1⟩
    · have hx := h2 k (by omega) (by omega)
      have := h.ix_is (x := x) (k := k) (by omega) (i := i) (by omega) h1 fun j a b => h2 j a (by omega)
      exact ⟨(if_neg (by omega)).trans this.1, (if_neg (by omega)).trans this.2⟩
theorem ix_bd {f : Lf} {x : Int} (h0 : f.F 0 ≤ x) : ∀ {k : Nat}, 0 < k → f.ix x k < k ∧ f.F (f.ix x k) ≤ x ∧ ∀ j, f.ix x k < j → j < k → x < f.F j
  | 0, h => absurd h (Nat.lt_irrefl 0)
  | k + 1, _ => by
    by_cases e : f.F k ≤ x
    · rw [show f.ix x (k + 1) = k from if_pos e]; exact ⟨by omega, e, fun j a b => by omega⟩
    · rw [show f.ix x (k + 1) = f.ix x k from if_neg e]
      rcases Nat.eq_zero_or_pos k with rfl | hk
      · exact absurd h0 e
      · obtain ⟨a, b, c⟩ := ix_bd (f := f) h0 hk
        refine ⟨by omega, b, fun j p q => ?_⟩
        by_cases ej : j = k
        · subst ej; omega
        · exact c j p (by omega)
theorem Ord.idx_bd {f : Lf} (h : f.Ord) {x : Int} (h0 : 0 ≤ x) (hT : x ≤ 10000000000) : f.idx x < f.n ∧ f.F (f.idx x) ≤ x ∧ x ≤ f.lst (f.idx x) ∧ f.val x = f.ln (f.idx x) x := by
  obtain ⟨a, b, c⟩ := ix_bd (f := f) (x := x) (by have := h.f0; omega) (k := f.n) (by have := h.n1; omega)
  refine ⟨a, b, ?_, (h.ix_is (Nat.le_refl _) a b c).2⟩
  show x ≤ f.lst (f.ix x f.n)
  unfold lst
  split
  · rename_i hh; have := c (f.ix x f.n + 1) (by omega) hh; omega
  · exact hT
theorem Ord.idx_is {f : Lf} (h : f.Ord) {x : Int} {i : Nat} (hi : i < f.n) (h1 : f.F i ≤ x) (h2 : x ≤ f.lst i) : f.idx x = i ∧ f.val x = f.ln i x :=
  h.ix_is (Nat.le_refl _) hi h1 fun j a b => by
    rw [lst_in (show i + 1 < f.n by omega)] at h2
    by_cases e : j = i + 1
    · subst e; omega
    · have := h.mono (i := i + 1) (j := j) (by omega) b; omega
/-- a value in the piece stays within its ends -/
theorem mul_between {r a b lo hi : Int} (h0 : 0 ≤ a) (hab : a ≤ b) (h1 : lo ≤ b * r) (h2 : b * r ≤ hi) (l0 : lo ≤ 0) (h3 : 0 ≤ hi) : lo ≤ a * r ∧ a * r ≤ hi := by
  rcases Int.le_total 0 r with hr | hr
  · have := Int.mul_le_mul_of_nonneg_right hab hr
    have := Int.mul_nonneg h0 hr
    omega
  · have := Int.mul_le_mul_of_nonpos_right hab hr
    have := Int.mul_nonpos_of_nonneg_of_nonpos h0 hr
    omega
theorem lin_bd {v r a b lo hi : Int} (h0 : 0 ≤ a) (hab : a ≤ b) (v1 : lo ≤ v) (v2 : v ≤ hi) (h1 : lo ≤ v + b * r) (h2 : v + b * r ≤ hi) : lo ≤ v + a * r ∧ v + a * r ≤ hi := by
  rcases Int.le_total 0 r with hr | hr
  · have := Int.mul_le_mul_of_nonneg_right hab hr
    have := Int.mul_nonneg h0 hr
    omega
  · have := Int.mul_le_mul_of_nonpos_right hab hr
    have := Int.mul_nonpos_of_nonneg_of_nonpos h0 hr
    omega
theorem OK.ln_bd {f : Lf} (h : f.OK) {i : Nat} (hi : i < f.n) {x : Int} (h1 : f.F i ≤ x) (h2 : x ≤ f.lst i) : -4000000000000000 ≤ f.ln i x ∧ f.ln i x ≤ 4000000000000000 := by
  have v := h.vb i hi
  have e := h.eb i hi
  exact lin_bd (a := x - f.F i) (b := f.lst i - f.F i) (by omega) (by omega) v.1 v.2 e.1 e.2
theorem OK.val_bd {f : Lf} (h : f.OK) {x : Int} (h0 : 0 ≤ x) (hT : x ≤ 10000000000) : -4000000000000000 ≤ f.val x ∧ f.val x ≤ 4000000000000000 := by
  obtain ⟨a, b, c, d⟩ := h.toOrd.idx_bd h0 hT
  rw [d]; exact h.ln_bd a b c
/-- a product of a stretch and a rate is small -/
theorem prod_bd {d r : Int} (h1 : -10000000000 ≤ d) (h2 : d ≤ 10000000000) (r1 : -80000 ≤ r) (r2 : r ≤ 80000) : -800000000000000 ≤ d * r ∧ d * r ≤ 800000000000000 := by
  rcases Int.le_total 0 d with hd | hd
  · have a := Int.mul_le_mul_of_nonneg_left r2 hd
    have b := Int.mul_le_mul_of_nonneg_left r1 hd
    omega
  · have a := Int.mul_le_mul_of_nonpos_left hd r2
    have b := Int.mul_le_mul_of_nonpos_left hd r1
    omega
end Lf
end Go.Proofs.Ytcldknmhmbpboaa
