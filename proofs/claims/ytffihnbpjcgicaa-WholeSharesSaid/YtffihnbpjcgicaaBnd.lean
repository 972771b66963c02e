/- Plain facts about bands: which may be, and what an amount comes to by them, told in three ways: no program in sight. -/
import Derived.Test.YtffihnbpjcgicaaPlain
namespace Go.Proofs.Ytffihnbpjcgicaa

/-- what is wrong with the band of a number, if those ahead of it may be: an error's number, or 0 -/
def stepC (F R E : Nat → Int) (i : Nat) : Int :=
  if F i < 0 ∨ 100000000000 < F i ∨ (i = 0 ∧ 0 < F i) then 1 else if 0 < i ∧ F i ≤ F (i - 1) then 6 else if rateB (R i) && rateB (E i) then 0 else 50
def scanC (F R E : Nat → Int) : Nat → Int
  | 0 => 0
  | k + 1 => if scanC F R E k = 0 then stepC F R E k else scanC F R E k
/-- what is wrong with n bands -/
def chk (F R E : Nat → Int) (n : Nat) : Int := if n < 1 ∨ 8 < n then 2 else scanC F R E n
/-- the bands' beginnings rise, from 0 on -/
def Inc (F : Nat → Int) (n : Nat) : Prop := F 0 = 0 ∧ ∀ i, 0 < i → i < n → F (i - 1) < F i
def Fit (F : Nat → Int) (n : Nat) : Prop := ∀ i, i < n → 0 ≤ F i ∧ F i ≤ 100000000000
def Rts (R : Nat → Int) (n : Nat) : Prop := ∀ i, i < n → 0 ≤ R i ∧ R i ≤ 10000
/-- n bands that may be -/
def Okb (F R E : Nat → Int) (n : Nat) : Prop := 1 ≤ n ∧ n ≤ 8 ∧ Inc F n ∧ Fit F n ∧ Rts R n ∧ Rts E n

theorem scan_stop {F R E : Nat → Int} {i n : Nat} (hi : i < n) (h0 : scanC F R E i = 0) (hs : stepC F R E i ≠ 0) : scanC F R E n = stepC F R E i := by
  obtain ⟨m, rfl⟩ : ∃ m, n = i + 1 + m := ⟨n - i - 1, by omega⟩
  induction m with
  | zero => simp [scanC, h0]
  | succ m ih =>
    have := ih (by omega)
    show (if scanC F R E (i + 1 + m) = 0 then _ else scanC F R E (i + 1 + m)) = _
    rw [this, if_neg hs]
theorem scan_succ {F R E : Nat → Int} {i : Nat} (h0 : scanC F R E i = 0) (hs : stepC F R E i = 0) : scanC F R E (i + 1) = 0 := by
  simp [scanC, h0, hs]
theorem scan_zero {F R E : Nat → Int} {n : Nat} (h : scanC F R E n = 0) : ∀ i, i < n → stepC F R E i = 0 := by
  induction n with
  | zero => intro i hi; omega
  | succ n ih =>
    have h1 : scanC F R E n = 0 := by
      have h' : (if scanC F R E n = 0 then stepC F R E n else scanC F R E n) = 0 := h
      split at h' <;> simp_all
    have h2 : stepC F R E n = 0 := by
      have h' : (if scanC F R E n = 0 then stepC F R E n else scanC F R E n) = 0 := h
      rwa [if_pos h1] at h'
    intro i hi
    by_cases e : i = n
    · subst e; exact h2
    · exact ih h1 i (by omega)
theorem step_ok {F R E : Nat → Int} {i : Nat} (h : stepC F R E i = 0) :
    0 ≤ F i ∧ F i ≤ 100000000000 ∧ (i = 0 → F i = 0) ∧ (0 < i → F (i - 1) < F i) ∧ (0 ≤ R i ∧ R i ≤ 10000) ∧ (0 ≤ E i ∧ E i ≤ 10000) := by
  unfold stepC at h
  split at h
  · omega
  · split at h
    · omega
    · split at h
      · rename_i h1 h2 h3
        rw [Bool.and_eq_true] at h3
        exact ⟨by omega, by omega, by omega, by omega, rateB_yes h3.1, rateB_yes h3.2⟩
      · omega
theorem step_mk {F R E : Nat → Int} {i : Nat} (h : 0 ≤ F i ∧ F i ≤ 100000000000 ∧ (i = 0 → F i = 0) ∧ (0 < i → F (i - 1) < F i) ∧ (0 ≤ R i ∧ R i ≤ 10000) ∧ (0 ≤ E i ∧ E i ≤ 10000)) : stepC F R E i = 0 := by
  obtain ⟨h1, h2, h3, h4, h5, h6⟩ := h
  unfold stepC
  rw [if_neg (by omega), if_neg (by omega), rateB_mk h5.1 h5.2, rateB_mk h6.1 h6.2]
  rfl
theorem okb_of {F R E : Nat → Int} {n : Nat} (h : chk F R E n = 0) : Okb F R E n := by
  unfold chk at h
  split at h
  · omega
  · rename_i hn
    have hs := scan_zero h
    exact ⟨by omega, by omega, ⟨(step_ok (hs 0 (by omega))).2.2.1 rfl, fun i h0 hi => (step_ok (hs i hi)).2.2.2.1 h0⟩,
      fun i hi => ⟨(step_ok (hs i hi)).1, (step_ok (hs i hi)).2.1⟩, fun i hi => (step_ok (hs i hi)).2.2.2.2.1, fun i hi => (step_ok (hs i hi)).2.2.2.2.2⟩
theorem scan_of {F R E : Nat → Int} {n : Nat} (h : ∀ i, i < n → stepC F R E i = 0) : scanC F R E n = 0 := by
  induction n with
  | zero => rfl
  | succ n ih => exact scan_succ (ih fun i hi => h i (by omega)) (h n (by omega))
theorem chk_of {F R E : Nat → Int} {n : Nat} (h : Okb F R E n) : chk F R E n = 0 := by
  obtain ⟨h1, h2, h3, h4, h5, h6⟩ := h
  unfold chk
  rw [if_neg (by omega)]
  exact scan_of fun i hi => step_mk ⟨(h4 i hi).1, (h4 i hi).2, fun e => by rw [e]; exact h3.1, fun h0 => h3.2 i h0 hi, h5 i hi, h6 i hi⟩
theorem step_cases (F R E : Nat → Int) (i : Nat) : stepC F R E i = 0 ∨ stepC F R E i = 1 ∨ stepC F R E i = 6 ∨ stepC F R E i = 50 := by
  unfold stepC
  repeat' split
  all_goals omega
theorem scan_cases (F R E : Nat → Int) (n : Nat) : scanC F R E n = 0 ∨ scanC F R E n = 1 ∨ scanC F R E n = 6 ∨ scanC F R E n = 50 := by
  induction n with
  | zero => exact .inl rfl
  | succ n ih =>
    simp only [scanC]
    split
    · exact step_cases F R E n
    · exact ih
theorem chk_cases (F R E : Nat → Int) (n : Nat) : chk F R E n = 0 ∨ chk F R E n = 1 ∨ chk F R E n = 2 ∨ chk F R E n = 6 ∨ chk F R E n = 50 := by
  unfold chk
  split
  · omega
  · have := scan_cases F R E n
    omega

theorem inc_lt {F : Nat → Int} {n : Nat} (h : Inc F n) : ∀ {i j : Nat}, i < j → j < n → F i < F j := by
  intro i j
  induction j with
  | zero => omega
  | succ j ih =>
    intro hi hj
    have h1 := h.2 (j + 1) (by omega) hj
    have e : j + 1 - 1 = j := by omega
    rw [e] at h1
    by_cases hh : i = j
    · subst hh; exact h1
    · have := ih (by omega) (by omega); omega
theorem inc_le {F : Nat → Int} {n : Nat} (h : Inc F n) {i j : Nat} (hi : i ≤ j) (hj : j < n) : F i ≤ F j := by
  by_cases e : i = j
  · subst e; omega
  · have := inc_lt h (i := i) (j := j) (by omega) hj; omega

/-- the number of the last one of n bands that begins below x; 0, if there is none -/
def fnd (F : Nat → Int) (x : Int) : Nat → Nat
  | 0 => 0
  | k + 1 => if 0 < k ∧ F k < x then k else fnd F x k
theorem fnd_lt (F : Nat → Int) (x : Int) {n : Nat} (h : 0 < n) : fnd F x n < n := by
  induction n with
  | zero => omega
  | succ n ih =>
    unfold fnd
    split
    · omega
    · by_cases e : n = 0
      · subst e; simp [fnd]
      · have := ih (by omega); omega
theorem fnd_at (F : Nat → Int) (x : Int) (n : Nat) : fnd F x n = 0 ∨ F (fnd F x n) < x := by
  induction n with
  | zero => exact .inl rfl
  | succ n ih =>
    unfold fnd
    split
    · rename_i h; exact .inr h.2
    · exact ih
theorem fnd_above (F : Nat → Int) (x : Int) (n : Nat) : ∀ i, fnd F x n < i → i < n → x ≤ F i := by
  induction n with
  | zero => intro i _ h; omega
  | succ n ih =>
    intro i h1 h2
    unfold fnd at h1
    split at h1
    · omega
    · rename_i h
      by_cases e : i = n
      · subst e
        rcases Int.lt_or_le (F i) x with hx | hx
        · exact absurd ⟨by omega, hx⟩ h
        · exact hx
      · exact ih i h1 (by omega)
theorem fnd_stay {F : Nat → Int} {x : Int} {k n : Nat} (hk : k ≤ n) (h : ∀ i, k ≤ i → i < n → ¬ (0 < i ∧ F i < x)) : fnd F x n = fnd F x k := by
  obtain ⟨m, rfl⟩ : ∃ m, n = k + m := ⟨n - k, by omega⟩
  induction m with
  | zero => rfl
  | succ m ih =>
    show (if 0 < k + m ∧ F (k + m) < x then k + m else fnd F x (k + m)) = _
    rw [if_neg (h (k + m) (by omega) (by omega))]
    exact ih (by omega) fun i h1 h2 => h i h1 (by omega)

/-- from a band downwards, each has all that is above its beginning and not yet reckoned -/
def lowb (F R : Nat → Int) : Nat → Int → Int
  | 0, l => (l - F 0) * R 0
  | j + 1, l => (l - F (j + 1)) * R (j + 1) + lowb F R j (F (j + 1))
def prv (R : Nat → Int) (k : Nat) : Int := if k = 0 then 0 else R (k - 1)
/-- each band's rate less that of the one ahead, of all that is above its beginning -/
def refb (F R : Nat → Int) (x : Int) : Nat → Int
  | 0 => 0
  | k + 1 => refb F R x k + (if F k < x then (x - F k) * (R k - prv R k) else 0)
/-- the last band has all above its beginning, those ahead of it the rest -/
def Gb (F R : Nat → Int) : Nat → Int → Int
  | 0, _ => 0
  | k + 1, x => Gb F R k (min x (F k)) + R k * max (x - F k) 0
/-- what an amount comes to by n bands -/
def exactV (F R : Nat → Int) (n : Nat) (x : Int) : Int := lowb F R (fnd F x n) (max x 0)

theorem refb_slope {F R : Nat → Int} {x y : Int} {k : Nat} (hx : ∀ i, i < k → F i < x) (hy : ∀ i, i < k → F i < y) : refb F R x k - refb F R y k = (x - y) * prv R k := by
  induction k with
  | zero => simp [refb, prv]
  | succ k ih =>
    have h := ih (fun i hi => hx i (by omega)) (fun i hi => hy i (by omega))
    simp only [refb]
    rw [if_pos (hx k (by omega)), if_pos (hy k (by omega))]
    have e : prv R (k + 1) = R k := by simp [prv]
    rw [e]
    generalize prv R k = p at *
    generalize R k = r at *
    rw [Int.sub_mul] at h
    simp only [Int.sub_mul, Int.mul_sub]
    omega
theorem refb_low {F R : Nat → Int} {n : Nat} (hF : Inc F n) : ∀ {j : Nat} {x : Int}, j < n → (∀ i, i ≤ j → F i < x) → refb F R x (j + 1) = lowb F R j x := by
  intro j
  induction j with
  | zero =>
    intro x _ h
    have := h 0 (by omega)
    simp [refb, lowb, prv, this]
  | succ j ih =>
    intro x hj h
    have e2 : refb F R x (j + 1 + 1) = refb F R x (j + 1) + (x - F (j + 1)) * (R (j + 1) - R j) := by
      show _ + (if F (j + 1) < x then (x - F (j + 1)) * (R (j + 1) - prv R (j + 1)) else 0) = _
      rw [if_pos (h (j + 1) (by omega))]
      rfl
    have e3 := ih (x := F (j + 1)) (by omega) (fun i hi => inc_lt hF (by omega) hj)
    have e4 := refb_slope (R := R) (k := j + 1) (x := x) (y := F (j + 1)) (fun i hi => h i (by omega)) (fun i hi => inc_lt hF (by omega) hj)
    have e5 : prv R (j + 1) = R j := by simp [prv]
    rw [e5] at e4
    rw [e2]
    show _ = (x - F (j + 1)) * R (j + 1) + lowb F R j (F (j + 1))
    rw [← e3]
    simp only [Int.sub_mul, Int.mul_sub] at *
    omega
theorem refb_up {F R : Nat → Int} {x : Int} {k n : Nat} (hk : k ≤ n) (h : ∀ i, k ≤ i → i < n → x ≤ F i) : refb F R x n = refb F R x k := by
  obtain ⟨m, rfl⟩ : ∃ m, n = k + m := ⟨n - k, by omega⟩
  induction m with
  | zero => rfl
  | succ m ih =>
    show refb F R x (k + m) + (if F (k + m) < x then _ else 0) = _
    have := h (k + m) (by omega) (by omega)
    rw [if_neg (by omega), Int.add_zero]
    exact ih (by omega) fun i h1 h2 => h i h1 (by omega)
/-- both ways come to the same -/
theorem exact_ref {F R : Nat → Int} {n : Nat} (hn : 1 ≤ n) (hF : Inc F n) (hf : Fit F n) (x : Int) : exactV F R n x = refb F R x n := by
  have ha := fnd_above F x n
  have hl := fnd_lt F x (n := n) (by omega)
  have hat := fnd_at F x n
  unfold exactV
  rcases Int.lt_or_le 0 x with hx | hx
  · rw [refb_up (k := fnd F x n + 1) (by omega) (fun i h1 h2 => ha i (by omega) h2), refb_low hF hl]
    · congr 1; omega
    · intro i hi
      rcases hat with h0 | h0
      · have : i = 0 := by omega
        subst this
        rw [hF.1]; exact hx
      · have := inc_le hF hi hl; omega
  · have h0 : fnd F x n = 0 := by
      rcases hat with h | h
      · exact h
      · have := (hf _ hl).1; omega
    rw [h0, refb_up (k := 0) (by omega) (fun i _ h2 => by have := (hf i h2).1; omega)]
    show (max x 0 - F 0) * R 0 = 0
    rw [hF.1]
    have : max x 0 - 0 = 0 := by omega
    rw [this, Int.zero_mul]

theorem refb_G {F R : Nat → Int} {n : Nat} (hF : Inc F n) : ∀ {k : Nat} (x : Int), k ≤ n → refb F R x k = Gb F R k x := by
  intro k
  induction k with
  | zero => intro x _; rfl
  | succ k ih =>
    intro x hk
    show _ + (if F k < x then (x - F k) * (R k - prv R k) else 0) = Gb F R k (min x (F k)) + R k * max (x - F k) 0
    rw [← ih _ (by omega)]
    by_cases h : F k < x
    · have e4 := refb_slope (F := F) (R := R) (k := k) (x := x) (y := F k) (fun i hi => by have := inc_lt hF (i := i) (j := k) hi (by omega); omega) (fun i hi => inc_lt hF (by omega) (by omega))
      rw [if_pos h, show min x (F k) = F k by omega, show max (x - F k) 0 = x - F k by omega]
      simp only [Int.sub_mul, Int.mul_sub] at *
      have c1 := Int.mul_comm (R k) x
      have c2 := Int.mul_comm (R k) (F k)
      omega
    · rw [if_neg h, show min x (F k) = x by omega, show max (x - F k) 0 = 0 by omega]
      simp
theorem G_mono {F R : Nat → Int} {T : Int} : ∀ {k : Nat} (x y : Int), Fit F k → (∀ i, i < k → 0 ≤ R i ∧ R i ≤ T) → 0 ≤ T → x ≤ y →
    Gb F R k x ≤ Gb F R k y ∧ Gb F R k y - Gb F R k x ≤ T * (max y 0 - max x 0) := by
  intro k
  induction k with
  | zero =>
    intro x y _ _ hT h
    simp only [Gb]
    exact ⟨by omega, by have := Int.mul_nonneg hT (show 0 ≤ max y 0 - max x 0 by omega); omega⟩
  | succ k ih =>
    intro x y hf hr hT h
    have hk := hf k (by omega)
    have hR := hr k (by omega)
    have hi := ih (min x (F k)) (min y (F k)) (fun i hi => hf i (by omega)) (fun i hi => hr i (by omega)) hT (by omega)
    simp only [Gb]
    have e : max y 0 - max x 0 = (max (min y (F k)) 0 - max (min x (F k)) 0) + (max (y - F k) 0 - max (x - F k) 0) := by omega
    have hd : 0 ≤ max (y - F k) 0 - max (x - F k) 0 := by omega
    rw [e, Int.mul_add]
    have m1 := Int.mul_nonneg hR.1 hd
    have m2 := Int.mul_le_mul_of_nonneg_right hR.2 hd
    rw [Int.mul_sub] at m1 m2
    omega
theorem G_zero {F R : Nat → Int} : ∀ {k : Nat}, Fit F k → Gb F R k 0 = 0 := by
  intro k
  induction k with
  | zero => intro _; rfl
  | succ k ih =>
    intro hf
    have hk := hf k (by omega)
    simp only [Gb]
    rw [show min 0 (F k) = 0 by omega, show max (0 - F k) 0 = 0 by omega, ih fun i hi => hf i (by omega)]
    simp
theorem exact_G {F R : Nat → Int} {n : Nat} (hn : 1 ≤ n) (hF : Inc F n) (hf : Fit F n) (x : Int) : exactV F R n x = Gb F R n x := by
  rw [exact_ref hn hF hf, refb_G hF x (Nat.le_refl _)]
theorem G_bd {F R : Nat → Int} {k : Nat} (hf : Fit F k) (hR : Rts R k) {x : Int} (h : x ≤ 100000000000) : 0 ≤ Gb F R k x ∧ Gb F R k x ≤ 1000000000000000 := by
  rcases Int.lt_or_le x 0 with hx | hx
  · have h1 := (G_mono (T := 10000) x 0 hf hR (by omega) (by omega))
    rw [G_zero hf] at h1
    rw [show max (0 : Int) 0 = 0 by omega, show max x 0 = 0 by omega] at h1
    omega
  · have h1 := (G_mono (T := 10000) 0 x hf hR (by omega) hx)
    rw [G_zero hf] at h1
    rw [show max (0 : Int) 0 = 0 by omega, show max x 0 = x by omega] at h1
    omega
theorem exact_bd {F R : Nat → Int} {n : Nat} (hn : 1 ≤ n) (hF : Inc F n) (hf : Fit F n) (hR : Rts R n) {x : Int} (h : x ≤ 100000000000) : 0 ≤ exactV F R n x ∧ exactV F R n x ≤ 1000000000000000 := by
  rw [exact_G hn hF hf]
  exact G_bd hf hR h
theorem low_nn {F R : Nat → Int} {n : Nat} (hF : Inc F n) (hR : Rts R n) : ∀ {j : Nat} {l : Int}, j < n → F j ≤ l → 0 ≤ lowb F R j l := by
  intro j
  induction j with
  | zero =>
    intro l hj h
    exact Int.mul_nonneg (by omega) (hR 0 hj).1
  | succ j ih =>
    intro l hj h
    have h1 := Int.mul_nonneg (show 0 ≤ l - F (j + 1) by omega) (hR (j + 1) hj).1
    have h2 := ih (l := F (j + 1)) (by omega) (by have := inc_lt hF (i := j) (j := j + 1) (by omega) hj; omega)
    show 0 ≤ (l - F (j + 1)) * R (j + 1) + lowb F R j (F (j + 1))
    omega
/-- what is left ahead of the first round is not below where its band begins -/
theorem find_left {F : Nat → Int} {n : Nat} (hF : Inc F n) (x : Int) : F (fnd F x n) ≤ max x 0 := by
  rcases fnd_at F x n with h | h
  · rw [h, hF.1]; omega
  · omega

/-- the greatest of n rates, or 0 -/
def topb (R : Nat → Int) : Nat → Int
  | 0 => 0
  | k + 1 => max (topb R k) (R k)
theorem top_nn (R : Nat → Int) (n : Nat) : 0 ≤ topb R n := by
  induction n with
  | zero => simp [topb]
  | succ n ih => simp only [topb]; omega
theorem top_ge (R : Nat → Int) (n : Nat) : ∀ i, i < n → R i ≤ topb R n := by
  induction n with
  | zero => intro i h; omega
  | succ n ih =>
    intro i hi
    simp only [topb]
    by_cases e : i = n
    · subst e; omega
    · have := ih i (by omega); omega
theorem top_le {R : Nat → Int} {n : Nat} (h : Rts R n) : topb R n ≤ 10000 := by
  induction n with
  | zero => simp [topb]
  | succ n ih =>
    have h1 := ih fun i hi => h i (by omega)
    have := h n (by omega)
    simp only [topb]
    omega
theorem exact_rises {F R : Nat → Int} {n : Nat} (hn : 1 ≤ n) (hF : Inc F n) (hf : Fit F n) (hR : Rts R n) {x y : Int} (h : x ≤ y) :
    exactV F R n x ≤ exactV F R n y ∧ exactV F R n y - exactV F R n x ≤ (max y 0 - max x 0) * topb R n := by
  rw [exact_G hn hF hf, exact_G hn hF hf, Int.mul_comm]
  exact G_mono x y hf (fun i hi => ⟨(hR i hi).1, top_ge R n i hi⟩) (top_nn R n) h
end Go.Proofs.Ytffihnbpjcgicaa
