/- Merged: Cal, Per. -/
import Derived.IntWalk
/- Days counted, by plain numbers: leap years, the days ahead of a year and of a month, the day of a number; no program in sight. -/
namespace Go.Proofs.YtffihnbpjcgicaaDoor

/-- 1 of a leap year -/
def lp (y : Int) : Int := if y % 4 = 0 ∧ y % 100 ≠ 0 ∨ y % 400 = 0 then 1 else 0
theorem lp_01 (y : Int) : 0 ≤ lp y ∧ lp y ≤ 1 := by unfold lp; split <;> omega
def lps (y : Int) : Int := y / 4 - y / 100 + y / 400
theorem lps_succ (y : Int) : lps (y + 1) = lps y + lp (y + 1) := by unfold lps lp; split <;> omega
/-- the days ahead of a year -/
def ahd (y : Int) : Int := 365 * (y - 1900) + lps (y - 1) - 460
theorem ahd_succ (y : Int) : ahd (y + 1) = ahd y + 365 + lp y := by
  have := lps_succ (y - 1)
  rw [show y - 1 + 1 = y by omega] at this
  unfold ahd
  rw [show y + 1 - 1 = y by omega]
  omega
theorem ahd_first : ahd 1900 = 0 := by decide
theorem ahd_last : ahd 2200 = 109573 := by decide
theorem ahd_step (y : Int) (k : Nat) : ahd y + 365 * k ≤ ahd (y + k) := by
  induction k with
  | zero => simp
  | succ k ih =>
    have := ahd_succ (y + k)
    have := lp_01 (y + k)
    rw [show y + ((k + 1 : Nat) : Int) = y + k + 1 by omega]
    omega
theorem ahd_mono {a b : Int} (h : a ≤ b) : ahd a + 365 * (b - a) ≤ ahd b := by
  have := ahd_step a (b - a).toNat
  rw [show a + ((b - a).toNat : Int) = b by omega] at this
  omega
/-- a month's last day -/
def ml (y m : Int) : Int := if m = 2 then 28 + lp y else if m = 4 ∨ m = 6 ∨ m = 9 ∨ m = 11 then 30 else 31
theorem ml_bd (y m : Int) : 28 ≤ ml y m ∧ ml y m ≤ 31 := by
  have := lp_01 y
  unfold ml
  split
  · omega
  · split <;> omega
/-- the days of a year ahead of a month -/
def cum (y m : Int) : Int := if m ≤ 1 then 0 else if m = 2 then 31 else 59 + lp y + (153 * (m - 3) + 2) / 5
theorem cum_one (y : Int) : cum y 1 = 0 := by simp [cum]
theorem cum_13 (y : Int) : cum y 13 = 365 + lp y := by simp [cum]; omega
theorem cum_succ (y m : Int) (h : 1 ≤ m) (h' : m ≤ 12) : cum y (m + 1) = cum y m + ml y m := by
  have hm : m = 1 ∨ m = 2 ∨ m = 3 ∨ m = 4 ∨ m = 5 ∨ m = 6 ∨ m = 7 ∨ m = 8 ∨ m = 9 ∨ m = 10 ∨ m = 11 ∨ m = 12 := by omega
  rcases hm with rfl | rfl | rfl | rfl | rfl | rfl | rfl | rfl | rfl | rfl | rfl | rfl <;> simp [cum, ml] <;> omega
theorem cum_step (y m : Int) (k : Nat) (h : 1 ≤ m) (h' : m + k ≤ 13) : cum y m + 28 * k ≤ cum y (m + k) := by
  induction k with
  | zero => simp
  | succ k ih =>
    have := ih (by omega)
    have := cum_succ y (m + k) (by omega) (by omega)
    have := ml_bd y (m + k)
    rw [show m + ((k + 1 : Nat) : Int) = m + k + 1 by omega]
    omega
theorem cum_mono {y a b : Int} (h0 : 1 ≤ a) (h : a ≤ b) (h1 : b ≤ 13) : cum y a + 28 * (b - a) ≤ cum y b := by
  have := cum_step y a (b - a).toNat h0 (by omega)
  rw [show a + ((b - a).toNat : Int) = b by omega] at this
  omega
theorem cum_bd (y m : Int) (h : 1 ≤ m) (h' : m ≤ 12) : 0 ≤ cum y m ∧ cum y m + ml y m ≤ 365 + lp y := by
  have a := cum_mono (y := y) (a := 1) (b := m) (by omega) h (by omega)
  have b := cum_mono (y := y) (a := m + 1) (b := 13) (by omega) (by omega) (by omega)
  have := cum_succ y m h h'
  rw [cum_one] at a
  rw [cum_13] at b
  omega

/-- a month's last day, or 0 -/
def lastM (y m : Int) : Int := if 1900 ≤ y ∧ y ≤ 2199 ∧ 1 ≤ m ∧ m ≤ 12 then ml y m else 0
theorem lastM_bd (y m : Int) : 0 ≤ lastM y m ∧ lastM y m ≤ 31 := by
  have := ml_bd y m
  unfold lastM
  split <;> omega
/-- is it a day? -/
def dayB (y m d : Int) : Bool := decide (1 ≤ d ∧ d ≤ lastM y m)
theorem dayB_yes {y m d : Int} (h : dayB y m d = true) : 1900 ≤ y ∧ y ≤ 2199 ∧ 1 ≤ m ∧ m ≤ 12 ∧ 1 ≤ d ∧ d ≤ ml y m := by
  have h : 1 ≤ d ∧ d ≤ lastM y m := by simpa [dayB] using h
  unfold lastM at h
  split at h <;> omega
theorem dayB_mk {y m d : Int} (h : 1900 ≤ y ∧ y ≤ 2199 ∧ 1 ≤ m ∧ m ≤ 12 ∧ 1 ≤ d ∧ d ≤ ml y m) : dayB y m d = true := by
  have e : lastM y m = ml y m := by unfold lastM; rw [if_pos (by omega)]
  unfold dayB
  exact decide_eq_true (by rw [e]; omega)
theorem dayB_no {y m d : Int} (h : dayB y m d = false) : ¬ (1900 ≤ y ∧ y ≤ 2199 ∧ 1 ≤ m ∧ m ≤ 12 ∧ 1 ≤ d ∧ d ≤ ml y m) := by
  intro h2
  rw [dayB_mk h2] at h
  exact Bool.noConfusion h
/-- a day's number -/
def num (y m d : Int) : Int := ahd y + cum y m + d - 1
theorem num_bd {y m d : Int} (h : dayB y m d = true) : ahd y ≤ num y m d ∧ num y m d < ahd (y + 1) ∧ 0 ≤ num y m d ∧ num y m d < 109573 := by
  obtain ⟨h1, h2, h3, h4, h5, h6⟩ := dayB_yes h
  have a := cum_bd y m h3 h4
  have b := ahd_succ y
  have c := ahd_mono h1
  have d := ahd_mono (a := y + 1) (b := 2200) (by omega)
  rw [ahd_first] at c
  rw [ahd_last] at d
  unfold num
  omega
/-- the year of a number: as the document's, one too far at most -/
def yOf (n : Int) : Int := if n < ahd (1900 + n / 365) then 1899 + n / 365 else 1900 + n / 365
theorem ahd_guess (n : Int) (h : 0 ≤ n) (h' : n < 109573) : ahd (1899 + n / 365) ≤ n ∧ n < ahd (1900 + n / 365 + 1) := by
  unfold ahd lps
  omega
theorem yOf_bd (n : Int) (h : 0 ≤ n) (h' : n < 109573) : 1900 ≤ yOf n ∧ yOf n ≤ 2199 ∧ ahd (yOf n) ≤ n ∧ n < ahd (yOf n + 1) := by
  have g := ahd_guess n h h'
  have e : 1899 + n / 365 + 1 = 1900 + n / 365 := by omega
  have q : 0 ≤ n / 365 := by omega
  have f := ahd_first
  have l := ahd_last
  unfold yOf
  split
  · rename_i hc
    rw [e]
    refine ⟨?_, ?_, g.1, hc⟩
    · rcases Int.lt_or_le 0 (n / 365) with h0 | h0
      · omega
      · have : n / 365 = 0 := by omega
        rw [this] at hc
        rw [show (1900 : Int) + 0 = 1900 by omega] at hc
        omega
    · omega
  · rename_i hc
    refine ⟨by omega, ?_, by omega, g.2⟩
    rcases Int.lt_or_le (n / 365) 300 with h0 | h0
    · omega
    · have := ahd_mono (a := 2200) (b := 1900 + n / 365) (by omega)
      omega
theorem yOf_uniq {n y : Int} (h : 0 ≤ n) (h' : n < 109573) (a : ahd y ≤ n) (b : n < ahd (y + 1)) : yOf n = y := by
  obtain ⟨_, _, c, d⟩ := yOf_bd n h h'
  rcases Int.lt_or_le (yOf n) y with h1 | h1
  · have := ahd_mono (a := yOf n + 1) (b := y) (by omega); omega
  · rcases Int.lt_or_le y (yOf n) with h2 | h2
    · have := ahd_mono (a := y + 1) (b := yOf n) (by omega); omega
    · omega
/-- the month in which so many days of a year are over -/
def mIn (y r : Int) : Int := if r < cum y 2 then 1 else if r < cum y 3 then 2 else if r < cum y 4 then 3 else if r < cum y 5 then 4 else if r < cum y 6 then 5 else if r < cum y 7 then 6
  else if r < cum y 8 then 7 else if r < cum y 9 then 8 else if r < cum y 10 then 9 else if r < cum y 11 then 10 else if r < cum y 12 then 11 else 12
theorem mIn_bd (y r : Int) (h : 0 ≤ r) (h' : r < 365 + lp y) : 1 ≤ mIn y r ∧ mIn y r ≤ 12 ∧ cum y (mIn y r) ≤ r ∧ r < cum y (mIn y r + 1) := by
  have a := cum_one y
  have b := cum_13 y
  unfold mIn
  repeat' split
  all_goals simp only [show (1 : Int) + 1 = 2 from rfl, show (2 : Int) + 1 = 3 from rfl, show (3 : Int) + 1 = 4 from rfl, show (4 : Int) + 1 = 5 from rfl, show (5 : Int) + 1 = 6 from rfl, show (6 : Int) + 1 = 7 from rfl, show (7 : Int) + 1 = 8 from rfl, show (8 : Int) + 1 = 9 from rfl, show (9 : Int) + 1 = 10 from rfl, show (10 : Int) + 1 = 11 from rfl, show (11 : Int) + 1 = 12 from rfl, show (12 : Int) + 1 = 13 from rfl]
  all_goals omega
theorem mIn_uniq {y r m : Int} (h0 : 1 ≤ m) (h1 : m ≤ 12) (a : cum y m ≤ r) (b : r < cum y (m + 1)) : mIn y r = m := by
  have f := cum_one y
  have l := cum_13 y
  have c1 := cum_mono (y := y) (a := 1) (b := m) (by omega) h0 (by omega)
  have c2 := cum_mono (y := y) (a := m + 1) (b := 13) (by omega) (by omega) (by omega)
  obtain ⟨m1, m2, c, d⟩ := mIn_bd y r (by omega) (by omega)
  rcases Int.lt_or_le (mIn y r) m with h2 | h2
  · have := cum_mono (y := y) (a := mIn y r + 1) (b := m) (by omega) (by omega) (by omega); omega
  · rcases Int.lt_or_le m (mIn y r) with h3 | h3
    · have := cum_mono (y := y) (a := m + 1) (b := mIn y r) (by omega) (by omega) (by omega); omega
    · omega
def mOf (n : Int) : Int := mIn (yOf n) (n - ahd (yOf n))
def dOf (n : Int) : Int := n - ahd (yOf n) - cum (yOf n) (mOf n) + 1
theorem of_bd (n : Int) (h : 0 ≤ n) (h' : n < 109573) : dayB (yOf n) (mOf n) (dOf n) = true ∧ num (yOf n) (mOf n) (dOf n) = n := by
  obtain ⟨a, b, c, d⟩ := yOf_bd n h h'
  have s := ahd_succ (yOf n)
  obtain ⟨e, f, g, i⟩ := mIn_bd (yOf n) (n - ahd (yOf n)) (by omega) (by omega)
  have s2 := cum_succ (yOf n) (mIn (yOf n) (n - ahd (yOf n))) e f
  refine ⟨dayB_mk ⟨a, b, e, f, ?_, ?_⟩, ?_⟩
  · unfold dOf mOf; omega
  · unfold dOf mOf; omega
  · unfold num dOf; omega
theorem of_num {y m d : Int} (h : dayB y m d = true) : yOf (num y m d) = y ∧ mOf (num y m d) = m ∧ dOf (num y m d) = d := by
  obtain ⟨n1, n2, n3, n4⟩ := num_bd h
  obtain ⟨h1, h2, h3, h4, h5, h6⟩ := dayB_yes h
  have ey := yOf_uniq n3 n4 n1 n2
  have s := cum_succ y m h3 h4
  have em : mOf (num y m d) = m := by
    unfold mOf
    rw [ey]
    exact mIn_uniq h3 h4 (by unfold num; omega) (by unfold num; omega)
  refine ⟨ey, em, ?_⟩
  unfold dOf
  rw [em, ey]
  unfold num
  omega
theorem num_inj {y m d y' m' d' : Int} (h : dayB y m d = true) (h' : dayB y' m' d' = true) (e : num y m d = num y' m' d') : y = y' ∧ m = m' ∧ d = d' := by
  have a := of_num h
  have b := of_num h'
  rw [e] at a
  exact ⟨a.1.symm.trans b.1, a.2.1.symm.trans b.2.1, a.2.2.symm.trans b.2.2⟩
/-- which of two days is first -/
def cmp3 (y m d y' m' d' : Int) : Int := if y < y' then -1 else if y' < y then 1 else if m < m' then -1 else if m' < m then 1 else if d < d' then -1 else if d' < d then 1 else 0
theorem cmp3_cases (y m d y' m' d' : Int) (h : dayB y m d = true) (h' : dayB y' m' d' = true) :
    (cmp3 y m d y' m' d' = -1 ∧ num y m d < num y' m' d') ∨ (cmp3 y m d y' m' d' = 1 ∧ num y' m' d' < num y m d) ∨ (cmp3 y m d y' m' d' = 0 ∧ num y m d = num y' m' d' ∧ y = y' ∧ m = m' ∧ d = d') := by
  obtain ⟨a1, a2, a3, a4, a5, a6⟩ := dayB_yes h
  obtain ⟨b1, b2, b3, b4, b5, b6⟩ := dayB_yes h'
  obtain ⟨n1, n2, n3, n4⟩ := num_bd h
  obtain ⟨k1, k2, k3, k4⟩ := num_bd h'
  have s := cum_succ y m a3 a4
  have s' := cum_succ y' m' b3 b4
  unfold cmp3
  split
  · left
    have := ahd_mono (a := y + 1) (b := y') (by omega)
    omega
  split
  · right; left
    have := ahd_mono (a := y' + 1) (b := y) (by omega)
    omega
  obtain rfl : y = y' := by omega
  split
  · left
    have := cum_mono (y := y) (a := m + 1) (b := m') (by omega) (by omega) (by omega)
    unfold num
    omega
  split
  · right; left
    have := cum_mono (y := y) (a := m' + 1) (b := m) (by omega) (by omega) (by omega)
    unfold num
    omega
  obtain rfl : m = m' := by omega
  unfold num
  split
  · left; omega
  split
  · right; left; omega
  · right; right; omega

/-- the month, counted from the first one of all, that is so many months on -/
def mt (y m k : Int) : Int := (y - 1900) * 12 + m - 1 + k
def yM (t : Int) : Int := 1900 + t / 12
def mM (t : Int) : Int := t % 12 + 1
def dM (t d : Int) : Int := if d ≤ ml (yM t) (mM t) then d else ml (yM t) (mM t)
/-- is the month one? -/
def mtB (t : Int) : Bool := decide (0 ≤ t ∧ t < 3600)
theorem mtB_yes {t : Int} (h : mtB t = true) : 0 ≤ t ∧ t < 3600 := by simpa [mtB] using h
theorem mtB_no {t : Int} (h : mtB t = false) : t < 0 ∨ 3600 ≤ t := by
  have : ¬ (0 ≤ t ∧ t < 3600) := by simpa [mtB] using h
  omega
theorem months_day {t d : Int} (h : mtB t = true) (hd : 1 ≤ d) : dayB (yM t) (mM t) (dM t d) = true := by
  obtain ⟨a, b⟩ := mtB_yes h
  have := ml_bd (yM t) (mM t)
  refine dayB_mk ⟨by unfold yM; omega, by unfold yM; omega, by unfold mM; omega, by unfold mM; omega, ?_, ?_⟩
  · unfold dM; split <;> omega
  · unfold dM; split <;> omega
/-- the number of a month's first day -/
def fst (t : Int) : Int := ahd (yM t) + cum (yM t) (mM t)
theorem fst_succ (t : Int) : fst (t + 1) = fst t + ml (yM t) (mM t) := by
  unfold fst
  by_cases h : t % 12 = 11
  · have e1 : yM (t + 1) = yM t + 1 := by unfold yM; omega
    have e2 : mM (t + 1) = 1 := by unfold mM; omega
    have e3 : mM t = 12 := by unfold mM; omega
    rw [e1, e2, e3, ahd_succ, cum_one]
    have := cum_succ (yM t) 12 (by omega) (by omega)
    rw [show (12 : Int) + 1 = 13 from rfl, cum_13] at this
    omega
  · have e1 : yM (t + 1) = yM t := by unfold yM; omega
    have e2 : mM (t + 1) = mM t + 1 := by unfold mM; omega
    rw [e1, e2, cum_succ _ _ (by unfold mM; omega) (by unfold mM; omega)]
    omega
theorem num_month (t d : Int) : num (yM t) (mM t) (dM t d) = fst t + dM t d - 1 := rfl
/-- from the day of a month to that of the next one -/
theorem month_step (t d : Int) : num (yM t) (mM t) (dM t d) + 28 ≤ num (yM (t + 1)) (mM (t + 1)) (dM (t + 1) d) ∧ num (yM (t + 1)) (mM (t + 1)) (dM (t + 1) d) ≤ num (yM t) (mM t) (dM t d) + 31 := by
  rw [num_month, num_month, fst_succ]
  have a := ml_bd (yM t) (mM t)
  have b := ml_bd (yM (t + 1)) (mM (t + 1))
  unfold dM
  split <;> split <;> omega
theorem month_own {y m d : Int} (h : dayB y m d = true) : yM (mt y m 0) = y ∧ mM (mt y m 0) = m ∧ dM (mt y m 0) d = d := by
  obtain ⟨a1, a2, a3, a4, a5, a6⟩ := dayB_yes h
  have e1 : yM (mt y m 0) = y := by unfold yM mt; omega
  have e2 : mM (mt y m 0) = m := by unfold mM mt; omega
  refine ⟨e1, e2, ?_⟩
  unfold dM
  rw [e1, e2, if_pos a6]
/-- the same day a year on -/
theorem ml_next (y m : Int) (h : m ≠ 2) : ml (y + 1) m = ml y m := by unfold ml; rw [if_neg h, if_neg h]
theorem month_year {y m d : Int} (h : dayB y m d = true) (hn : ¬ (m = 2 ∧ d = 29)) : yM (mt y m 12) = y + 1 ∧ mM (mt y m 12) = m ∧ dM (mt y m 12) d = d := by
  obtain ⟨a1, a2, a3, a4, a5, a6⟩ := dayB_yes h
  have e1 : yM (mt y m 12) = y + 1 := by unfold yM mt; omega
  have e2 : mM (mt y m 12) = m := by unfold mM mt; omega
  refine ⟨e1, e2, ?_⟩
  unfold dM
  rw [e1, e2]
  rw [if_pos]
  by_cases hm : m = 2
  · have := ml_bd (y + 1) m
    have : ml y m ≤ 29 := by subst hm; have := lp_01 y; simp [ml]; omega
    omega
  · rw [ml_next y m hm]; exact a6
theorem mt_year (y m : Int) (h : 1 ≤ m ∧ m ≤ 12) : mtB (mt y m 12) = decide (1899 ≤ y ∧ y ≤ 2198) := by
  unfold mtB mt
  congr 1
  rw [eq_iff_iff]
  omega
end Go.Proofs.YtffihnbpjcgicaaDoor

/- Tax years cut into periods, by plain numbers: how many there are, where each begins and ends; no program in sight. -/
namespace Go.Proofs.YtffihnbpjcgicaaDoor

/-- how many days a period has; 0: it is a month -/
def pd (f : Int) : Int := if f = 1 then 7 else if f = 2 then 14 else if f = 3 then 28 else 0
/-- does a tax year begin there? -/
def yrB (y m d : Int) : Bool := dayB y m d && decide (y ≤ 2198) && !decide (m = 2 ∧ d = 29)
theorem yrB_yes {y m d : Int} (h : yrB y m d = true) : dayB y m d = true ∧ y ≤ 2198 ∧ ¬ (m = 2 ∧ d = 29) := by
  unfold yrB at h
  simp only [Bool.and_eq_true, decide_eq_true_eq, Bool.not_eq_true', decide_eq_false_iff_not] at h
  exact ⟨h.1.1, h.1.2, h.2⟩
theorem yrB_mk {y m d : Int} (h : dayB y m d = true) (h1 : y ≤ 2198) (h2 : ¬ (m = 2 ∧ d = 29)) : yrB y m d = true := by
  unfold yrB
  rw [h]
  simp [h1, h2]
/-- the number of a year's last day -/
def yend (y m d : Int) : Int := num (y + 1) m d - 1
theorem next_day {y m d : Int} (h : yrB y m d = true) : dayB (y + 1) m d = true := by
  obtain ⟨h0, h1, h2⟩ := yrB_yes h
  obtain ⟨a1, a2, a3, a4, a5, a6⟩ := dayB_yes h0
  refine dayB_mk ⟨by omega, by omega, a3, a4, a5, ?_⟩
  by_cases hm : m = 2
  · have := ml_bd (y + 1) m
    have : ml y m ≤ 29 := by subst hm; have := lp_01 y; simp [ml]; omega
    omega
  · rw [ml_next y m hm]; exact a6
theorem year_long (y m d : Int) (h : 1 ≤ m) : yend y m d = num y m d + 364 + (if m ≤ 2 then lp y else lp (y + 1)) := by
  have a := ahd_succ y
  unfold yend num cum
  split
  · rw [if_pos (by omega)]; omega
  split
  · rw [if_pos (by omega)]; omega
  · rw [if_neg (by omega)]; omega
theorem year_bd {y m d : Int} (h : 1 ≤ m) : num y m d + 364 ≤ yend y m d ∧ yend y m d ≤ num y m d + 365 := by
  have a := year_long y m d h
  have b := lp_01 y
  have c := lp_01 (y + 1)
  split at a <;> omega
/-- how many periods a year has -/
def cnt (f y m d : Int) : Int := if f = 4 then 12 else (yend y m d - num y m d) / pd f + 1
/-- the number of a period's first day -/
def pb (f y m d k : Int) : Int := if f = 4 then num (yM (mt y m (k - 1))) (mM (mt y m (k - 1))) (dM (mt y m (k - 1)) d) else num y m d + (k - 1) * pd f
/-- the number of a period's last day -/
def pe (f y m d k : Int) : Int := if k = cnt f y m d then yend y m d else pb f y m d (k + 1) - 1
theorem freq_cases {f : Int} (h : 1 ≤ f) (h' : f ≤ 4) : f = 1 ∨ f = 2 ∨ f = 3 ∨ f = 4 := by omega
theorem cnt_bd {f y m d : Int} (hf : 1 ≤ f) (hf' : f ≤ 4) (hm : 1 ≤ m) : 12 ≤ cnt f y m d ∧ cnt f y m d ≤ 53 := by
  have := year_bd (y := y) (d := d) hm
  rcases freq_cases hf hf' with rfl | rfl | rfl | rfl <;> simp [cnt, pd] <;> omega
theorem mt_add (y m j k : Int) : mt y m (j + k) = mt y m j + k := by unfold mt; omega
theorem pb_one {f y m d : Int} (h : dayB y m d = true) : pb f y m d 1 = num y m d := by
  unfold pb
  split
  · rw [show (1 : Int) - 1 = 0 from rfl]
    obtain ⟨a, b, c⟩ := month_own h
    rw [a, b, c]
  · simp
theorem pb_step {f : Int} (y m d k : Int) (hf : 1 ≤ f) (hf' : f ≤ 4) : pb f y m d k + 7 ≤ pb f y m d (k + 1) ∧ pb f y m d (k + 1) ≤ pb f y m d k + 31 := by
  unfold pb
  rcases freq_cases hf hf' with rfl | rfl | rfl | rfl
  · simp [pd]; omega
  · simp [pd]; omega
  · simp [pd]; omega
  · have := month_step (mt y m (k - 1)) d
    rw [← mt_add, show k - 1 + 1 = k + 1 - 1 by omega] at this
    simp only [if_true]
    omega
theorem pb_add {f : Int} (y m d k : Int) (j : Nat) (hf : 1 ≤ f) (hf' : f ≤ 4) : pb f y m d k + 7 * j ≤ pb f y m d (k + j) := by
  induction j with
  | zero => simp
  | succ j ih =>
    have := pb_step y m d (k + j) hf hf'
    rw [show k + ((j + 1 : Nat) : Int) = k + j + 1 by omega]
    omega
theorem pb_mono {f y m d a b : Int} (hf : 1 ≤ f) (hf' : f ≤ 4) (h : a ≤ b) : pb f y m d a + 7 * (b - a) ≤ pb f y m d b := by
  have := pb_add (f := f) y m d a (b - a).toNat hf hf'
  rw [show a + ((b - a).toNat : Int) = b by omega] at this
  omega
/-- the last period holds the year's last day -/
theorem pb_last {f y m d : Int} (hf : 1 ≤ f) (hf' : f ≤ 4) (h : yrB y m d = true) : pb f y m d (cnt f y m d) ≤ yend y m d ∧ yend y m d ≤ pb f y m d (cnt f y m d) + 30 := by
  obtain ⟨h0, h1, h2⟩ := yrB_yes h
  obtain ⟨a1, a2, a3, a4, a5, a6⟩ := dayB_yes h0
  have hy := year_bd (y := y) (d := d) a3
  rcases freq_cases hf hf' with rfl | rfl | rfl | rfl
  · simp [pb, cnt, pd]; omega
  · simp [pb, cnt, pd]; omega
  · simp [pb, cnt, pd]; omega
  · have := month_step (mt y m 11) d
    rw [← mt_add, show (11 : Int) + 1 = 12 from rfl] at this
    obtain ⟨c1, c2, c3⟩ := month_year h0 h2
    rw [c1, c2, c3] at this
    have e : yend y m d = num (y + 1) m d - 1 := rfl
    simp only [pb, cnt, if_true, show (12 : Int) - 1 = 11 from rfl]
    omega
theorem pb_bd {f y m d k : Int} (hf : 1 ≤ f) (hf' : f ≤ 4) (h : yrB y m d = true) (hk : 1 ≤ k) (hk' : k ≤ cnt f y m d) :
    num y m d + 7 * (k - 1) ≤ pb f y m d k ∧ pb f y m d k ≤ yend y m d ∧ 0 ≤ pb f y m d k ∧ yend y m d < 109572 := by
  obtain ⟨h0, h1, h2⟩ := yrB_yes h
  have a := pb_mono (f := f) (y := y) (m := m) (d := d) (a := 1) (b := k) hf hf' hk
  have b := pb_mono (f := f) (y := y) (m := m) (d := d) (a := k) (b := cnt f y m d) hf hf' hk'
  rw [pb_one h0] at a
  have c := pb_last hf hf' h
  obtain ⟨n1, n2, n3, n4⟩ := num_bd h0
  obtain ⟨k1, k2, k3, k4⟩ := num_bd (next_day h)
  have e : yend y m d = num (y + 1) m d - 1 := rfl
  omega
theorem pe_bd {f y m d k : Int} (hf : 1 ≤ f) (hf' : f ≤ 4) (h : yrB y m d = true) (hk : 1 ≤ k) (hk' : k ≤ cnt f y m d) :
    pb f y m d k ≤ pe f y m d k ∧ pe f y m d k ≤ pb f y m d k + 30 ∧ pe f y m d k ≤ yend y m d := by
  have s := pb_step (f := f) y m d k hf hf'
  have l := pb_last hf hf' h
  unfold pe
  split
  · rename_i e; subst e; omega
  · have := pb_bd hf hf' h (k := k + 1) (by omega) (by omega)
    omega
theorem pe_next {f y m d k : Int} (hk : k < cnt f y m d) : pe f y m d k = pb f y m d (k + 1) - 1 := by unfold pe; rw [if_neg (by omega)]
theorem pe_last {f y m d : Int} : pe f y m d (cnt f y m d) = yend y m d := by unfold pe; rw [if_pos rfl]
/-- a day's period is the one whose first and last day it is between -/
theorem per_uniq {f y m d i j n : Int} (hf : 1 ≤ f) (hf' : f ≤ 4) (hi' : i ≤ cnt f y m d) (hj' : j ≤ cnt f y m d)
    (a : pb f y m d i ≤ n) (b : n ≤ pe f y m d i) (a' : pb f y m d j ≤ n) (b' : n ≤ pe f y m d j) : i = j := by
  rcases Int.lt_or_le i j with h | h
  · rw [pe_next (by omega)] at b
    have := pb_mono (f := f) (y := y) (m := m) (d := d) (a := i + 1) (b := j) hf hf' (by omega)
    omega
  · rcases Int.lt_or_le j i with h2 | h2
    · rw [pe_next (by omega)] at b'
      have := pb_mono (f := f) (y := y) (m := m) (d := d) (a := j + 1) (b := i) hf hf' (by omega)
      omega
    · omega
end Go.Proofs.YtffihnbpjcgicaaDoor
