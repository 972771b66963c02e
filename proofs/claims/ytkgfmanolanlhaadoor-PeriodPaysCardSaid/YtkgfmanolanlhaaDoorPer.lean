/- Tax years cut into periods, by plain numbers: how many there are, where each begins and ends; no program in sight. -/
import Derived.Test.YtkgfmanolanlhaaDoorCal
namespace Go.Proofs.YtkgfmanolanlhaaDoor

/-- how many days a period has; 0: it is a month -/
def pd (f : Int) : Int := if f = 1 then 7 else if f = 2 then 14 else if f = 3 then 28 else 0
/-- does a tax year begin there? -/
def yrB (y m d : Int) : Bool := dayB y m d && decide (y ≤ 2198) && !decide (m = 2 ∧ d = 29)
theorem yrB_yes {y m d : Int} (h : yrB y m d = true) : dayB y m d = true ∧ y ≤ 2198 ∧ ¬ (m = 2 ∧ d = 29) := by
  unfold yrB at h
  simp only [Bool.and_eq_true, decide_eq_true_eq, Bool.not_eq_true', decide_eq_false_iff_not] at h
  exact ⟨h.1.1, h.1.2, h.2⟩
theorem yrB_mk {y m d : Int} (h : dayB y m d = true) (h1 : y ≤ 2198) (h2 : ¬ (m = 2 ∧ d = 29)) : yrB y m d = true := by
  unfold yrB
  rw [h]
  simp [h1, h2]
/-- the number of a year's last day -/
def yend (y m d : Int) : Int := num (y + 1) m d - 1
theorem next_day {y m d : Int} (h : yrB y m d = true) : dayB (y + 1) m d = true := by
  obtain ⟨h0, h1, h2⟩ := yrB_yes h
  obtain ⟨a1, a2, a3, a4, a5, a6⟩ := dayB_yes h0
  refine dayB_mk ⟨by omega, by omega, a3, a4, a5, ?_⟩
  by_cases hm : m = 2
  · have := ml_bd (y + 1) m
    have : ml y m ≤ 29 := by subst hm; have := lp_01 y; simp [ml]; omega
    omega
  · rw [ml_next y m hm]; exact a6
theorem year_long (y m d : Int) (h : 1 ≤ m) : yend y m d = num y m d + 364 + (if m ≤ 2 then lp y else lp (y + 1)) := by
  have a := ahd_succ y
  unfold yend num cum
  split
  · rw [if_pos (by omega)]; omega
  split
  · rw [if_pos (by omega)]; omega
  · rw [if_neg (by omega)]; omega
theorem year_bd {y m d : Int} (h : 1 ≤ m) : num y m d + 364 ≤ yend y m d ∧ yend y m d ≤ num y m d + 365 := by
  have a := year_long y m d h
  have b := lp_01 y
  have c := lp_01 (y + 1)
  split at a <;> omega
/-- how many periods a year has -/
def cnt (f y m d : Int) : Int := if f = 4 then 12 else (yend y m d - num y m d) / pd f + 1
/-- the number of a period's first day -/
def pb (f y m d k : Int) : Int := if f = 4 then num (yM (mt y m (k - 1))) (mM (mt y m (k - 1))) (dM (mt y m (k - 1)) d) else num y m d + (k - 1) * pd f
/-- the number of a period's last day -/
def pe (f y m d k : Int) : Int := if k = cnt f y m d then yend y m d else pb f y m d (k + 1) - 1
theorem freq_cases {f : Int} (h : 1 ≤ f) (h' : f ≤ 4) : f = 1 ∨ f = 2 ∨ f = 3 ∨ f = 4 := by omega
theorem cnt_bd {f y m d : Int} (hf : 1 ≤ f) (hf' : f ≤ 4) (hm : 1 ≤ m) : 12 ≤ cnt f y m d ∧ cnt f y m d ≤ 53 := by
  have := year_bd (y := y) (d := d) hm
  rcases freq_cases hf hf' with rfl | rfl | rfl | rfl <;> simp [cnt, pd] <;> omega
theorem mt_add (y m j k : Int) : mt y m (j + k) = mt y m j + k := by unfold mt; omega
theorem pb_one {f y m d : Int} (h : dayB y m d = true) : pb f y m d 1 = num y m d := by
  unfold pb
  split
  · rw [show (1 : Int) - 1 = 0 from rfl]
    obtain ⟨a, b, c⟩ := month_own h
    rw [a, b, c]
  · simp
theorem pb_step {f : Int} (y m d k : Int) (hf : 1 ≤ f) (hf' : f ≤ 4) : pb f y m d k + 7 ≤ pb f y m d (k + 1) ∧ pb f y m d (k + 1) ≤ pb f y m d k + 31 := by
  unfold pb
  rcases freq_cases hf hf' with rfl | rfl | rfl | rfl
  · simp [pd]; omega
  · simp [pd]; omega
  · simp [pd]; omega
  · have := month_step (mt y m (k - 1)) d
    rw [← mt_add, show k - 1 + 1 = k + 1 - 1 by omega] at this
    simp only [if_true]
    omega
theorem pb_add {f : Int} (y m d k : Int) (j : Nat) (hf : 1 ≤ f) (hf' : f ≤ 4) : pb f y m d k + 7 * j ≤ pb f y m d (k + j) := by
  induction j with
  | zero => simp
  | succ j ih =>
    have := pb_step y m d (k + j) hf hf'
    rw [show k + ((j + 1 : Nat) : Int) = k + j + 1 by omega]
    omega
theorem pb_mono {f y m d a b : Int} (hf : 1 ≤ f) (hf' : f ≤ 4) (h : a ≤ b) : pb f y m d a + 7 * (b - a) ≤ pb f y m d b := by
  have := pb_add (f := f) y m d a (b - a).toNat hf hf'
  rw [show a + ((b - a).toNat : Int) = b by omega] at this
  omega
/-- the last period holds the year's last day -/
theorem pb_last {f y m d : Int} (hf : 1 ≤ f) (hf' : f ≤ 4) (h : yrB y m d = true) : pb f y m d (cnt f y m d) ≤ yend y m d ∧ yend y m d ≤ pb f y m d (cnt f y m d) + 30 := by
  obtain ⟨h0, h1, h2⟩ := yrB_yes h
  obtain ⟨a1, a2, a3, a4, a5, a6⟩ := dayB_yes h0
  have hy := year_bd (y := y) (d := d) a3
  rcases freq_cases hf hf' with rfl | rfl | rfl | rfl
  · simp [pb, cnt, pd]; omega
  · simp [pb, cnt, pd]; omega
  · simp [pb, cnt, pd]; omega
  · have := month_step (mt y m 11) d
    rw [← mt_add, show (11 : Int) + 1 = 12 from rfl] at this
    obtain ⟨c1, c2, c3⟩ := month_year h0 h2
    rw [c1, c2, c3] at this
    have e : yend y m d = num (y + 1) m d - 1 := rfl
    simp only [pb, cnt, if_true, show (12 : Int) - 1 = 11 from rfl]
    omega
theorem pb_bd {f y m d k : Int} (hf : 1 ≤ f) (hf' : f ≤ 4) (h : yrB y m d = true) (hk : 1 ≤ k) (hk' : k ≤ cnt f y m d) :
    num y m d + 7 * (k - 1) ≤ pb f y m d k ∧ pb f y m d k ≤ yend y m d ∧ 0 ≤ pb f y m d k ∧ yend y m d < 109572 := by
  obtain ⟨h0, h1, h2⟩ := yrB_yes h
  have a := pb_mono (f := f) (y := y) (m := m) (d := d) (a := 1) (b := k) hf hf' hk
  have b := pb_mono (f := f) (y := y) (m := m) (d := d) (a := k) (b := cnt f y m d) hf hf' hk'
  rw [pb_one h0] at a
  have c := pb_last hf hf' h
  obtain ⟨n1, n2, n3, n4⟩ := num_bd h0
  obtain ⟨k1, k2, k3, k4⟩ := num_bd (next_day h)
  have e : yend y m d = num (y + 1) m d - 1 := rfl
  omega
theorem pe_bd {f y m d k : Int} (hf : 1 ≤ f) (hf' : f ≤ 4) (h : yrB y m d = true) (hk : 1 ≤ k) (hk' : k ≤ cnt f y m d) :
    pb f y m d k ≤ pe f y m d k ∧ pe f y m d k ≤ pb f y m d k + 30 ∧ pe f y m d k ≤ yend y m d := by
  have s := pb_step (f := f) y m d k hf hf'
  have l := pb_last hf hf' h
  unfold pe
  split
  · rename_i e; subst e; omega
  · have := pb_bd hf hf' h (k := k + 1) (by omega) (by omega)
    omega
theorem pe_next {f y m d k : Int} (hk : k < cnt f y m d) : pe f y m d k = pb f y m d (k + 1) - 1 := by unfold pe; rw [if_neg (by omega)]
theorem pe_last {f y m d : Int} : pe f y m d (cnt f y m d) = yend y m d := by unfold pe; rw [if_pos rfl]
/-- a day's period is the one whose first and last day it is between -/
theorem per_uniq {f y m d i j n : Int} (hf : 1 ≤ f) (hf' : f ≤ 4) (hi' : i ≤ cnt f y m d) (hj' : j ≤ cnt f y m d)
    (a : pb f y m d i ≤ n) (b : n ≤ pe f y m d i) (a' : pb f y m d j ≤ n) (b' : n ≤ pe f y m d j) : i = j := by
  rcases Int.lt_or_le i j with h | h
  · rw [pe_next (by omega)] at b
    have := pb_mono (f := f) (y := y) (m := m) (d := d) (a := i + 1) (b := j) hf hf' (by omega)
    omega
  · rcases Int.lt_or_le j i with h2 | h2
    · rw [pe_next (by omega)] at b'
      have := pb_mono (f := f) (y := y) (m := m) (d := d) (a := j + 1) (b := i) hf hf' (by omega)
      omega
    · omega
end Go.Proofs.YtkgfmanolanlhaaDoor
