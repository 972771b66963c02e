/- Workdays counted, by plain numbers; no program in sight. -/
import Derived.Test.YtkgfmanolanlhaaDoorCal
namespace Go.Proofs.YtkgfmanolanlhaaDoor

/-- how many days of a weekday are among some numbers -/
def onD (last first wd : Int) : Int := (last - wd + 7) / 7 - (first - 1 - wd + 7) / 7
/-- how many of k days from n on are workdays -/
def wkc (n k : Int) : Int := onD (n + k - 1) n 0 + onD (n + k - 1) n 1 + onD (n + k - 1) n 2 + onD (n + k - 1) n 3 + onD (n + k - 1) n 4
theorem wkc_zero (n : Int) : wkc n 0 = 0 := by unfold wkc onD; omega
theorem wkc_yes {n k : Int} (h : (n + k) % 7 < 5) : wkc n (k + 1) = wkc n k + 1 := by unfold wkc onD; omega
theorem wkc_no {n k : Int} (h : ¬ (n + k) % 7 < 5) : wkc n (k + 1) = wkc n k := by unfold wkc onD; omega
theorem onD_bd {last first wd : Int} (h0 : 0 ≤ first) (h1 : first ≤ last) (h2 : last < 109573) : 0 ≤ onD last first wd ∧ onD last first wd ≤ 20000 := by unfold onD; omega
/-- the last workday that isn't behind a day -/
def bkN (n : Int) : Int := n - (if n % 7 - 4 ≤ 0 then 0 else n % 7 - 4)
theorem bkN_bd (n : Int) : n - 2 ≤ bkN n ∧ bkN n ≤ n ∧ bkN n % 7 < 5 ∧ (0 ≤ n → 0 ≤ bkN n) := by
  unfold bkN
  split <;> omega
end Go.Proofs.YtkgfmanolanlhaaDoor
