/- Plain facts for WholeCodes: two parts of a year, and a line that is never too long. -/
import Derived.Test.YtoppipjbdakmeaaDoorWrdJ
namespace Go.Proofs.YtoppipjbdakmeaaDoor
open Go.RowKit
set_option linter.unusedVariables false
set_option linter.unusedSimpArgs false

theorem parts_year {a n : Int} : a * n / 12 + a * (12 - n) / 12 ≤ a ∧ a ≤ a * n / 12 + a * (12 - n) / 12 + 1 := by
  have e : a * (12 - n) = 12 * a - a * n := by rw [Int.mul_sub, Int.mul_comm a 12]
  rw [e]
  generalize a * n = p
  omega
/-- how long words and what stands beside them are at most -/
def sumW : List (List UInt8) → Nat
  | [] => 0
  | l :: r => l.length + 3 + sumW r
theorem sumW_app (L M : List (List UInt8)) : sumW (L ++ M) = sumW L + sumW M := by
  induction L with
  | nil => simp [sumW]
  | cons l r ih => simp only [List.cons_append, sumW, ih]; omega
/-- where the words are not too long, it is the bytes alone for which a line is refused -/
theorem joiG_short : ∀ (R : List (List UInt8)) (line : List UInt8) (z : Bool), line.length + sumW R ≤ 512 → (joiG line z R).2 = 0 ∨ joiG line z R = ([], 5)
  | [], line, z, _ => .inl rfl
  | l :: r, line, z, h => by
    simp only [sumW] at h
    simp only [joiG]
    have hq := quo_len (l := l)
    have hm : (line ++ (if z = true then [] else [32]) ++ quoV l).length ≤ line.length + l.length + 3 := by
      simp only [List.length_append]
      cases z <;> simp <;> omega
    generalize line ++ (if z = true then [] else [32]) ++ quoV l = m at *
    by_cases ha : l.all shwB = true
    · rw [if_pos ha, if_neg (by omega)]
      exact joiG_short r _ _ (by omega)
    · rw [if_neg ha]; exact .inr rfl
theorem joiV_short {R : List (List UInt8)} (h : R.length ≤ 32) (hs : sumW R ≤ 512) : (∃ out, joiV R = (out, 0)) ∨ joiV R = ([], 5) := by
  unfold joiV
  rw [if_neg (by omega)]
  rcases joiG_short R [] true (by simpa using hs) with e | e
  · exact .inl ⟨(joiG [] true R).1, by rw [← e]⟩
  · exact .inr e
end Go.Proofs.YtoppipjbdakmeaaDoor
