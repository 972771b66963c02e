/- Bytes of words and lines: no program in sight. -/
import Derived.Test.YthknjpmhomjobaaGreatDoorCodT
namespace Go.Proofs.YthknjpmhomjobaaGreatDoor
open Go.RowKit
set_option linter.unusedVariables false
set_option linter.unusedSimpArgs false

/-- may a byte be in a word in quotes; in one without them -/
def shwB (c : UInt8) : Bool := decide (32 ≤ (c.toNat : Int) ∧ (c.toNat : Int) ≤ 126 ∧ (c.toNat : Int) ≠ 34)
def plnB (c : UInt8) : Bool := decide (33 ≤ (c.toNat : Int) ∧ (c.toNat : Int) ≤ 126 ∧ (c.toNat : Int) ≠ 34 ∧ (c.toNat : Int) ≠ 35)
theorem shwB_yes {c : UInt8} (h : shwB c = true) : 32 ≤ (c.toNat : Int) ∧ (c.toNat : Int) ≤ 126 ∧ (c.toNat : Int) ≠ 34 := by simpa only [shwB, decide_eq_true_eq] using h
theorem shwB_no {c : UInt8} (h : shwB c = false) : (c.toNat : Int) < 32 ∨ 126 < (c.toNat : Int) ∨ (c.toNat : Int) = 34 := by
  have : ¬ (32 ≤ (c.toNat : Int) ∧ (c.toNat : Int) ≤ 126 ∧ (c.toNat : Int) ≠ 34) := by simpa only [shwB, decide_eq_false_iff_not] using h
  omega
theorem plnB_yes {c : UInt8} (h : plnB c = true) : 33 ≤ (c.toNat : Int) ∧ (c.toNat : Int) ≤ 126 ∧ (c.toNat : Int) ≠ 34 ∧ (c.toNat : Int) ≠ 35 := by simpa only [plnB, decide_eq_true_eq] using h
theorem plnB_no {c : UInt8} (h : plnB c = false) : (c.toNat : Int) < 33 ∨ 126 < (c.toNat : Int) ∨ (c.toNat : Int) = 34 ∨ (c.toNat : Int) = 35 := by
  have : ¬ (33 ≤ (c.toNat : Int) ∧ (c.toNat : Int) ≤ 126 ∧ (c.toNat : Int) ≠ 34 ∧ (c.toNat : Int) ≠ 35) := by simpa only [plnB, decide_eq_false_iff_not] using h
  omega
theorem pln_shw {c : UInt8} (h : plnB c = true) : shwB c = true := by
  have := plnB_yes h
  simp only [shwB, decide_eq_true_eq]; omega
theorem shw_pln {c : UInt8} (h : shwB c = true) : plnB c = (!decide ((c.toNat : Int) = 32) && !decide ((c.toNat : Int) = 35)) := by
  have := shwB_yes h
  rw [Bool.eq_iff_iff]
  simp only [plnB, decide_eq_true_eq, Bool.and_eq_true, Bool.not_eq_true', decide_eq_false_iff_not]
  omega
/-- must a word stand in quotes? -/
def needB (l : List UInt8) : Bool := l.isEmpty || !l.all plnB
/-- a word as it stands in a line; none, if it may not -/
def quoV (l : List UInt8) : List UInt8 := if l.all shwB = true then (if needB l = true then 34 :: (l ++ [34]) else l) else []
def quoE (l : List UInt8) : Int := if l.all shwB = true then 0 else 5
end Go.Proofs.YthknjpmhomjobaaGreatDoor
