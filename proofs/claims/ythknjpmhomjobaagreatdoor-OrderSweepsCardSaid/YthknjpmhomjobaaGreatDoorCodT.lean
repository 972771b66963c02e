/- Tax codes as they are written, and read: no program in sight. -/
import Derived.Test.YthknjpmhomjobaaGreatDoorCod
import Derived.Test.YthknjpmhomjobaaGreatDoorNam
import Derived.Lib.ItoaNum
import Derived.Lib.Strings
namespace Go.Proofs.YthknjpmhomjobaaGreatDoor
open Go.RowKit
set_option linter.unusedVariables false
set_option linter.unusedSimpArgs false

/-- the number that digits write, behind x -/
def numG : Int → List UInt8 → Int
  | x, [] => x
  | x, c :: r => numG (x * 10 + ((c.toNat : Int) - 48)) r
theorem numG_append (x : Int) (l m : List UInt8) : numG x (l ++ m) = numG (numG x l) m := by
  induction l generalizing x with
  | nil => rfl
  | cons c r ih => exact ih _
/-- is it a number of one to six digits, a 0 ahead of no other one? -/
def numB (l : List UInt8) : Bool := !l.isEmpty && decide (l.length ≤ 6) && !(decide (1 < l.length) && l.head? == some 48) && l.all isDg
def numV (k : Int) (l : List UInt8) : Int × Int × Bool := if numB l = true then (k, numG 0 l, true) else (0, 0, false)
/-- ends it in a byte? -/
def sufB (c : UInt8) (l : List UInt8) : Bool := l.getLast? == some c
/-- begins it with a byte? -/
def preB (c : UInt8) (l : List UInt8) : Bool := l.head? == some c
/-- the kind that a text tells, and its number -/
def kndV (l : List UInt8) : Int × Int × Bool :=
  if sufB 76 l = true then numV 1 l.dropLast
  else if preB 75 l = true then numV 2 l.tail
  else if preB 68 l = true then numV 3 l.tail
  else (4, 0, l == [78, 84])
/-- the scheme that a text begins with, and what is behind it -/
def schV (l : List UInt8) : Int × List UInt8 :=
  match l with
  | [] => (0, [])
  | c :: r => if 80 ≤ (c.toNat : Int) ∧ (c.toNat : Int) ≤ 86 then ((c.toNat : Int) - 79, r) else (0, c :: r)
def cutX (l : List UInt8) : List UInt8 := if sufB 88 l = true then l.dropLast else l
structure CV where
  s : Int
  k : Int
  a : Int
  f : Int
  x : Bool
  e : Int
def noC (e : Int) : CV := ⟨0, 0, 0, 0, false, e⟩
/-- what is told of a scheme, a kind, a number, and whether each period stands alone -/
def mkC (s k n : Int) (x : Bool) : CV :=
  if chkC s k (if k = 3 then 0 else n * 1000) (if k = 3 then n else 0) = 0 then ⟨s, k, if k = 3 then 0 else n * 1000, if k = 3 then n else 0, x, 0⟩
  else noC (chkC s k (if k = 3 then 0 else n * 1000) (if k = 3 then n else 0))
/-- what a text is read as -/
def parC (l : List UInt8) : CV :=
  if (kndV (cutX (schV l).2)).2.2 = true then mkC (schV l).1 (kndV (cutX (schV l).2)).1 (kndV (cutX (schV l).2)).2.1 (sufB 88 (schV l).2)
  else noC 5

/-- a code's kind, and its amount or its band, as they are written -/
def kndT (k a f : Int) : List UInt8 :=
  if k = 1 then Lib.itoa (a / 1000) ++ [76] else if k = 2 then 75 :: Lib.itoa (a / 1000) else if k = 3 then 68 :: Lib.itoa f else [78, 84]
def schT (s : Int) : List UInt8 := if 0 < s then [UInt8.ofNat (79 + s.toNat)] else []
/-- a code as it is written -/
def txtC (s k a f : Int) (x : Bool) : List UInt8 := if chkC s k a f = 0 then schT s ++ kndT k a f ++ (if x = true then [88] else []) else []

theorem numG_bd : ∀ (l : List UInt8) (x : Int), l.all isDg = true → 0 ≤ x → x * 10 ^ l.length ≤ numG x l ∧ numG x l < (x + 1) * 10 ^ l.length
  | [], x, _, h0 => by simp [numG]; omega
  | c :: r, x, h, h0 => by
    simp only [List.all_cons, Bool.and_eq_true] at h
    obtain ⟨c1, c2⟩ := isDg_yes h.1
    have ih := numG_bd r (x * 10 + ((c.toNat : Int) - 48)) h.2 (by omega)
    simp only [numG, List.length_cons]
    have e : (10 : Int) ^ (r.length + 1) = 10 ^ r.length * 10 := Int.pow_succ _ _
    rw [e]
    have hp : (0 : Int) < 10 ^ r.length := Int.pow_pos (by omega)
    generalize (10 : Int) ^ r.length = P at *
    generalize numG (x * 10 + ((c.toNat : Int) - 48)) r = N at *
    have a1 := Int.mul_le_mul_of_nonneg_right (show x * 10 ≤ x * 10 + ((c.toNat : Int) - 48) by omega) (Int.le_of_lt hp)
    have a2 := Int.mul_le_mul_of_nonneg_right (show x * 10 + ((c.toNat : Int) - 48) + 1 ≤ (x + 1) * 10 by omega) (Int.le_of_lt hp)
    have b1 : x * (P * 10) = x * 10 * P := by rw [Int.mul_comm P 10, Int.mul_assoc]
    have b2 : (x + 1) * (P * 10) = (x + 1) * 10 * P := by rw [Int.mul_comm P 10, Int.mul_assoc]
    rw [b1, b2]
    omega
theorem pow_six {k : Nat} (h : k ≤ 6) : (10 : Int) ^ k ≤ 1000000 := by
  rcases (show k = 0 ∨ k = 1 ∨ k = 2 ∨ k = 3 ∨ k = 4 ∨ k = 5 ∨ k = 6 by omega) with rfl | rfl | rfl | rfl | rfl | rfl | rfl <;> decide
theorem num_six {l : List UInt8} (h : l.all isDg = true) (hl : l.length ≤ 6) : 0 ≤ numG 0 l ∧ numG 0 l ≤ 999999 := by
  have := numG_bd l 0 h (by omega)
  have := pow_six hl
  omega
theorem numB_yes {l : List UInt8} (h : numB l = true) : l ≠ [] ∧ l.length ≤ 6 ∧ (l.length ≤ 1 ∨ l.head? ≠ some 48) ∧ l.all isDg = true := by
  unfold numB at h
  simp only [Bool.and_eq_true, Bool.not_eq_true', decide_eq_true_eq] at h
  obtain ⟨⟨⟨h1, h2⟩, h3⟩, h4⟩ := h
  refine ⟨by intro e; subst e; simp at h1, h2, ?_, h4⟩
  rcases Nat.lt_or_ge 1 l.length with q | q
  · right
    intro e
    rw [e] at h3
    simp [q] at h3
  · exact .inl q
end Go.Proofs.YthknjpmhomjobaaGreatDoor
