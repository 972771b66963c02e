/- Merged: Cod, CodA, CodB, CodT, CodC, CodD, CodM. -/
import Derived.Test.YtgadlfdioakodabDoorRight
import Derived.Test.YtgadlfdioakodabDoorAmtC
import Derived.Test.YtgadlfdioakodabDoorNam
import Derived.Lib.ItoaNum
import Derived.Lib.Strings
import Derived.Test.YtgadlfdioakodabDoorShelf
import Derived.LoopTactic
/- Tax codes: which may be, and what they free: no program in sight. -/
namespace Go.Proofs.YtgadlfdioakodabDoor
open Go.RowKit
set_option linter.unusedVariables false

/-- may a code's number count an amount? -/
def cntB (a : Int) : Bool := decide (0 ≤ a ∧ a ≤ 999999000 ∧ a % 1000 = 0)
theorem cntB_yes {a : Int} (h : cntB a = true) : 0 ≤ a ∧ a ≤ 999999000 ∧ a % 1000 = 0 := by simpa [cntB] using h
theorem cntB_mk {a : Int} (h : 0 ≤ a) (h1 : a ≤ 999999000) (h2 : a % 1000 = 0) : cntB a = true := by simp [cntB, h, h1, h2]
/-- is there such a kind, and has it such an amount and such a band? -/
def fitB (k a f : Int) : Bool :=
  if k = 1 then cntB a && decide (f = 0)
  else if k = 2 then cntB a && decide (0 < a) && decide (f = 0)
  else if k = 3 then decide (a = 0) && decide (0 ≤ f) && decide (f ≤ 7)
  else if k = 4 then decide (a = 0) && decide (f = 0)
  else false
/-- may a code be, and why not? -/
def chkC (s k a f : Int) : Int := if s < 0 ∨ 7 < s then 81 else if fitB k a f = true then 0 else 80
theorem chkC_ok {s k a f : Int} (h0 : 0 ≤ s) (h7 : s ≤ 7) (h : fitB k a f = true) : chkC s k a f = 0 := by
  unfold chkC; rw [if_neg (by omega), if_pos h]
theorem chkC_zero {s k a f : Int} (h : chkC s k a f = 0) : 0 ≤ s ∧ s ≤ 7 ∧ fitB k a f = true := by
  unfold chkC at h
  split at h
  · omega
  · split at h
    · exact ⟨by omega, by omega, by assumption⟩
    · omega
theorem chkC_cases (s k a f : Int) : chkC s k a f = 0 ∨ chkC s k a f = 80 ∨ chkC s k a f = 81 := by
  unfold chkC; split
  · exact .inr (.inr rfl)
  · split
    · exact .inl rfl
    · exact .inr (.inl rfl)
/-- of a code that may be: its amount and its band -/
theorem fitB_yes {k a f : Int} (h : fitB k a f = true) : (k = 1 ∧ 0 ≤ a ∧ a ≤ 999999000 ∧ a % 1000 = 0 ∧ f = 0) ∨ (k = 2 ∧ 0 < a ∧ a ≤ 999999000 ∧ a % 1000 = 0 ∧ f = 0) ∨ (k = 3 ∧ a = 0 ∧ 0 ≤ f ∧ f ≤ 7) ∨ (k = 4 ∧ a = 0 ∧ f = 0) := by
  unfold fitB at h
  split at h
  · rename_i e
    simp only [Bool.and_eq_true, decide_eq_true_eq] at h
    have := cntB_yes h.1
    exact .inl ⟨e, by omega, by omega, by omega, h.2⟩
  · split at h
    · rename_i e
      simp only [Bool.and_eq_true, decide_eq_true_eq] at h
      have := cntB_yes h.1.1
      exact .inr (.inl ⟨e, by omega, by omega, by omega, h.2⟩)
    · split at h
      · rename_i e
        simp only [Bool.and_eq_true, decide_eq_true_eq] at h
        exact .inr (.inr (.inl ⟨e, by omega, by omega, by omega⟩))
      · split at h
        · rename_i e
          simp only [Bool.and_eq_true, decide_eq_true_eq] at h
          exact .inr (.inr (.inr ⟨e, by omega, by omega⟩))
        · cases h
theorem fitB_bd {k a f : Int} (h : fitB k a f = true) : 1 ≤ k ∧ k ≤ 4 ∧ 0 ≤ a ∧ a ≤ 999999000 ∧ a % 1000 = 0 ∧ 0 ≤ f ∧ f ≤ 7 := by
  rcases fitB_yes h with h | h | h | h <;> omega
/-- how much is free, and why nothing is told -/
def freeV (s k a f n d : Int) : Int × Int :=
  if chkC s k a f ≠ 0 then (0, chkC s k a f)
  else if n < 0 ∨ d < n ∨ d < 1 ∨ 1048576 < d then (0, 1)
  else (if k = 2 then -(a * n / d) else a * n / d, 0)
theorem freeV_bad {s k a f n d : Int} (h : chkC s k a f ≠ 0) : freeV s k a f n d = (0, chkC s k a f) := by unfold freeV; rw [if_pos h]
theorem freeV_range {s k a f n d : Int} (h : chkC s k a f = 0) (h2 : n < 0 ∨ d < n ∨ d < 1 ∨ 1048576 < d) : freeV s k a f n d = (0, 1) := by unfold freeV; rw [if_neg (by omega), if_pos h2]
theorem freeV_ok {s k a f n d : Int} (h : chkC s k a f = 0) (h1 : 0 ≤ n) (h2 : n ≤ d) (h3 : 1 ≤ d) (h4 : d ≤ 1048576) : freeV s k a f n d = (if k = 2 then -(a * n / d) else a * n / d, 0) := by unfold freeV; rw [if_neg (by omega), if_neg (by omega)]
/-- a part of an amount is between nothing and the amount -/
theorem part_bd {a n d : Int} (ha : 0 ≤ a) (h1 : 0 ≤ n) (h2 : n ≤ d) (h3 : 1 ≤ d) : 0 ≤ a * n / d ∧ a * n / d ≤ a := by
  have h := Int.mul_nonneg ha h1
  refine ⟨Int.ediv_nonneg h (by omega), ?_⟩
  have := Int.mul_le_mul_of_nonneg_left h2 ha
  exact Int.ediv_le_of_le_mul (by omega) this
/-- how much is taxed, and why nothing is told -/
def chargeV (s k a f x n d : Int) : Int × Int :=
  if (freeV s k a f n d).2 ≠ 0 then (0, (freeV s k a f n d).2)
  else if amtB x = false then (0, 10)
  else if k = 4 then (0, 0)
  else if amtB (x - (freeV s k a f n d).1) = false then (0, 10)
  else (max (x - (freeV s k a f n d).1) 0, 0)
end Go.Proofs.YtgadlfdioakodabDoor

/- What the calls of code answer that look at a code: counted, fits, Check. -/
namespace Go.Proofs.YtgadlfdioakodabDoor
open Go.RowKit
set_option linter.unusedVariables false

/-- a code in its place -/
def Cd (w : World) (b : Nat) (s k a f : Int) (x : Bool) : Prop := w.cell? ⟨b, 0, none⟩ = some (.int .i64 s) ∧ w.cell? ⟨b, 1, none⟩ = some (.int .i64 k) ∧ w.cell? ⟨b, 2, none⟩ = some (.int .i64 a) ∧ w.cell? ⟨b, 3, none⟩ = some (.int .i64 f) ∧ w.cell? ⟨b, 4, none⟩ = some (.bool x)
theorem cd_new (w : World) (s k a f : Int) (x : Bool) (t : TypeId) : Cd (w.alloc (.cells #[.int .i64 s, .int .i64 k, .int .i64 a, .int .i64 f, .bool x] t)) w.heap.size s k a f x := by
  refine ⟨?_, ?_, ?_, ?_, ?_⟩ <;> simp [World.cell?_alloc_new]
theorem Cd.below {w w' : World} {b B : Nat} {s k a f : Int} {x : Bool} (h : Cd w b s k a f x) (hb : Below B w w') (hB : b < B) : Cd w' b s k a f x := by
  obtain ⟨h0, h1, h2, h3, h4⟩ := h
  exact ⟨(hb.cell (p := ⟨b, 0, none⟩) hB).trans h0, (hb.cell (p := ⟨b, 1, none⟩) hB).trans h1, (hb.cell (p := ⟨b, 2, none⟩) hB).trans h2, (hb.cell (p := ⟨b, 3, none⟩) hB).trans h3, (hb.cell (p := ⟨b, 4, none⟩) hB).trans h4⟩
end Go.Proofs.YtgadlfdioakodabDoor

/- What the calls of code answer that reckon: Free, Charge. -/
namespace Go.Proofs.YtgadlfdioakodabDoor
open Go.RowKit
set_option linter.unusedVariables false

theorem ret_p {a b : Int} {p : Int × Int} (h : p = (a, b)) : Ending.returned (.tuple #[.int .i64 a, .int .i64 b]) = .returned (.tuple #[.int .i64 p.1, .int .i64 p.2]) := by rw [h]
theorem chargeV_free {s k a f y n d p q : Int} (hf : freeV s k a f n d = (p, q)) (hq : q ≠ 0) : chargeV s k a f y n d = (0, q) := by unfold chargeV; rw [hf, if_pos hq]
theorem chargeV_amt {s k a f y n d p : Int} (hf : freeV s k a f n d = (p, 0)) (hy : amtB y = false) : chargeV s k a f y n d = (0, 10) := by unfold chargeV; rw [hf, if_neg (by simp), if_pos hy]
theorem chargeV_none {s k a f y n d p : Int} (hf : freeV s k a f n d = (p, 0)) (hy : amtB y = true) (hk : k = 4) : chargeV s k a f y n d = (0, 0) := by unfold chargeV; rw [hf, if_neg (by simp), if_neg (by simp [hy]), if_pos hk]
theorem chargeV_over {s k a f y n d p : Int} (hf : freeV s k a f n d = (p, 0)) (hy : amtB y = true) (hk : ¬ k = 4) (hs : amtB (y - p) = false) : chargeV s k a f y n d = (0, 10) := by unfold chargeV; rw [hf, if_neg (by simp), if_neg (by simp [hy]), if_neg hk, if_pos hs]
theorem chargeV_ok {s k a f y n d p : Int} (hf : freeV s k a f n d = (p, 0)) (hy : amtB y = true) (hk : ¬ k = 4) (hs : amtB (y - p) = true) : chargeV s k a f y n d = (max (y - p) 0, 0) := by unfold chargeV; rw [hf, if_neg (by simp), if_neg (by simp [hy]), if_neg hk, if_neg (by simp [hs])]
theorem freeV_amt {s k a f n d p : Int} (h : freeV s k a f n d = (p, 0)) : -999999000 ≤ p ∧ p ≤ 999999000 := by
  by_cases hk : chkC s k a f = 0
  · by_cases h2 : n < 0 ∨ d < n ∨ d < 1 ∨ 1048576 < d
    · rw [freeV_range hk h2] at h
      cases h
    · rw [freeV_ok hk (by omega) (by omega) (by omega) (by omega)] at h
      obtain ⟨_, _, hfit⟩ := chkC_zero hk
      obtain ⟨k1, k4, a0, a9, _, _, _⟩ := fitB_bd hfit
      obtain ⟨p0, p1⟩ := part_bd (a := a) (n := n) (d := d) a0 (by omega) (by omega) (by omega)
      have h := congrArg Prod.fst h
      simp only at h
      split at h <;> omega
  · rw [freeV_bad hk] at h
    exact absurd (congrArg Prod.snd h) hk
end Go.Proofs.YtgadlfdioakodabDoor

/- Tax codes as they are written, and read: no program in sight. -/
namespace Go.Proofs.YtgadlfdioakodabDoor
open Go.RowKit
set_option linter.unusedVariables false
set_option linter.unusedSimpArgs false

/-- the number that digits write, behind x -/
def numG : Int → List UInt8 → Int
  | x, [] => x
  | x, c :: r => numG (x * 10 + ((c.toNat : Int) - 48)) r
theorem numG_append (x : Int) (l m : List UInt8) : numG x (l ++ m) = numG (numG x l) m := by
  induction l generalizing x with
  | nil => rfl
  | cons c r ih => exact ih _
/-- is it a number of one to six digits, a 0 ahead of no other one? -/
def numB (l : List UInt8) : Bool := !l.isEmpty && decide (l.length ≤ 6) && !(decide (1 < l.length) && l.head? == some 48) && l.all isDg
def numV (k : Int) (l : List UInt8) : Int × Int × Bool := if numB l = true then (k, numG 0 l, true) else (0, 0, false)
/-- ends it in a byte? -/
def sufB (c : UInt8) (l : List UInt8) : Bool := l.getLast? == some c
/-- begins it with a byte? -/
def preB (c : UInt8) (l : List UInt8) : Bool := l.head? == some c
/-- the kind that a text tells, and its number -/
def kndV (l : List UInt8) : Int × Int × Bool :=
  if sufB 76 l = true then numV 1 l.dropLast
  else if preB 75 l = true then numV 2 l.tail
  else if preB 68 l = true then numV 3 l.tail
  else (4, 0, l == [78, 84])
/-- the scheme that a text begins with, and what is behind it -/
def schV (l : List UInt8) : Int × List UInt8 :=
  match l with
  | [] => (0, [])
  | c :: r => if 80 ≤ (c.toNat : Int) ∧ (c.toNat : Int) ≤ 86 then ((c.toNat : Int) - 79, r) else (0, c :: r)
def cutX (l : List UInt8) : List UInt8 := if sufB 88 l = true then l.dropLast else l
structure CV where
  s : Int
  k : Int
  a : Int
  f : Int
  x : Bool
  e : Int
def noC (e : Int) : CV := ⟨0, 0, 0, 0, false, e⟩
/-- what is told of a scheme, a kind, a number, and whether each period stands alone -/
def mkC (s k n : Int) (x : Bool) : CV :=
  if chkC s k (if k = 3 then 0 else n * 1000) (if k = 3 then n else 0) = 0 then ⟨s, k, if k = 3 then 0 else n * 1000, if k = 3 then n else 0, x, 0⟩
  else noC (chkC s k (if k = 3 then 0 else n * 1000) (if k = 3 then n else 0))
/-- what a text is read as -/
def parC (l : List UInt8) : CV :=
  if (kndV (cutX (schV l).2)).2.2 = true then mkC (schV l).1 (kndV (cutX (schV l).2)).1 (kndV (cutX (schV l).2)).2.1 (sufB 88 (schV l).2)
  else noC 5

/-- a code's kind, and its amount or its band, as they are written -/
def kndT (k a f : Int) : List UInt8 :=
  if k = 1 then Lib.itoa (a / 1000) ++ [76] else if k = 2 then 75 :: Lib.itoa (a / 1000) else if k = 3 then 68 :: Lib.itoa f else [78, 84]
def schT (s : Int) : List UInt8 := if 0 < s then [UInt8.ofNat (79 + s.toNat)] else []
/-- a code as it is written -/
def txtC (s k a f : Int) (x : Bool) : List UInt8 := if chkC s k a f = 0 then schT s ++ kndT k a f ++ (if x = true then [88] else []) else []

theorem numG_bd : ∀ (l : List UInt8) (x : Int), l.all isDg = true → 0 ≤ x → x * 10 ^ l.length ≤ numG x l ∧ numG x l < (x + 1) * 10 ^ l.length
  | [], x, _, h0 => by simp [numG]; omega
  | c :: r, x, h, h0 => by
    simp only [List.all_cons, Bool.and_eq_true] at h
    obtain ⟨c1, c2⟩ := isDg_yes h.1
    have ih := numG_bd r (x * 10 + ((c.toNat : Int) - 48)) h.2 (by omega)
    simp only [numG, List.length_cons]
    have e : (10 : Int) ^ (r.length + 1) = 10 ^ r.length * 10 := Int.pow_succ _ _
    rw [e]
    have hp : (0 : Int) < 10 ^ r.length := Int.pow_pos (by omega)
    generalize (10 : Int) ^ r.length = P at *
    generalize numG (x * 10 + ((c.toNat : Int) - 48)) r = N at *
    have a1 := Int.mul_le_mul_of_nonneg_right (show x * 10 ≤ x * 10 + ((c.toNat : Int) - 48) by omega) (Int.le_of_lt hp)
    have a2 := Int.mul_le_mul_of_nonneg_right (show x * 10 + ((c.toNat : Int) - 48) + 1 ≤ (x + 1) * 10 by omega) (Int.le_of_lt hp)
    have b1 : x * (P * 10) = x * 10 * P := by rw [Int.mul_comm P 10, Int.mul_assoc]
    have b2 : (x + 1) * (P * 10) = (x + 1) * 10 * P := by rw [Int.mul_comm P 10, Int.mul_assoc]
    rw [b1, b2]
    omega
theorem pow_six {k : Nat} (h : k ≤ 6) : (10 : Int) ^ k ≤ 1000000 := by
  rcases (show k = 0 ∨ k = 1 ∨ k = 2 ∨ k = 3 ∨ k = 4 ∨ k = 5 ∨ k = 6 by omega) with rfl | rfl | rfl | rfl | rfl | rfl | rfl <;> decide
theorem num_six {l : List UInt8} (h : l.all isDg = true) (hl : l.length ≤ 6) : 0 ≤ numG 0 l ∧ numG 0 l ≤ 999999 := by
  have := numG_bd l 0 h (by omega)
  have := pow_six hl
  omega
theorem numB_yes {l : List UInt8} (h : numB l = true) : l ≠ [] ∧ l.length ≤ 6 ∧ (l.length ≤ 1 ∨ l.head? ≠ some 48) ∧ l.all isDg = true := by
  unfold numB at h
  simp only [Bool.and_eq_true, Bool.not_eq_true', decide_eq_true_eq] at h
  obtain ⟨⟨⟨h1, h2⟩, h3⟩, h4⟩ := h
  refine ⟨by intro e; subst e; simp at h1, h2, ?_, h4⟩
  rcases Nat.lt_or_ge 1 l.length with q | q
  · right
    intro e
    rw [e] at h3
    simp [q] at h3
  · exact .inl q
end Go.Proofs.YtgadlfdioakodabDoor

/- What the calls of code answer that read: numbered, scheme, kindOf. -/
namespace Go.Proofs.YtgadlfdioakodabDoor
open Go.RowKit
set_option linter.unusedVariables false
set_option linter.unusedSimpArgs false

def NumP (k : Int) (l : List UInt8) (w : World) (e : Ending) (w' : World) : Prop := e = .returned (.tuple #[.int .i64 (numV k l).1, .int .i64 (numV k l).2.1, .bool (numV k l).2.2]) ∧ w = w'
theorem numP_no {k : Int} {l : List UInt8} {w : World} (h : numB l = false) : NumP k l w (.returned (.tuple #[.int .i64 0, .int .i64 0, .bool false])) w := by
  have : numV k l = (0, 0, false) := by unfold numV; rw [if_neg (by simp [h])]
  exact ⟨by rw [this], rfl⟩
theorem numP_yes {k : Int} {l : List UInt8} {w : World} {n : Int} (h : numB l = true) (hn : n = numG 0 l) : NumP k l w (.returned (.tuple #[.int .i64 k, .int .i64 n, .bool true])) w := by
  have : numV k l = (k, numG 0 l, true) := by unfold numV; rw [if_pos h]
  exact ⟨by rw [this, hn], rfl⟩
theorem numB_of {s : ByteArray} (h0 : 0 < s.size) (h6 : s.size ≤ 6) (hz : s.size = 1 ∨ s[0].toNat ≠ 48) : numB s.data.toList = s.data.toList.all isDg := by
  have hl := data_len s
  have hh := head_of s h0
  have he : s.data.toList.isEmpty = false := by
    cases hd : s.data.toList with
    | nil => rw [hd] at hl; simp at hl; omega
    | cons a l => rfl
  unfold numB
  rw [hl, hh, he, decide_eq_true h6]
  rcases hz with hz | hz
  · rw [hz]; simp
  · have : ¬ s[0] = 48 := fun e => hz (by rw [e]; rfl)
    have : (some s[0] == some 48) = false := by simpa using this
    rw [this]; simp
theorem numB_long {s : ByteArray} (h6 : 6 < s.size) : numB s.data.toList = false := by
  have hl := data_len s
  unfold numB
  rw [hl, decide_eq_false (by omega)]
  simp
theorem numB_empty {s : ByteArray} (h : s.size = 0) : numB s.data.toList = false := by
  have hl := data_len s
  have : s.data.toList = [] := List.length_eq_zero_iff.1 (by omega)
  rw [this]
  rfl
theorem numB_zero {s : ByteArray} (h1 : 1 < s.size) (hz : s[0].toNat = 48) : numB s.data.toList = false := by
  have hl := data_len s
  have hh := head_of s (by omega)
  have e : s[0] = 48 := UInt8.toNat_inj.1 hz
  unfold numB
  rw [hl, hh, e, decide_eq_true h1]
  simp
def SchP (l : List UInt8) (w : World) (e : Ending) (w' : World) : Prop := e = .returned (.tuple #[.int .i64 (schV l).1, .string ⟨(schV l).2.toArray⟩]) ∧ w = w'
theorem ix_no (c : UInt8) (h : ¬ (80 ≤ (c.toNat : Int) ∧ (c.toNat : Int) ≤ 86)) : Lib.indexByte [80, 81, 82, 83, 84, 85, 86] c = -1 := by
  have h2 : c ≠ 80 ∧ c ≠ 81 ∧ c ≠ 82 ∧ c ≠ 83 ∧ c ≠ 84 ∧ c ≠ 85 ∧ c ≠ 86 := by
    refine ⟨?_, ?_, ?_, ?_, ?_, ?_, ?_⟩ <;> (intro e; apply h; rw [e]; decide)
  obtain ⟨a0, a1, a2, a3, a4, a5, a6⟩ := h2
  simp [Lib.indexByte, Ne.symm a0, Ne.symm a1, Ne.symm a2, Ne.symm a3, Ne.symm a4, Ne.symm a5, Ne.symm a6]
theorem ix_yes (c : UInt8) (h : 80 ≤ (c.toNat : Int)) (h' : (c.toNat : Int) ≤ 86) : Lib.indexByte [80, 81, 82, 83, 84, 85, 86] c = (c.toNat : Int) - 80 := by
  have h2 : c = 80 ∨ c = 81 ∨ c = 82 ∨ c = 83 ∨ c = 84 ∨ c = 85 ∨ c = 86 := by
    have : ∀ n : UInt8, c.toNat = n.toNat → c = n := fun n e => UInt8.toNat_inj.1 e
    rcases (show c.toNat = 80 ∨ c.toNat = 81 ∨ c.toNat = 82 ∨ c.toNat = 83 ∨ c.toNat = 84 ∨ c.toNat = 85 ∨ c.toNat = 86 by omega) with q | q | q | q | q | q | q
    · exact .inl (this 80 q)
    · exact .inr (.inl (this 81 q))
    · exact .inr (.inr (.inl (this 82 q)))
    · exact .inr (.inr (.inr (.inl (this 83 q))))
    · exact .inr (.inr (.inr (.inr (.inl (this 84 q)))))
    · exact .inr (.inr (.inr (.inr (.inr (.inl (this 85 q))))))
    · exact .inr (.inr (.inr (.inr (.inr (.inr (this 86 q))))))
  rcases h2 with rfl | rfl | rfl | rfl | rfl | rfl | rfl <;> decide
theorem ext_tail (s : ByteArray) (h : 0 < s.size) : s.extract 1 s.size = ⟨s.data.toList.tail.toArray⟩ := by
  apply ByteArray.ext
  apply Array.ext'
  rw [ByteArray.data_extract]
  simp
  exact List.take_of_length_le (by simp)
theorem data_self (s : ByteArray) : (⟨s.data.toList.toArray⟩ : ByteArray) = s := by
  apply ByteArray.ext
  simp
theorem schP_mk {l : List UInt8} {w : World} {n : Int} {t : ByteArray} (h : schV l = (n, t.data.toList)) : SchP l w (.returned (.tuple #[.int .i64 n, .string t])) w := by
  refine ⟨?_, rfl⟩
  rw [h]
end Go.Proofs.YtgadlfdioakodabDoor

/- What the calls of code answer that read: kindOf, Parse. -/
namespace Go.Proofs.YtgadlfdioakodabDoor
open Go.RowKit
set_option linter.unusedVariables false
set_option linter.unusedSimpArgs false

theorem has_suf (c : UInt8) (l : List UInt8) : Lib.hasSuffix l [c] = sufB c l := by
  unfold Lib.hasSuffix sufB
  rcases List.eq_nil_or_concat l with rfl | ⟨r, d, rfl⟩
  · rfl
  · rw [List.concat_eq_append, List.getLast?_append]
    simp only [List.isSuffixOf, List.reverse_append, List.reverse_cons, List.reverse_nil, List.nil_append, List.singleton_append, List.isPrefixOf, List.cons_append]
    rw [Bool.eq_iff_iff]
    simp
    exact eq_comm
theorem trim_suf (c : UInt8) (l : List UInt8) : Lib.trimSuffix l [c] = if sufB c l = true then l.dropLast else l := by
  unfold Lib.trimSuffix
  rw [has_suf]
  split
  · simp [List.dropLast_eq_take]
  · rfl
theorem has_pre (c : UInt8) (l : List UInt8) : Lib.hasPrefix l [c] = preB c l := by
  unfold Lib.hasPrefix preB
  cases l with
  | nil => rfl
  | cons d r =>
    rw [Bool.eq_iff_iff]
    simp [List.isPrefixOf]
    exact eq_comm
theorem trim_pre (c : UInt8) (l : List UInt8) : Lib.trimPrefix l [c] = if preB c l = true then l.tail else l := by
  unfold Lib.trimPrefix
  rw [has_pre]
  split
  · simp
  · rfl
/-- a text without what was cut off -/
def Sh (T s : ByteArray) (l : List UInt8) : Prop := T.data.toList = l ∧ T.size ≤ s.size
theorem trimP_le (s p : List UInt8) : (Lib.trimPrefix s p).length ≤ s.length := by
  unfold Lib.trimPrefix
  split
  · simp
  · exact Nat.le_refl _
theorem cutP_any (c : UInt8) (s : ByteArray) (b : Bool) (hb : preB c s.data.toList = b) :
    ∃ T : ByteArray, Sh T s (if b = true then s.data.toList.tail else s.data.toList) ∧ ∀ w : World, Calls Tryd.prog 9 #[.string s, .string ⟨#[c]⟩] w fun e w' => e = .returned (.tuple #[.string T, .bool b]) ∧ w = w' := by
  refine ⟨⟨(Lib.trimPrefix s.data.toList [c]).toArray⟩, ⟨by rw [trim_pre, hb], ?_⟩, fun w => ?_⟩
  · have := trimP_le s.data.toList [c]
    rw [← data_len s]
    exact this
  · refine (Tryd.strings_CutPrefix s ⟨#[c]⟩ w).mono ?_
    rintro e w' ⟨rfl, rfl⟩
    refine ⟨?_, rfl⟩
    rw [show (⟨#[c]⟩ : ByteArray).data.toList = [c] from rfl, has_pre, hb]
def KndP (l : List UInt8) (w : World) (e : Ending) (w' : World) : Prop := e = .returned (.tuple #[.int .i64 (kndV l).1, .int .i64 (kndV l).2.1, .bool (kndV l).2.2]) ∧ w = w'
theorem kndP_mk {l : List UInt8} {w : World} {a b : Int} {c : Bool} (h : kndV l = (a, b, c)) : KndP l w (.returned (.tuple #[.int .i64 a, .int .i64 b, .bool c])) w := by
  refine ⟨?_, rfl⟩
  rw [h]
theorem kndV_L {l : List UInt8} (h : sufB 76 l = true) : kndV l = numV 1 l.dropLast := by unfold kndV; rw [if_pos h]
theorem kndV_K {l : List UInt8} (h : sufB 76 l = false) (h2 : preB 75 l = true) : kndV l = numV 2 l.tail := by unfold kndV; rw [if_neg (by simp [h]), if_pos h2]
theorem kndV_D {l : List UInt8} (h : sufB 76 l = false) (h2 : preB 75 l = false) (h3 : preB 68 l = true) : kndV l = numV 3 l.tail := by unfold kndV; rw [if_neg (by simp [h]), if_neg (by simp [h2]), if_pos h3]
theorem kndV_N {l : List UInt8} (h : sufB 76 l = false) (h2 : preB 75 l = false) (h3 : preB 68 l = false) : kndV l = (4, 0, l == [78, 84]) := by unfold kndV; rw [if_neg (by simp [h]), if_neg (by simp [h2]), if_neg (by simp [h3])]
end Go.Proofs.YtgadlfdioakodabDoor

/- Codes there and back: what is written is read, and what is read is written so: no program in sight. -/
namespace Go.Proofs.YtgadlfdioakodabDoor
open Go.RowKit
set_option linter.unusedVariables false
set_option linter.unusedSimpArgs false

theorem dig_byte {k : Nat} (h : k < 10) : (UInt8.ofNat (48 + k)).toNat = 48 + k := by rw [UInt8.toNat_ofNat']; omega
theorem dig_is {k : Nat} (h : k < 10) : isDg (UInt8.ofNat (48 + k)) = true := by
  unfold isDg; rw [dig_byte h]; simp; omega
theorem dd_split {u : Nat} (h : ¬ u < 10) : Lib.decDigits u = Lib.decDigits (u / 10) ++ [UInt8.ofNat (48 + u % 10)] := by rw [Lib.decDigits, dif_neg h]
theorem dd_one {u : Nat} (h : u < 10) : Lib.decDigits u = [UInt8.ofNat (48 + u)] := by rw [Lib.decDigits, dif_pos h]
theorem dd_all (u : Nat) : (Lib.decDigits u).all isDg = true ∧ numG 0 (Lib.decDigits u) = u ∧ ∃ c l, Lib.decDigits u = c :: l ∧ (1 ≤ u → c ≠ 48) := by
  induction u using Nat.strongRecOn with
  | _ u ih =>
    by_cases h : u < 10
    · rw [dd_one h]
      refine ⟨by simp only [List.all_cons, List.all_nil, dig_is h]; rfl, ?_, _, _, rfl, ?_⟩
      · simp only [numG]; rw [dig_byte h]; omega
      · intro h1 e
        have := congrArg UInt8.toNat e
        rw [dig_byte h] at this
        simp at this
        omega
    · obtain ⟨i1, i2, c, l, e, i3⟩ := ih (u / 10) (by omega)
      rw [dd_split h]
      refine ⟨?_, ?_, c, l ++ [UInt8.ofNat (48 + u % 10)], by rw [e]; rfl, fun _ => i3 (by omega)⟩
      · rw [List.all_append, i1]; simp only [List.all_cons, List.all_nil, dig_is (show u % 10 < 10 by omega)]; rfl
      · rw [numG_append, i2]
        simp only [numG]; rw [dig_byte (by omega)]; omega
/-- digits, a 0 ahead of no other one, are the numeral of their number -/
theorem dd_back : ∀ (k : Nat) (l : List UInt8), l.length = k → l ≠ [] → l.all isDg = true → (l.length ≤ 1 ∨ l.head? ≠ some 48) → Lib.decDigits (numG 0 l).toNat = l := by
  intro k
  induction k with
  | zero => intro l h hn; exact absurd (List.length_eq_zero_iff.1 h) hn
  | succ k ih =>
    intro l hl hn ha hz
    rcases List.eq_nil_or_concat l with rfl | ⟨r, c, rfl⟩
    · exact absurd rfl hn
    rw [List.concat_eq_append] at hl ha hz ⊢
    rw [List.all_append] at ha
    simp only [Bool.and_eq_true, List.all_cons, List.all_nil, Bool.and_true] at ha
    obtain ⟨c1, c2⟩ := isDg_yes ha.2
    rw [numG_append]
    simp only [numG]
    have hc : UInt8.ofNat (48 + (c.toNat - 48)) = c := by
      apply UInt8.toNat_inj.1
      rw [dig_byte (by omega)]
      omega
    cases r with
    | nil =>
      simp only [numG, List.nil_append]
      rw [show (0 * 10 + ((c.toNat : Int) - 48)).toNat = c.toNat - 48 by omega, dd_one (by omega), hc]
    | cons d r =>
      have hd : d ≠ 48 := by
        rcases hz with hz | hz
        · simp at hz
        · intro e; apply hz; simp [e]
      have ih2 := ih (d :: r) (by simpa using hl) (by simp) ha.1 (.inr (by simpa using hd))
      have hpos : 1 ≤ numG 0 (d :: r) := by
        have ha2 := ha.1
        simp only [List.all_cons, Bool.and_eq_true] at ha2
        obtain ⟨d1, d2⟩ := isDg_yes ha2.1
        have hd3 : d.toNat ≠ 48 := fun e => hd (UInt8.toNat_inj.1 e)
        simp only [numG]
        have := (numG_bd r (0 * 10 + ((d.toNat : Int) - 48)) ha2.2 (by omega)).1
        have hp : (0 : Int) < 10 ^ r.length := Int.pow_pos (by omega)
        have hm := Int.mul_le_mul_of_nonneg_right (show (1 : Int) ≤ 0 * 10 + ((d.toNat : Int) - 48) by omega) (Int.le_of_lt hp)
        omega
      generalize numG 0 (d :: r) = N at *
      have e1 : (N * 10 + ((c.toNat : Int) - 48)).toNat = N.toNat * 10 + (c.toNat - 48) := by omega
      rw [e1, dd_split (by omega)]
      have e2 : (N.toNat * 10 + (c.toNat - 48)) / 10 = N.toNat := by omega
      have e3 : (N.toNat * 10 + (c.toNat - 48)) % 10 = c.toNat - 48 := by omega
      rw [e2, e3, ih2, hc]
theorem itoa_nn {n : Int} (h : 0 ≤ n) : Lib.itoa n = Lib.decDigits n.toNat := by unfold Lib.itoa; rw [if_neg (by omega)]
theorem nd_six {u : Nat} (hu : u < 1000000) : Lib.nDigits u ≤ 6 := by
  by_cases q1 : u < 10
  · rw [Lib.nDigits_small q1]; omega
  rw [Lib.nDigits_big (by omega)]
  by_cases q2 : u / 10 < 10
  · rw [Lib.nDigits_small q2]; omega
  rw [Lib.nDigits_big (by omega)]
  by_cases q3 : u / 10 / 10 < 10
  · rw [Lib.nDigits_small q3]; omega
  rw [Lib.nDigits_big (by omega)]
  by_cases q4 : u / 10 / 10 / 10 < 10
  · rw [Lib.nDigits_small q4]; omega
  rw [Lib.nDigits_big (by omega)]
  by_cases q5 : u / 10 / 10 / 10 / 10 < 10
  · rw [Lib.nDigits_small q5]; omega
  rw [Lib.nDigits_big (by omega)]
  by_cases q6 : u / 10 / 10 / 10 / 10 / 10 < 10
  · rw [Lib.nDigits_small q6]; omega
  · exfalso; omega
/-- a number from 0 to 999999 as it is written is such a number, and it -/
theorem num_itoa {n : Int} (h : 0 ≤ n) (h' : n ≤ 999999) : numB (Lib.itoa n) = true ∧ numG 0 (Lib.itoa n) = n := by
  rw [itoa_nn h]
  obtain ⟨a1, a2, c, l, e, a3⟩ := dd_all n.toNat
  have hl : (Lib.decDigits n.toNat).length ≤ 6 := by rw [Lib.decDigits_length]; exact nd_six (by omega)
  refine ⟨?_, by omega⟩
  unfold numB
  rw [a1, decide_eq_true hl]
  have h1 : (Lib.decDigits n.toNat).isEmpty = false := by rw [e]; rfl
  rw [h1]
  by_cases hz : n.toNat < 10
  · rw [dd_one hz]; simp
  · have : ((Lib.decDigits n.toNat).head? == some 48) = false := by rw [e]; simpa using a3 (by omega)
    rw [this]; simp
theorem itoa_num {l : List UInt8} (h : numB l = true) : Lib.itoa (numG 0 l) = l := by
  obtain ⟨h1, h2, h3, h4⟩ := numB_yes h
  rw [itoa_nn (num_six h4 h2).1]
  exact dd_back _ l rfl h1 h4 h3
theorem numV_of {k : Int} {l : List UInt8} (h : numB l = true) : numV k l = (k, numG 0 l, true) := by unfold numV; rw [if_pos h]
theorem numV_yes {k : Int} {l : List UInt8} {a b : Int} (h : numV k l = (a, b, true)) : a = k ∧ b = numG 0 l ∧ numB l = true := by
  unfold numV at h
  split at h
  · rename_i hb
    simp only [Prod.mk.injEq] at h
    exact ⟨h.1.symm, h.2.1.symm, hb⟩
  · simp at h
/-- each byte of a numeral is a digit -/
theorem itoa_all {n : Int} (h : 0 ≤ n) : (Lib.itoa n).all isDg = true := by rw [itoa_nn h]; exact (dd_all _).1
theorem itoa_ne {n : Int} (h : 0 ≤ n) : Lib.itoa n ≠ [] := by
  rw [itoa_nn h]
  obtain ⟨_, _, c, l, e, _⟩ := dd_all n.toNat
  rw [e]; simp
theorem sufB_app (c d : UInt8) (l : List UInt8) : sufB c (l ++ [d]) = (d == c) := by
  unfold sufB; rw [List.getLast?_append]; simp
theorem sufB_yes {c : UInt8} {l : List UInt8} (h : sufB c l = true) : l = l.dropLast ++ [c] := by
  unfold sufB at h
  rcases List.eq_nil_or_concat l with rfl | ⟨r, d, rfl⟩
  · simp at h
  · rw [List.concat_eq_append] at h ⊢
    rw [List.getLast?_append] at h
    simp at h
    rw [h]; simp
theorem preB_cons (c d : UInt8) (l : List UInt8) : preB c (d :: l) = (d == c) := by unfold preB; simp
theorem preB_yes {c : UInt8} {l : List UInt8} (h : preB c l = true) : l = c :: l.tail := by
  unfold preB at h
  cases l with
  | nil => simp at h
  | cons d r => simp at h; rw [h]; rfl
/-- a list of digits ends and begins in no letter -/
theorem all_last {c : UInt8} {l : List UInt8} (h : l.all isDg = true) (hc : isDg c = false) : sufB c l = false := by
  cases hs : sufB c l
  · rfl
  · rw [sufB_yes hs, List.all_append] at h
    simp [hc] at h
theorem all_head {c : UInt8} {l : List UInt8} (h : l.all isDg = true) (hc : isDg c = false) : preB c l = false := by
  cases hs : preB c l
  · rfl
  · rw [preB_yes hs] at h
    simp [hc] at h
theorem sufB_cons {c d : UInt8} {l : List UInt8} (h : l ≠ []) : sufB c (d :: l) = sufB c l := by
  unfold sufB
  cases l with
  | nil => exact absurd rfl h
  | cons e r => rfl
/-- what a kind is written as is read as it -/
theorem knd_back {k a f : Int} (h : fitB k a f = true) : kndV (kndT k a f) = (k, if k = 3 then f else a / 1000, true) := by
  rcases fitB_yes h with ⟨rfl, a0, a9, am, rfl⟩ | ⟨rfl, a0, a9, am, rfl⟩ | ⟨rfl, rfl, f0, f7⟩ | ⟨rfl, rfl, rfl⟩
  · obtain ⟨n1, n2⟩ := num_itoa (n := a / 1000) (by omega) (by omega)
    show kndV (Lib.itoa (a / 1000) ++ [76]) = _
    unfold kndV
    rw [sufB_app, if_pos (by decide), List.dropLast_concat]
    rw [numV_of n1, n2]
    simp
  · obtain ⟨n1, n2⟩ := num_itoa (n := a / 1000) (by omega) (by omega)
    show kndV (75 :: Lib.itoa (a / 1000)) = _
    unfold kndV
    rw [sufB_cons (itoa_ne (by omega)), all_last (itoa_all (by omega)) (by decide), if_neg (by simp), preB_cons, if_pos (by decide)]
    rw [List.tail_cons, numV_of n1, n2]
    simp
  · obtain ⟨n1, n2⟩ := num_itoa (n := f) (by omega) (by omega)
    show kndV (68 :: Lib.itoa f) = _
    unfold kndV
    rw [sufB_cons (itoa_ne (by omega)), all_last (itoa_all (by omega)) (by decide), if_neg (by simp), preB_cons, if_neg (by decide), preB_cons, if_pos (by decide)]
    rw [List.tail_cons, numV_of n1, n2]
    simp
  · decide
/-- what a text is read as is written so -/
theorem knd_forth {l : List UInt8} {k n : Int} (h : kndV l = (k, n, true)) : (k = 1 ∨ k = 2 ∨ k = 3 ∨ k = 4) ∧ kndT k (if k = 3 then 0 else n * 1000) (if k = 3 then n else 0) = l := by
  unfold kndV at h
  split at h
  · rename_i hs
    obtain ⟨rfl, rfl, hb⟩ := numV_yes h
    refine ⟨.inl rfl, ?_⟩
    show Lib.itoa (numG 0 l.dropLast * 1000 / 1000) ++ [76] = l
    rw [Int.mul_ediv_cancel _ (by omega), itoa_num hb, ← sufB_yes hs]
  · split at h
    · rename_i hs
      obtain ⟨rfl, rfl, hb⟩ := numV_yes h
      refine ⟨.inr (.inl rfl), ?_⟩
      show 75 :: Lib.itoa (numG 0 l.tail * 1000 / 1000) = l
      rw [Int.mul_ediv_cancel _ (by omega), itoa_num hb, ← preB_yes hs]
    · split at h
      · rename_i hs
        obtain ⟨rfl, rfl, hb⟩ := numV_yes h
        refine ⟨.inr (.inr (.inl rfl)), ?_⟩
        show 68 :: Lib.itoa (numG 0 l.tail) = l
        rw [itoa_num hb, ← preB_yes hs]
      · simp only [Prod.mk.injEq, beq_iff_eq] at h
        obtain ⟨rfl, rfl, rfl⟩ := h
        exact ⟨.inr (.inr (.inr rfl)), rfl⟩
/-- the first and the last byte of a kind that is written -/
theorem knd_ends {k a f : Int} (h : fitB k a f = true) : sufB 88 (kndT k a f) = false ∧ kndT k a f ≠ [] ∧ ∃ c r, kndT k a f = c :: r ∧ ¬ (80 ≤ (c.toNat : Int) ∧ (c.toNat : Int) ≤ 86) := by
  have hd : ∀ c : UInt8, isDg c = true → ¬ (80 ≤ (c.toNat : Int) ∧ (c.toNat : Int) ≤ 86) := fun c hc => by have := isDg_yes hc; omega
  rcases fitB_yes h with ⟨rfl, a0, a9, am, rfl⟩ | ⟨rfl, a0, a9, am, rfl⟩ | ⟨rfl, rfl, f0, f7⟩ | ⟨rfl, rfl, rfl⟩
  · show sufB 88 (Lib.itoa (a / 1000) ++ [76]) = false ∧ Lib.itoa (a / 1000) ++ [76] ≠ [] ∧ ∃ c r, Lib.itoa (a / 1000) ++ [76] = c :: r ∧ _
    have ha := itoa_all (n := a / 1000) (by omega)
    have hn := itoa_ne (n := a / 1000) (by omega)
    refine ⟨by rw [sufB_app]; decide, by simp, ?_⟩
    cases hi : Lib.itoa (a / 1000) with
    | nil => exact absurd hi hn
    | cons c r =>
      rw [hi] at ha
      simp only [List.all_cons, Bool.and_eq_true] at ha
      exact ⟨c, r ++ [76], rfl, hd c ha.1⟩
  · show sufB 88 (75 :: Lib.itoa (a / 1000)) = false ∧ 75 :: Lib.itoa (a / 1000) ≠ [] ∧ ∃ c r, 75 :: Lib.itoa (a / 1000) = c :: r ∧ _
    exact ⟨by rw [sufB_cons (itoa_ne (by omega)), all_last (itoa_all (by omega)) (by decide)], by simp, 75, _, rfl, by decide⟩
  · show sufB 88 (68 :: Lib.itoa f) = false ∧ 68 :: Lib.itoa f ≠ [] ∧ ∃ c r, 68 :: Lib.itoa f = c :: r ∧ _
    exact ⟨by rw [sufB_cons (itoa_ne (by omega)), all_last (itoa_all (by omega)) (by decide)], by simp, 68, _, rfl, by decide⟩
  · exact ⟨by decide, by decide, 78, [84], rfl, by decide⟩
end Go.Proofs.YtgadlfdioakodabDoor
