/- Plain facts about amounts that may be, about rounding to whole numbers, and about how two results are held to be the same: no program in sight. -/
import Derived.IntWalk
import Derived.Calls
namespace Go.Proofs.YthknjpmhomjobaaGreatDoor
open Go.RowKit

/-- both parts of a division towards 0, as those of a division downwards -/
theorem floor_neg {n d : Int} (hd : 1 ≤ d) (h : n.tmod d < 0) : n.tdiv d - 1 = n / d ∧ n.tmod d + d = n % d := by
  have e := Int.mul_tdiv_add_tmod n d
  have l := Int.lt_tmod_of_pos n (show 0 < d by omega)
  have := (Int.ediv_emod_unique (a := n) (b := d) (q := n.tdiv d - 1) (r := n.tmod d + d) (by omega)).2 ⟨by rw [Int.mul_sub]; omega, by omega, by omega⟩
  exact ⟨this.1.symm, this.2.symm⟩
theorem floor_pos {n d : Int} (hd : 1 ≤ d) (h : 0 ≤ n.tmod d) : n.tdiv d = n / d ∧ n.tmod d = n % d := by
  have e := Int.mul_tdiv_add_tmod n d
  have l := Int.tmod_lt_of_pos n (show 0 < d by omega)
  have := (Int.ediv_emod_unique (a := n) (b := d) (q := n.tdiv d) (r := n.tmod d) (by omega)).2 ⟨by omega, by omega, by omega⟩
  exact ⟨this.1.symm, this.2.symm⟩
theorem ediv_lo {n d : Int} (hd : 1 ≤ d) (hn : n ≤ 0) : n ≤ n / d := by
  rw [Int.le_ediv_iff_mul_le (by omega)]
  have := Int.mul_le_mul_of_nonpos_left (a := n) hn hd
  omega
theorem ediv_hi {n d : Int} (hd : 1 ≤ d) (hn : 0 ≤ n) : 0 ≤ n / d ∧ n / d ≤ n :=
  ⟨Int.ediv_nonneg hn (by omega), Int.ediv_le_self d hn⟩
/-- a quotient downwards lies between the number and 0 -/
theorem ediv_bd {n d : Int} (hd : 1 ≤ d) (l u : Int) (hl : l ≤ n) (hu : n ≤ u) (h0 : l ≤ 0) (h1 : 0 ≤ u) : l ≤ n / d ∧ n / d ≤ u := by
  rcases Int.lt_or_le n 0 with h | h
  · have := ediv_lo hd (n := n) (by omega)
    have : n / d ≤ 0 := by
      have := Int.ediv_le_ediv (a := n) (b := 0) (c := d) (by omega) (by omega)
      simpa using this
    omega
  · have := ediv_hi hd h
    omega

/-- is the rest so great, by the way m, that the next higher whole number is taken? -/
def rises (q r d m : Int) : Bool :=
  if m = 1 then false else if m = 2 then true else if m = 3 then decide (q < 0)
  else if r = d - r then (if m = 4 then decide (0 ≤ q) else if m = 5 then decide (q % 2 ≠ 0) else decide (q < 0))
  else decide (d - r < r)
/-- n divided by d, rounded by the way m -/
def rnd (n d m : Int) : Int := if 0 < n % d ∧ rises (n / d) (n % d) d m = true then n / d + 1 else n / d
theorem rnd_cases (n d m : Int) : rnd n d m = n / d ∨ (rnd n d m = n / d + 1 ∧ 0 < n % d) := by
  unfold rnd
  split
  · exact .inr ⟨rfl, by omega⟩
  · exact .inl rfl
theorem rnd_bd {n d m : Int} (hd : 1 ≤ d) (l u : Int) (hl : l ≤ n) (hu : n ≤ u) (h0 : l ≤ 0) (h1 : 0 ≤ u) : l ≤ rnd n d m ∧ rnd n d m ≤ u := by
  have b := ediv_bd hd l u hl hu h0 h1
  rcases rnd_cases n d m with e | ⟨e, hr⟩
  · omega
  · refine ⟨by omega, ?_⟩
    rw [e]
    -- a rest is left: the quotient is below the number, or below 0
    rcases Int.lt_or_le n 0 with hn | hn
    · have : n / d < 0 := Int.ediv_neg_of_neg_of_pos hn (by omega)
      omega
    · have hq := ediv_hi hd hn
      have e2 := Int.mul_ediv_add_emod n d
      rcases Int.lt_or_le (n / d) n with h | h
      · omega
      · exfalso
        have hm : n / d ≤ d * (n / d) := by
          have := Int.mul_le_mul_of_nonneg_right (a := 1) (b := d) (c := n / d) hd hq.1
          omega
        omega

/-- may an amount be? -/
def amtB (x : Int) : Bool := decide (-100000000000 ≤ x ∧ x ≤ 100000000000)
/-- may an exact amount be? -/
def exB (x : Int) : Bool := decide (-1000000000000000 ≤ x ∧ x ≤ 1000000000000000)
def modeB (m : Int) : Bool := decide (1 ≤ m ∧ m ≤ 6)
def rateB (r : Int) : Bool := decide (0 ≤ r ∧ r ≤ 10000)
theorem amtB_yes {x : Int} (h : amtB x = true) : -100000000000 ≤ x ∧ x ≤ 100000000000 := by simpa [amtB] using h
theorem amtB_no {x : Int} (h : amtB x = false) : x < -100000000000 ∨ 100000000000 < x := by
  have : ¬ (-100000000000 ≤ x ∧ x ≤ 100000000000) := by simpa [amtB] using h
  omega
theorem amtB_mk {x : Int} (h : -100000000000 ≤ x) (h' : x ≤ 100000000000) : amtB x = true := by simp [amtB, h, h']
theorem amtB_mk_no {x : Int} (h : x < -100000000000 ∨ 100000000000 < x) : amtB x = false := by simp only [amtB, decide_eq_false_iff_not]; omega
theorem exB_yes {x : Int} (h : exB x = true) : -1000000000000000 ≤ x ∧ x ≤ 1000000000000000 := by simpa [exB] using h
theorem exB_no {x : Int} (h : exB x = false) : x < -1000000000000000 ∨ 1000000000000000 < x := by
  have : ¬ (-1000000000000000 ≤ x ∧ x ≤ 1000000000000000) := by simpa [exB] using h
  omega
theorem exB_mk {x : Int} (h : -1000000000000000 ≤ x) (h' : x ≤ 1000000000000000) : exB x = true := by simp [exB, h, h']
theorem modeB_yes {x : Int} (h : modeB x = true) : 1 ≤ x ∧ x ≤ 6 := by simpa [modeB] using h
theorem modeB_no {x : Int} (h : modeB x = false) : x < 1 ∨ 6 < x := by
  have : ¬ (1 ≤ x ∧ x ≤ 6) := by simpa [modeB] using h
  omega
theorem modeB_mk {x : Int} (h : 1 ≤ x) (h' : x ≤ 6) : modeB x = true := by simp [modeB, h, h']
theorem rateB_yes {x : Int} (h : rateB x = true) : 0 ≤ x ∧ x ≤ 10000 := by simpa [rateB] using h
theorem rateB_no {x : Int} (h : rateB x = false) : x < 0 ∨ 10000 < x := by
  have : ¬ (0 ≤ x ∧ x ≤ 10000) := by simpa [rateB] using h
  omega
theorem rateB_mk {x : Int} (h : 0 ≤ x) (h' : x ≤ 10000) : rateB x = true := by simp [rateB, h, h']
/-- an amount times a number from 0 to k stays within k times the most -/
theorem mul_bd {x r : Int} (k : Int) (hx : -100000000000 ≤ x) (hx' : x ≤ 100000000000) (hr : 0 ≤ r) (hr' : r ≤ k) : -(100000000000 * k) ≤ x * r ∧ x * r ≤ 100000000000 * k := by
  have a := Int.mul_le_mul_of_nonneg_right hx' hr
  have b := Int.mul_le_mul_of_nonneg_right hx hr
  have c : 100000000000 * r ≤ 100000000000 * k := Int.mul_le_mul_of_nonneg_left hr' (by omega)
  constructor
  · rw [Int.neg_mul] at b; omega
  · omega

/-- a slice's first n elements, wherever they lie -/
def rowAt (w : World) (A : Option Addr) (n : Nat) (f : Nat → Value) : Prop :=
  0 < n → ∃ b o, A = some ⟨b, o, none⟩ ∧ ∀ i, i < n → w.cell? ⟨b, o + i, none⟩ = some (f i)
def allB (f : Nat → Int) (n : Nat) : Bool := (List.range n).all fun i => amtB (f i)
theorem allB_succ (f : Nat → Int) (n : Nat) : allB f (n + 1) = (allB f n && amtB (f n)) := by
  simp [allB, List.range_succ]
theorem allB_true {f : Nat → Int} {n : Nat} (h : allB f n = true) : ∀ i, i < n → amtB (f i) = true := by
  simpa [allB] using h
theorem allB_false {f : Nat → Int} {n k : Nat} (hk : k < n) (h : amtB (f k) = false) : allB f n = false := by
  simp only [allB, List.all_eq_false, List.mem_range]
  exact ⟨k, hk, by simp [h]⟩

theorem ret_b {a b : Bool} (h : a = b) : Ending.returned (.bool a) = .returned (.bool b) := by rw [h]
theorem ret_i {k : IntKind} {a b : Int} (h : a = b) : Ending.returned (.int k a) = .returned (.int k b) := by rw [h]
theorem ret_ii {k l : IntKind} {a b c d : Int} (h : a = c) (h' : b = d) : Ending.returned (.tuple #[.int k a, .int l b]) = .returned (.tuple #[.int k c, .int l d]) := by rw [h, h']
theorem ret_iii {k l m : IntKind} {a b c d e f : Int} (h : a = d) (h' : b = e) (h'' : c = f) :
    Ending.returned (.tuple #[.int k a, .int l b, .int m c]) = .returned (.tuple #[.int k d, .int l e, .int m f]) := by rw [h, h', h'']
end Go.Proofs.YthknjpmhomjobaaGreatDoor
