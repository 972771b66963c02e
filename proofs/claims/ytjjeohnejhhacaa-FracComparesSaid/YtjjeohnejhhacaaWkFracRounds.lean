/- The walk of the law FracRounds. -/
import Derived.Test.YtjjeohnejhhacaaFracP
namespace Go.Proofs.Ytjjeohnejhhacaa
open Go.RowKit
set_option linter.unusedVariables false

def greatB (x : Int) : Bool := decide (2305843009213693952 < x ∨ x < -2305843009213693952)
theorem greatB_no {x : Int} (h : greatB x = false) : x ≤ 2305843009213693952 ∧ -2305843009213693952 ≤ x := by
  have : ¬ (2305843009213693952 < x ∨ x < -2305843009213693952) := by simpa [greatB] using h
  omega
theorem great_b (x : Int) (b : Bool) (h : greatB x = b) (w : World) : Calls Try.prog 11 #[.int .i64 x] w fun e w' => e = .returned (.bool b) ∧ w = w' := by
  subst h
  go_enter Try.func11, Try.ntmps11
  go_wp2
  · go_ret
    exact ⟨ret_b (by simp [greatB]), rfl⟩
  · go_ret
    exact ⟨ret_b (by simp [greatB]; omega), rfl⟩

/-- what is left of n behind q times d, if q is n by d, rounded by the way m -/
theorem rnd_rest {n d m : Int} (hd : 1 ≤ d) (hm : modeB m = true) (hz : 0 < n % d) :
    ∃ r, n - rnd n d m * d = r ∧ -d < r ∧ r < d ∧ r ≠ 0 ∧ (m = 1 → 0 < r) ∧ (m = 2 → r < 0) ∧ (m = 3 → (0 < r ↔ 0 < n)) ∧
      (m = 4 → (2 * r < d ∧ -d < 2 * r) ∨ (2 * r = d ∧ n < 0) ∨ (2 * r = -d ∧ 0 < n)) ∧
      (m = 6 → (2 * r < d ∧ -d < 2 * r) ∨ (2 * r = d ∧ 0 < n) ∨ (2 * r = -d ∧ n < 0)) ∧
      (m = 5 → (2 * r < d ∧ -d < 2 * r) ∨ ((2 * r = d ∨ 2 * r = -d) ∧ rnd n d m % 2 = 0)) := by
  have e := Int.mul_ediv_add_emod n d
  have c := Int.emod_lt_of_pos n (show 0 < d by omega)
  have m1 := modeB_yes hm
  have hs : (n / d < 0 ↔ n < 0) := by
    constructor
    · intro h
      rcases Int.lt_or_le n 0 with h' | h'
      · exact h'
      · have := Int.ediv_nonneg h' (show 0 ≤ d by omega)
        omega
    · intro h
      exact Int.ediv_neg_of_neg_of_pos h (by omega)
  have hn0 : n ≠ 0 := by rintro rfl; simp at hz
  generalize hq : n / d = q at *
  generalize hr : n % d = r at *
  have h1 : n - q * d = r := by rw [Int.mul_comm q d]; omega
  have h2 : n - (q + 1) * d = r - d := by rw [Int.add_mul, Int.mul_comm q d]; omega
  have u1 : rises q r d m = true → rnd n d m = q + 1 := fun h => by unfold rnd; rw [hq, hr, if_pos ⟨hz, h⟩]
  have u2 : rises q r d m = false → rnd n d m = q := fun h => by unfold rnd; rw [hq, hr, if_neg (by rw [h]; simp)]
  have hcase : m = 1 ∨ m = 2 ∨ m = 3 ∨ m = 4 ∨ m = 5 ∨ m = 6 := by omega
  cases hR : rises q r d m
  · rw [u2 hR]
    refine ⟨r, h1, by omega, c, by omega, ?_⟩
    rcases hcase with rfl | rfl | rfl | rfl | rfl | rfl <;> simp [rises] at hR <;> (try split at hR) <;> (try simp at hR) <;> refine ⟨?_, ?_, ?_, ?_, ?_, ?_⟩ <;> intro h <;> omega
  · rw [u1 hR]
    refine ⟨r - d, h2, by omega, by omega, by omega, ?_⟩
    rcases hcase with rfl | rfl | rfl | rfl | rfl | rfl <;> simp [rises] at hR <;> (try split at hR) <;> (try simp at hR) <;> refine ⟨?_, ?_, ?_, ?_, ?_, ?_⟩ <;> intro h <;> omega

-- CASES
theorem even_tmod {q : Int} (h : q % 2 = 0) : (q.tmod 2 == 0) = true := by
  have := odd_tmod q
  simp [h] at this
  simp [this]
set_option maxHeartbeats 2000000 in
set_option maxRecDepth 100000 in
theorem fr_zero (n d q : Int) (w : World) (hn : -2305843009213693952 ≤ n) (hn' : n ≤ 2305843009213693952) (hd : 1 ≤ d) (hd' : d ≤ 2305843009213693952)
    (gr1 : ∀ w, Calls Try.prog 11 #[.int .i64 n] w fun e w' => e = .returned (.bool false) ∧ w = w')
    (gr2 : ∀ w, Calls Try.prog 11 #[.int .i64 d] w fun e w' => e = .returned (.bool false) ∧ w = w')
    (b1 : -4611686018427387904 ≤ q * d) (b2 : q * d ≤ 4611686018427387904)
    (m : Int) (rd : ∀ w : World, Calls Try.prog 10 #[.int .i64 n, .int .i64 d, .int .i64 m] w fun e w' => e = .returned (.tuple #[.int .i64 q, .int .i64 0]) ∧ ∃ k, w' = w.drewN k)
    (m1 : 1 ≤ m) (m6 : m ≤ 6) (ht : n.tmod d = 0) (hr : n - q * d = 0) :
    Calls Try.prog 3 #[.int .i64 n, .int .i64 d, .int .i64 m] w fun e w' => e = .returned (.bool true) ∧ Below w.heap.size w w' := by
  have pa := parts_any w
  go_enter Try.func3, Try.ntmps3
  go_wp2_with (fail)
  refine pa.mono ?_
  rintro e w1 ⟨rfl, hb1⟩
  go_wp2_with (fail)
  refine (rd _).mono ?_
  rintro e w2 ⟨rfl, k, rfl⟩
  go_wp2_with (fail)
  refine (gr1 _).mono ?_
  rintro e w2 ⟨rfl, rfl⟩
  go_wp2_with (fail)
  refine (gr2 _).mono ?_
  rintro e w2 ⟨rfl, rfl⟩
  go_wp2
  all_goals go_ret
  all_goals exact ⟨ret_b (by first | rfl | (simp; done) | (simp; omega)), below_drewN hb1 _⟩

set_option maxHeartbeats 2000000 in
set_option maxRecDepth 100000 in
theorem fr_1 (n d q : Int) (w : World) (hn : -2305843009213693952 ≤ n) (hn' : n ≤ 2305843009213693952) (hd : 1 ≤ d) (hd' : d ≤ 2305843009213693952)
    (gr1 : ∀ w, Calls Try.prog 11 #[.int .i64 n] w fun e w' => e = .returned (.bool false) ∧ w = w')
    (gr2 : ∀ w, Calls Try.prog 11 #[.int .i64 d] w fun e w' => e = .returned (.bool false) ∧ w = w')
    (b1 : -4611686018427387904 ≤ q * d) (b2 : q * d ≤ 4611686018427387904)
    (rd : ∀ w : World, Calls Try.prog 10 #[.int .i64 n, .int .i64 d, .int .i64 1] w fun e w' => e = .returned (.tuple #[.int .i64 q, .int .i64 0]) ∧ ∃ k, w' = w.drewN k)
    (r : Int) (hr : n - q * d = r) (hr0 : (r == 0) = false) (l : -d < r) (u : r < d) (h : 0 < r) :
    Calls Try.prog 3 #[.int .i64 n, .int .i64 d, .int .i64 1] w fun e w' => e = .returned (.bool true) ∧ Below w.heap.size w w' := by
  have pa := parts_any w
  go_enter Try.func3, Try.ntmps3
  go_wp2_with (fail)
  refine pa.mono ?_
  rintro e w1 ⟨rfl, hb1⟩
  go_wp2_with (fail)
  refine (rd _).mono ?_
  rintro e w2 ⟨rfl, k, rfl⟩
  go_wp2_with (fail)
  refine (gr1 _).mono ?_
  rintro e w2 ⟨rfl, rfl⟩
  go_wp2_with (fail)
  refine (gr2 _).mono ?_
  rintro e w2 ⟨rfl, rfl⟩
  go_wp2
  all_goals go_ret
  all_goals exact ⟨ret_b (by first | rfl | (simp; done) | (simp; omega)), below_drewN hb1 _⟩

set_option maxHeartbeats 2000000 in
set_option maxRecDepth 100000 in
theorem fr_2 (n d q : Int) (w : World) (hn : -2305843009213693952 ≤ n) (hn' : n ≤ 2305843009213693952) (hd : 1 ≤ d) (hd' : d ≤ 2305843009213693952)
    (gr1 : ∀ w, Calls Try.prog 11 #[.int .i64 n] w fun e w' => e = .returned (.bool false) ∧ w = w')
    (gr2 : ∀ w, Calls Try.prog 11 #[.int .i64 d] w fun e w' => e = .returned (.bool false) ∧ w = w')
    (b1 : -4611686018427387904 ≤ q * d) (b2 : q * d ≤ 4611686018427387904)
    (rd : ∀ w : World, Calls Try.prog 10 #[.int .i64 n, .int .i64 d, .int .i64 2] w fun e w' => e = .returned (.tuple #[.int .i64 q, .int .i64 0]) ∧ ∃ k, w' = w.drewN k)
    (r : Int) (hr : n - q * d = r) (hr0 : (r == 0) = false) (l : -d < r) (u : r < d) (h : r < 0) :
    Calls Try.prog 3 #[.int .i64 n, .int .i64 d, .int .i64 2] w fun e w' => e = .returned (.bool true) ∧ Below w.heap.size w w' := by
  have pa := parts_any w
  go_enter Try.func3, Try.ntmps3
  go_wp2_with (fail)
  refine pa.mono ?_
  rintro e w1 ⟨rfl, hb1⟩
  go_wp2_with (fail)
  refine (rd _).mono ?_
  rintro e w2 ⟨rfl, k, rfl⟩
  go_wp2_with (fail)
  refine (gr1 _).mono ?_
  rintro e w2 ⟨rfl, rfl⟩
  go_wp2_with (fail)
  refine (gr2 _).mono ?_
  rintro e w2 ⟨rfl, rfl⟩
  go_wp2
  all_goals go_ret
  all_goals exact ⟨ret_b (by first | rfl | (simp; done) | (simp; omega)), below_drewN hb1 _⟩

set_option maxHeartbeats 2000000 in
set_option maxRecDepth 100000 in
theorem fr_3p (n d q : Int) (w : World) (hn : -2305843009213693952 ≤ n) (hn' : n ≤ 2305843009213693952) (hd : 1 ≤ d) (hd' : d ≤ 2305843009213693952)
    (gr1 : ∀ w, Calls Try.prog 11 #[.int .i64 n] w fun e w' => e = .returned (.bool false) ∧ w = w')
    (gr2 : ∀ w, Calls Try.prog 11 #[.int .i64 d] w fun e w' => e = .returned (.bool false) ∧ w = w')
    (b1 : -4611686018427387904 ≤ q * d) (b2 : q * d ≤ 4611686018427387904)
    (rd : ∀ w : World, Calls Try.prog 10 #[.int .i64 n, .int .i64 d, .int .i64 3] w fun e w' => e = .returned (.tuple #[.int .i64 q, .int .i64 0]) ∧ ∃ k, w' = w.drewN k)
    (r : Int) (hr : n - q * d = r) (hr0 : (r == 0) = false) (l : -d < r) (u : r < d) (h : 0 < r) (h2 : 0 < n) :
    Calls Try.prog 3 #[.int .i64 n, .int .i64 d, .int .i64 3] w fun e w' => e = .returned (.bool true) ∧ Below w.heap.size w w' := by
  have pa := parts_any w
  go_enter Try.func3, Try.ntmps3
  go_wp2_with (fail)
  refine pa.mono ?_
  rintro e w1 ⟨rfl, hb1⟩
  go_wp2_with (fail)
  refine (rd _).mono ?_
  rintro e w2 ⟨rfl, k, rfl⟩
  go_wp2_with (fail)
  refine (gr1 _).mono ?_
  rintro e w2 ⟨rfl, rfl⟩
  go_wp2_with (fail)
  refine (gr2 _).mono ?_
  rintro e w2 ⟨rfl, rfl⟩
  go_wp2
  all_goals go_ret
  all_goals exact ⟨ret_b (by first | rfl | (simp; done) | (simp; omega)), below_drewN hb1 _⟩

set_option maxHeartbeats 2000000 in
set_option maxRecDepth 100000 in
theorem fr_3n (n d q : Int) (w : World) (hn : -2305843009213693952 ≤ n) (hn' : n ≤ 2305843009213693952) (hd : 1 ≤ d) (hd' : d ≤ 2305843009213693952)
    (gr1 : ∀ w, Calls Try.prog 11 #[.int .i64 n] w fun e w' => e = .returned (.bool false) ∧ w = w')
    (gr2 : ∀ w, Calls Try.prog 11 #[.int .i64 d] w fun e w' => e = .returned (.bool false) ∧ w = w')
    (b1 : -4611686018427387904 ≤ q * d) (b2 : q * d ≤ 4611686018427387904)
    (rd : ∀ w : World, Calls Try.prog 10 #[.int .i64 n, .int .i64 d, .int .i64 3] w fun e w' => e = .returned (.tuple #[.int .i64 q, .int .i64 0]) ∧ ∃ k, w' = w.drewN k)
    (r : Int) (hr : n - q * d = r) (hr0 : (r == 0) = false) (l : -d < r) (u : r < d) (h : r < 0) (h2 : n < 0) :
    Calls Try.prog 3 #[.int .i64 n, .int .i64 d, .int .i64 3] w fun e w' => e = .returned (.bool true) ∧ Below w.heap.size w w' := by
  have pa := parts_any w
  go_enter Try.func3, Try.ntmps3
  go_wp2_with (fail)
  refine pa.mono ?_
  rintro e w1 ⟨rfl, hb1⟩
  go_wp2_with (fail)
  refine (rd _).mono ?_
  rintro e w2 ⟨rfl, k, rfl⟩
  go_wp2_with (fail)
  refine (gr1 _).mono ?_
  rintro e w2 ⟨rfl, rfl⟩
  go_wp2_with (fail)
  refine (gr2 _).mono ?_
  rintro e w2 ⟨rfl, rfl⟩
  go_wp2
  all_goals go_ret
  all_goals exact ⟨ret_b (by first | rfl | (simp; done) | (simp; omega)), below_drewN hb1 _⟩

set_option maxHeartbeats 2000000 in
set_option maxRecDepth 100000 in
theorem fr_4a (n d q : Int) (w : World) (hn : -2305843009213693952 ≤ n) (hn' : n ≤ 2305843009213693952) (hd : 1 ≤ d) (hd' : d ≤ 2305843009213693952)
    (gr1 : ∀ w, Calls Try.prog 11 #[.int .i64 n] w fun e w' => e = .returned (.bool false) ∧ w = w')
    (gr2 : ∀ w, Calls Try.prog 11 #[.int .i64 d] w fun e w' => e = .returned (.bool false) ∧ w = w')
    (b1 : -4611686018427387904 ≤ q * d) (b2 : q * d ≤ 4611686018427387904)
    (rd : ∀ w : World, Calls Try.prog 10 #[.int .i64 n, .int .i64 d, .int .i64 4] w fun e w' => e = .returned (.tuple #[.int .i64 q, .int .i64 0]) ∧ ∃ k, w' = w.drewN k)
    (r : Int) (hr : n - q * d = r) (hr0 : (r == 0) = false) (l : -d < r) (u : r < d) (h : 2 * r < d) (h2 : -d < 2 * r) :
    Calls Try.prog 3 #[.int .i64 n, .int .i64 d, .int .i64 4] w fun e w' => e = .returned (.bool true) ∧ Below w.heap.size w w' := by
  have pa := parts_any w
  go_enter Try.func3, Try.ntmps3
  go_wp2_with (fail)
  refine pa.mono ?_
  rintro e w1 ⟨rfl, hb1⟩
  go_wp2_with (fail)
  refine (rd _).mono ?_
  rintro e w2 ⟨rfl, k, rfl⟩
  go_wp2_with (fail)
  refine (gr1 _).mono ?_
  rintro e w2 ⟨rfl, rfl⟩
  go_wp2_with (fail)
  refine (gr2 _).mono ?_
  rintro e w2 ⟨rfl, rfl⟩
  go_wp2
  all_goals go_ret
  all_goals exact ⟨ret_b (by first | rfl | (simp; done) | (simp; omega)), below_drewN hb1 _⟩

set_option maxHeartbeats 2000000 in
set_option maxRecDepth 100000 in
theorem fr_5a (n d q : Int) (w : World) (hn : -2305843009213693952 ≤ n) (hn' : n ≤ 2305843009213693952) (hd : 1 ≤ d) (hd' : d ≤ 2305843009213693952)
    (gr1 : ∀ w, Calls Try.prog 11 #[.int .i64 n] w fun e w' => e = .returned (.bool false) ∧ w = w')
    (gr2 : ∀ w, Calls Try.prog 11 #[.int .i64 d] w fun e w' => e = .returned (.bool false) ∧ w = w')
    (b1 : -4611686018427387904 ≤ q * d) (b2 : q * d ≤ 4611686018427387904)
    (rd : ∀ w : World, Calls Try.prog 10 #[.int .i64 n, .int .i64 d, .int .i64 5] w fun e w' => e = .returned (.tuple #[.int .i64 q, .int .i64 0]) ∧ ∃ k, w' = w.drewN k)
    (r : Int) (hr : n - q * d = r) (hr0 : (r == 0) = false) (l : -d < r) (u : r < d) (h : 2 * r < d) (h2 : -d < 2 * r) :
    Calls Try.prog 3 #[.int .i64 n, .int .i64 d, .int .i64 5] w fun e w' => e = .returned (.bool true) ∧ Below w.heap.size w w' := by
  have pa := parts_any w
  go_enter Try.func3, Try.ntmps3
  go_wp2_with (fail)
  refine pa.mono ?_
  rintro e w1 ⟨rfl, hb1⟩
  go_wp2_with (fail)
  refine (rd _).mono ?_
  rintro e w2 ⟨rfl, k, rfl⟩
  go_wp2_with (fail)
  refine (gr1 _).mono ?_
  rintro e w2 ⟨rfl, rfl⟩
  go_wp2_with (fail)
  refine (gr2 _).mono ?_
  rintro e w2 ⟨rfl, rfl⟩
  go_wp2
  all_goals go_ret
  all_goals exact ⟨ret_b (by first | rfl | (simp; done) | (simp; omega)), below_drewN hb1 _⟩

set_option maxHeartbeats 2000000 in
set_option maxRecDepth 100000 in
theorem fr_6a (n d q : Int) (w : World) (hn : -2305843009213693952 ≤ n) (hn' : n ≤ 2305843009213693952) (hd : 1 ≤ d) (hd' : d ≤ 2305843009213693952)
    (gr1 : ∀ w, Calls Try.prog 11 #[.int .i64 n] w fun e w' => e = .returned (.bool false) ∧ w = w')
    (gr2 : ∀ w, Calls Try.prog 11 #[.int .i64 d] w fun e w' => e = .returned (.bool false) ∧ w = w')
    (b1 : -4611686018427387904 ≤ q * d) (b2 : q * d ≤ 4611686018427387904)
    (rd : ∀ w : World, Calls Try.prog 10 #[.int .i64 n, .int .i64 d, .int .i64 6] w fun e w' => e = .returned (.tuple #[.int .i64 q, .int .i64 0]) ∧ ∃ k, w' = w.drewN k)
    (r : Int) (hr : n - q * d = r) (hr0 : (r == 0) = false) (l : -d < r) (u : r < d) (h : 2 * r < d) (h2 : -d < 2 * r) :
    Calls Try.prog 3 #[.int .i64 n, .int .i64 d, .int .i64 6] w fun e w' => e = .returned (.bool true) ∧ Below w.heap.size w w' := by
  have pa := parts_any w
  go_enter Try.func3, Try.ntmps3
  go_wp2_with (fail)
  refine pa.mono ?_
  rintro e w1 ⟨rfl, hb1⟩
  go_wp2_with (fail)
  refine (rd _).mono ?_
  rintro e w2 ⟨rfl, k, rfl⟩
  go_wp2_with (fail)
  refine (gr1 _).mono ?_
  rintro e w2 ⟨rfl, rfl⟩
  go_wp2_with (fail)
  refine (gr2 _).mono ?_
  rintro e w2 ⟨rfl, rfl⟩
  go_wp2
  all_goals go_ret
  all_goals exact ⟨ret_b (by first | rfl | (simp; done) | (simp; omega)), below_drewN hb1 _⟩

set_option maxHeartbeats 2000000 in
set_option maxRecDepth 100000 in
theorem fr_4b (n d q : Int) (w : World) (hn : -2305843009213693952 ≤ n) (hn' : n ≤ 2305843009213693952) (hd : 1 ≤ d) (hd' : d ≤ 2305843009213693952)
    (gr1 : ∀ w, Calls Try.prog 11 #[.int .i64 n] w fun e w' => e = .returned (.bool false) ∧ w = w')
    (gr2 : ∀ w, Calls Try.prog 11 #[.int .i64 d] w fun e w' => e = .returned (.bool false) ∧ w = w')
    (b1 : -4611686018427387904 ≤ q * d) (b2 : q * d ≤ 4611686018427387904)
    (rd : ∀ w : World, Calls Try.prog 10 #[.int .i64 n, .int .i64 d, .int .i64 4] w fun e w' => e = .returned (.tuple #[.int .i64 q, .int .i64 0]) ∧ ∃ k, w' = w.drewN k)
    (r : Int) (hr : n - q * d = r) (hr0 : (r == 0) = false) (l : -d < r) (u : r < d) (h : (2 * r == d) = true) (h1 : d ≤ 2 * r) (h2 : n < 0) :
    Calls Try.prog 3 #[.int .i64 n, .int .i64 d, .int .i64 4] w fun e w' => e = .returned (.bool true) ∧ Below w.heap.size w w' := by
  have pa := parts_any w
  go_enter Try.func3, Try.ntmps3
  go_wp2_with (fail)
  refine pa.mono ?_
  rintro e w1 ⟨rfl, hb1⟩
  go_wp2_with (fail)
  refine (rd _).mono ?_
  rintro e w2 ⟨rfl, k, rfl⟩
  go_wp2_with (fail)
  refine (gr1 _).mono ?_
  rintro e w2 ⟨rfl, rfl⟩
  go_wp2_with (fail)
  refine (gr2 _).mono ?_
  rintro e w2 ⟨rfl, rfl⟩
  go_wp2
  all_goals go_ret
  all_goals exact ⟨ret_b (by first | rfl | (simp; done) | (simp; omega)), below_drewN hb1 _⟩

set_option maxHeartbeats 2000000 in
set_option maxRecDepth 100000 in
theorem fr_4c (n d q : Int) (w : World) (hn : -2305843009213693952 ≤ n) (hn' : n ≤ 2305843009213693952) (hd : 1 ≤ d) (hd' : d ≤ 2305843009213693952)
    (gr1 : ∀ w, Calls Try.prog 11 #[.int .i64 n] w fun e w' => e = .returned (.bool false) ∧ w = w')
    (gr2 : ∀ w, Calls Try.prog 11 #[.int .i64 d] w fun e w' => e = .returned (.bool false) ∧ w = w')
    (b1 : -4611686018427387904 ≤ q * d) (b2 : q * d ≤ 4611686018427387904)
    (rd : ∀ w : World, Calls Try.prog 10 #[.int .i64 n, .int .i64 d, .int .i64 4] w fun e w' => e = .returned (.tuple #[.int .i64 q, .int .i64 0]) ∧ ∃ k, w' = w.drewN k)
    (r : Int) (hr : n - q * d = r) (hr0 : (r == 0) = false) (l : -d < r) (u : r < d) (h : (2 * r == -d) = true) (h0 : (2 * r == d) = false) (h1 : 2 * r ≤ -d) (h2 : 0 < n) :
    Calls Try.prog 3 #[.int .i64 n, .int .i64 d, .int .i64 4] w fun e w' => e = .returned (.bool true) ∧ Below w.heap.size w w' := by
  have pa := parts_any w
  go_enter Try.func3, Try.ntmps3
  go_wp2_with (fail)
  refine pa.mono ?_
  rintro e w1 ⟨rfl, hb1⟩
  go_wp2_with (fail)
  refine (rd _).mono ?_
  rintro e w2 ⟨rfl, k, rfl⟩
  go_wp2_with (fail)
  refine (gr1 _).mono ?_
  rintro e w2 ⟨rfl, rfl⟩
  go_wp2_with (fail)
  refine (gr2 _).mono ?_
  rintro e w2 ⟨rfl, rfl⟩
  go_wp2
  all_goals go_ret
  all_goals exact ⟨ret_b (by first | rfl | (simp; done) | (simp; omega)), below_drewN hb1 _⟩

set_option maxHeartbeats 2000000 in
set_option maxRecDepth 100000 in
theorem fr_6b (n d q : Int) (w : World) (hn : -2305843009213693952 ≤ n) (hn' : n ≤ 2305843009213693952) (hd : 1 ≤ d) (hd' : d ≤ 2305843009213693952)
    (gr1 : ∀ w, Calls Try.prog 11 #[.int .i64 n] w fun e w' => e = .returned (.bool false) ∧ w = w')
    (gr2 : ∀ w, Calls Try.prog 11 #[.int .i64 d] w fun e w' => e = .returned (.bool false) ∧ w = w')
    (b1 : -4611686018427387904 ≤ q * d) (b2 : q * d ≤ 4611686018427387904)
    (rd : ∀ w : World, Calls Try.prog 10 #[.int .i64 n, .int .i64 d, .int .i64 6] w fun e w' => e = .returned (.tuple #[.int .i64 q, .int .i64 0]) ∧ ∃ k, w' = w.drewN k)
    (r : Int) (hr : n - q * d = r) (hr0 : (r == 0) = false) (l : -d < r) (u : r < d) (h : (2 * r == d) = true) (h1 : d ≤ 2 * r) (h2 : 0 < n) :
    Calls Try.prog 3 #[.int .i64 n, .int .i64 d, .int .i64 6] w fun e w' => e = .returned (.bool true) ∧ Below w.heap.size w w' := by
  have pa := parts_any w
  go_enter Try.func3, Try.ntmps3
  go_wp2_with (fail)
  refine pa.mono ?_
  rintro e w1 ⟨rfl, hb1⟩
  go_wp2_with (fail)
  refine (rd _).mono ?_
  rintro e w2 ⟨rfl, k, rfl⟩
  go_wp2_with (fail)
  refine (gr1 _).mono ?_
  rintro e w2 ⟨rfl, rfl⟩
  go_wp2_with (fail)
  refine (gr2 _).mono ?_
  rintro e w2 ⟨rfl, rfl⟩
  go_wp2
  all_goals go_ret
  all_goals exact ⟨ret_b (by first | rfl | (simp; done) | (simp; omega)), below_drewN hb1 _⟩

set_option maxHeartbeats 2000000 in
set_option maxRecDepth 100000 in
theorem fr_6c (n d q : Int) (w : World) (hn : -2305843009213693952 ≤ n) (hn' : n ≤ 2305843009213693952) (hd : 1 ≤ d) (hd' : d ≤ 2305843009213693952)
    (gr1 : ∀ w, Calls Try.prog 11 #[.int .i64 n] w fun e w' => e = .returned (.bool false) ∧ w = w')
    (gr2 : ∀ w, Calls Try.prog 11 #[.int .i64 d] w fun e w' => e = .returned (.bool false) ∧ w = w')
    (b1 : -4611686018427387904 ≤ q * d) (b2 : q * d ≤ 4611686018427387904)
    (rd : ∀ w : World, Calls Try.prog 10 #[.int .i64 n, .int .i64 d, .int .i64 6] w fun e w' => e = .returned (.tuple #[.int .i64 q, .int .i64 0]) ∧ ∃ k, w' = w.drewN k)
    (r : Int) (hr : n - q * d = r) (hr0 : (r == 0) = false) (l : -d < r) (u : r < d) (h : (2 * r == -d) = true) (h0 : (2 * r == d) = false) (h1 : 2 * r ≤ -d) (h2 : n < 0) :
    Calls Try.prog 3 #[.int .i64 n, .int .i64 d, .int .i64 6] w fun e w' => e = .returned (.bool true) ∧ Below w.heap.size w w' := by
  have pa := parts_any w
  go_enter Try.func3, Try.ntmps3
  go_wp2_with (fail)
  refine pa.mono ?_
  rintro e w1 ⟨rfl, hb1⟩
  go_wp2_with (fail)
  refine (rd _).mono ?_
  rintro e w2 ⟨rfl, k, rfl⟩
  go_wp2_with (fail)
  refine (gr1 _).mono ?_
  rintro e w2 ⟨rfl, rfl⟩
  go_wp2_with (fail)
  refine (gr2 _).mono ?_
  rintro e w2 ⟨rfl, rfl⟩
  go_wp2
  all_goals go_ret
  all_goals exact ⟨ret_b (by first | rfl | (simp; done) | (simp; omega)), below_drewN hb1 _⟩

set_option maxHeartbeats 2000000 in
set_option maxRecDepth 100000 in
theorem fr_5b (n d q : Int) (w : World) (hn : -2305843009213693952 ≤ n) (hn' : n ≤ 2305843009213693952) (hd : 1 ≤ d) (hd' : d ≤ 2305843009213693952)
    (gr1 : ∀ w, Calls Try.prog 11 #[.int .i64 n] w fun e w' => e = .returned (.bool false) ∧ w = w')
    (gr2 : ∀ w, Calls Try.prog 11 #[.int .i64 d] w fun e w' => e = .returned (.bool false) ∧ w = w')
    (b1 : -4611686018427387904 ≤ q * d) (b2 : q * d ≤ 4611686018427387904)
    (rd : ∀ w : World, Calls Try.prog 10 #[.int .i64 n, .int .i64 d, .int .i64 5] w fun e w' => e = .returned (.tuple #[.int .i64 q, .int .i64 0]) ∧ ∃ k, w' = w.drewN k)
    (r : Int) (hr : n - q * d = r) (hr0 : (r == 0) = false) (l : -d < r) (u : r < d) (h : (2 * r == d) = true) (h1 : d ≤ 2 * r) (h2 : (q.tmod 2 == 0) = true) :
    Calls Try.prog 3 #[.int .i64 n, .int .i64 d, .int .i64 5] w fun e w' => e = .returned (.bool true) ∧ Below w.heap.size w w' := by
  have pa := parts_any w
  go_enter Try.func3, Try.ntmps3
  go_wp2_with (fail)
  refine pa.mono ?_
  rintro e w1 ⟨rfl, hb1⟩
  go_wp2_with (fail)
  refine (rd _).mono ?_
  rintro e w2 ⟨rfl, k, rfl⟩
  go_wp2_with (fail)
  refine (gr1 _).mono ?_
  rintro e w2 ⟨rfl, rfl⟩
  go_wp2_with (fail)
  refine (gr2 _).mono ?_
  rintro e w2 ⟨rfl, rfl⟩
  go_wp2
  all_goals go_ret
  all_goals exact ⟨ret_b (by first | rfl | (simp; done) | (simp; omega)), below_drewN hb1 _⟩

set_option maxHeartbeats 2000000 in
set_option maxRecDepth 100000 in
theorem fr_5c (n d q : Int) (w : World) (hn : -2305843009213693952 ≤ n) (hn' : n ≤ 2305843009213693952) (hd : 1 ≤ d) (hd' : d ≤ 2305843009213693952)
    (gr1 : ∀ w, Calls Try.prog 11 #[.int .i64 n] w fun e w' => e = .returned (.bool false) ∧ w = w')
    (gr2 : ∀ w, Calls Try.prog 11 #[.int .i64 d] w fun e w' => e = .returned (.bool false) ∧ w = w')
    (b1 : -4611686018427387904 ≤ q * d) (b2 : q * d ≤ 4611686018427387904)
    (rd : ∀ w : World, Calls Try.prog 10 #[.int .i64 n, .int .i64 d, .int .i64 5] w fun e w' => e = .returned (.tuple #[.int .i64 q, .int .i64 0]) ∧ ∃ k, w' = w.drewN k)
    (r : Int) (hr : n - q * d = r) (hr0 : (r == 0) = false) (l : -d < r) (u : r < d) (h : (2 * r == -d) = true) (h0 : (2 * r == d) = false) (h1 : 2 * r ≤ -d) (h2 : (q.tmod 2 == 0) = true) :
    Calls Try.prog 3 #[.int .i64 n, .int .i64 d, .int .i64 5] w fun e w' => e = .returned (.bool true) ∧ Below w.heap.size w w' := by
  have pa := parts_any w
  go_enter Try.func3, Try.ntmps3
  go_wp2_with (fail)
  refine pa.mono ?_
  rintro e w1 ⟨rfl, hb1⟩
  go_wp2_with (fail)
  refine (rd _).mono ?_
  rintro e w2 ⟨rfl, k, rfl⟩
  go_wp2_with (fail)
  refine (gr1 _).mono ?_
  rintro e w2 ⟨rfl, rfl⟩
  go_wp2_with (fail)
  refine (gr2 _).mono ?_
  rintro e w2 ⟨rfl, rfl⟩
  go_wp2
  all_goals go_ret
  all_goals exact ⟨ret_b (by first | rfl | (simp; done) | (simp; omega)), below_drewN hb1 _⟩

set_option maxHeartbeats 2000000 in
set_option maxRecDepth 100000 in
theorem wFracRounds (n d m : Int) (w : World) (hn : -9223372036854775808 ≤ n) (hn' : n ≤ 9223372036854775807) (_hd : -9223372036854775808 ≤ d) (hd' : d ≤ 9223372036854775807) (_hm : -9223372036854775808 ≤ m) (_hm' : m ≤ 9223372036854775807) :
    Calls Try.prog 3 #[.int .i64 n, .int .i64 d, .int .i64 m] w fun e w' => e = .returned (.bool true) ∧ Below w.heap.size w w' := by
  have pa := parts_any w
  by_cases hd : d ≤ 0
  · have rd := fun w => round_bad n d m w (.inl hd)
    go_enter Try.func3, Try.ntmps3
    go_wp2_with (fail)
    refine pa.mono ?_
    rintro e w1 ⟨rfl, hb1⟩
    go_wp2_with (fail)
    refine (rd _).mono ?_
    rintro e w2 ⟨rfl, rfl⟩
    go_wp2
    go_ret
    exact ⟨rfl, hb1⟩
  · have hd1 : 1 ≤ d := by omega
    clear hd
    cases hm : modeB m
    · have rd := fun w => round_bad n d m w (.inr hm)
      have hm2 := modeB_no hm
      rcases hm2 with hm2 | hm2
      · go_enter Try.func3, Try.ntmps3
        go_wp2_with (fail)
        refine pa.mono ?_
        rintro e w1 ⟨rfl, hb1⟩
        go_wp2_with (fail)
        refine (rd _).mono ?_
        rintro e w2 ⟨rfl, rfl⟩
        go_wp2
        go_ret
        exact ⟨rfl, hb1⟩
      · have hm3 : ¬ m < 1 := by omega
        go_enter Try.func3, Try.ntmps3
        go_wp2_with (fail)
        refine pa.mono ?_
        rintro e w1 ⟨rfl, hb1⟩
        go_wp2_with (fail)
        refine (rd _).mono ?_
        rintro e w2 ⟨rfl, rfl⟩
        go_wp2
        go_ret
        exact ⟨rfl, hb1⟩
    · have rd := fun w => round_ok n d m w hn hn' hd1 hd' hm
      have hm2 := modeB_yes hm
      obtain ⟨m1, m6⟩ := hm2
      cases hg : greatB n
      · cases hg2 : greatB d
        · have g1 := greatB_no hg
          have g2 := greatB_no hg2
          obtain ⟨g3, g4⟩ := g1
          obtain ⟨g5, g6⟩ := g2
          have gr1 := great_b n false hg
          have gr2 := great_b d false hg2
          clear hg hg2
          have hb := Int.lt_or_le 0 (n % d)
          have e := Int.mul_ediv_add_emod n d
          have em := Int.emod_nonneg n (show d ≠ 0 by omega)
          rcases hb with hz | hz
          · obtain ⟨r, hr, l, u, r0, f1, f2, f3, f4, f6, f5⟩ := rnd_rest hd1 hm hz
            generalize rnd n d m = q at *
            have b1 : -4611686018427387904 ≤ q * d := by omega
            have b2 : q * d ≤ 4611686018427387904 := by omega
            have hr0 : (r == 0) = false := by simpa using r0
            have hcase : m = 1 ∨ m = 2 ∨ m = 3 ∨ m = 4 ∨ m = 5 ∨ m = 6 := by omega
            have n0 : n ≠ 0 := by rintro rfl; simp at hz
            rcases hcase with rfl | rfl | rfl | rfl | rfl | rfl
            · exact fr_1 n d q w g4 g3 hd1 g5 gr1 gr2 b1 b2 rd r hr hr0 l u (f1 rfl)
            · exact fr_2 n d q w g4 g3 hd1 g5 gr1 gr2 b1 b2 rd r hr hr0 l u (f2 rfl)
            · have f := f3 rfl
              by_cases hp : 0 < n
              · exact fr_3p n d q w g4 g3 hd1 g5 gr1 gr2 b1 b2 rd r hr hr0 l u (f.2 hp) hp
              · exact fr_3n n d q w g4 g3 hd1 g5 gr1 gr2 b1 b2 rd r hr hr0 l u (by omega) (by omega)
            · rcases f4 rfl with ⟨x, y⟩ | ⟨x, y⟩ | ⟨x, y⟩
              · exact fr_4a n d q w g4 g3 hd1 g5 gr1 gr2 b1 b2 rd r hr hr0 l u x y
              · exact fr_4b n d q w g4 g3 hd1 g5 gr1 gr2 b1 b2 rd r hr hr0 l u (by simpa using x) (by omega) y
              · exact fr_4c n d q w g4 g3 hd1 g5 gr1 gr2 b1 b2 rd r hr hr0 l u (by simpa using x) (by simp; omega) (by omega) y
            · rcases f5 rfl with ⟨x, y⟩ | ⟨x | x, y⟩
              · exact fr_5a n d q w g4 g3 hd1 g5 gr1 gr2 b1 b2 rd r hr hr0 l u x y
              · exact fr_5b n d q w g4 g3 hd1 g5 gr1 gr2 b1 b2 rd r hr hr0 l u (by simpa using x) (by omega) (even_tmod y)
              · exact fr_5c n d q w g4 g3 hd1 g5 gr1 gr2 b1 b2 rd r hr hr0 l u (by simpa using x) (by simp; omega) (by omega) (even_tmod y)
            · rcases f6 rfl with ⟨x, y⟩ | ⟨x, y⟩ | ⟨x, y⟩
              · exact fr_6a n d q w g4 g3 hd1 g5 gr1 gr2 b1 b2 rd r hr hr0 l u x y
              · exact fr_6b n d q w g4 g3 hd1 g5 gr1 gr2 b1 b2 rd r hr hr0 l u (by simpa using x) (by omega) y
              · exact fr_6c n d q w g4 g3 hd1 g5 gr1 gr2 b1 b2 rd r hr hr0 l u (by simpa using x) (by simp; omega) (by omega) y
          · have hq : rnd n d m = n / d := by unfold rnd; rw [if_neg (by omega)]
            rw [hq] at rd
            have hdvd : d ∣ n := Int.dvd_of_emod_eq_zero (by omega)
            have ht : n.tmod d = 0 := Int.tmod_eq_zero_of_dvd hdvd
            generalize n / d = q at *
            rw [Int.mul_comm] at e
            have b1 : -4611686018427387904 ≤ q * d := by omega
            have b2 : q * d ≤ 4611686018427387904 := by omega
            exact fr_zero n d q w g4 g3 hd1 g5 gr1 gr2 b1 b2 m rd m1 m6 ht (by omega)
        · have gr1 := great_b n false hg
          have gr2 := great_b d true hg2
          generalize rnd n d m = q at *
          clear hg hg2 hm
          go_enter Try.func3, Try.ntmps3
          go_wp2_with (fail)
          refine pa.mono ?_
          rintro e w1 ⟨rfl, hb1⟩
          go_wp2_with (fail)
          refine (rd _).mono ?_
          rintro e w2 ⟨rfl, k, rfl⟩
          go_wp2_with (fail)
          refine (gr1 _).mono ?_
          rintro e w2 ⟨rfl, rfl⟩
          go_wp2_with (fail)
          refine (gr2 _).mono ?_
          rintro e w2 ⟨rfl, rfl⟩
          go_wp2
          go_ret
          exact ⟨rfl, below_drewN hb1 _⟩
      · have gr1 := great_b n true hg
        generalize rnd n d m = q at *
        clear hg hm
        go_enter Try.func3, Try.ntmps3
        go_wp2_with (fail)
        refine pa.mono ?_
        rintro e w1 ⟨rfl, hb1⟩
        go_wp2_with (fail)
        refine (rd _).mono ?_
        rintro e w2 ⟨rfl, k, rfl⟩
        go_wp2_with (fail)
        refine (gr1 _).mono ?_
        rintro e w2 ⟨rfl, rfl⟩
        go_wp2
        go_ret
        exact ⟨rfl, below_drewN hb1 _⟩
end Go.Proofs.Ytjjeohnejhhacaa
