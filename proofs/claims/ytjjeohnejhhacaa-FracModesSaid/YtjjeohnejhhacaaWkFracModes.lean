/- The walk of the law FracModes. -/
import Derived.Test.YtjjeohnejhhacaaFracP
namespace Go.Proofs.Ytjjeohnejhhacaa
open Go.RowKit
set_option linter.unusedVariables false

set_option maxHeartbeats 2000000 in
set_option maxRecDepth 100000 in
/-- nothing is left: all ways answer the same -/
theorem fm_same (n d lo : Int) (w : World) (hn : -9223372036854775807 ≤ n) (hn' : n ≤ 9223372036854775807) (hd : 1 ≤ d) (hd' : d ≤ 9223372036854775807)
    (hl : -9223372036854775807 ≤ lo) (hl' : lo ≤ 9223372036854775807) (ht : n.tmod d = 0) (hm0 : (n == -9223372036854775808) = false)
    (r3 : ∀ w : World, Calls Try.prog 10 #[.int .i64 (-n), .int .i64 d, .int .i64 1] w fun e w' => e = .returned (.tuple #[.int .i64 (-lo), .int .i64 0]) ∧ ∃ k, w' = w.drewN k)
    (rm : ∀ (m : Int) (w : World), 1 ≤ m → m ≤ 6 → Calls Try.prog 10 #[.int .i64 n, .int .i64 d, .int .i64 m] w fun e w' => e = .returned (.tuple #[.int .i64 lo, .int .i64 0]) ∧ ∃ k, w' = w.drewN k) :
    Calls Try.prog 4 #[.int .i64 n, .int .i64 d] w fun e w' => e = .returned (.bool true) ∧ Below w.heap.size w w' := by
  have pa := parts_any w
  have HT := Lib.hid ht
  clear ht
  go_enter Try.func4, Try.ntmps4
  go_wp2_with (fail)
  refine pa.mono ?_
  rintro e w1 ⟨rfl, hb1⟩
  go_wp2_with (fail)
  refine (rm 1 _ (by omega) (by omega)).mono ?_
  rintro e w2 ⟨rfl, k1, rfl⟩
  go_wp2_with (fail)
  refine (rm 2 _ (by omega) (by omega)).mono ?_
  rintro e w2 ⟨rfl, k2, rfl⟩
  go_wp2_with (fail)
  refine (r3 _).mono ?_
  rintro e w2 ⟨rfl, k3, rfl⟩
  go_wp2_with (fail)
  have hb2 := below_drewN hb1 (k1 + k2 + k3)
  go_loopw [11] (fun k wr => ∃ i : Int, 1 ≤ i ∧ i ≤ 7 ∧ k = .int .i64 i ∧ Below w.heap.size w wr) (fun k _ => (7 - intOf k).toNat)
  case atStart => exact ⟨1, by omega, by omega, rfl, hb2⟩
  case round =>
    obtain ⟨i, h1, h7, rfl, hbr⟩ := hrel
    by_cases hlt : i ≤ 6
    · have rmi := fun w => rm i w h1 hlt
      go_wp2_with (fail)
      refine (rmi _).mono ?_
      rintro e w2 ⟨rfl, k4, rfl⟩
      go_wp2
      go_roundw
      case rel => exact ⟨i + 1, by omega, by omega, rfl, below_drewN hbr _⟩
      case measure => simp [intOf]; omega
    · have ht := HT.out
      go_wp2
      go_ret
      exact ⟨ret_b (by simp), hbr⟩

set_option maxHeartbeats 2000000 in
set_option maxRecDepth 100000 in
/-- something is left: each way answers one of two numbers beside each other -/
theorem fm_two (n d lo : Int) (w : World) (hn : -9223372036854775807 ≤ n) (hn' : n ≤ 9223372036854775807) (hd : 1 ≤ d) (hd' : d ≤ 9223372036854775807)
    (hl : -9223372036854775807 ≤ lo) (hl' : lo + 1 ≤ 9223372036854775807) (ht : (n.tmod d == 0) = false) (hm0 : (n == -9223372036854775808) = false)
    (r1 : ∀ w : World, Calls Try.prog 10 #[.int .i64 n, .int .i64 d, .int .i64 1] w fun e w' => e = .returned (.tuple #[.int .i64 lo, .int .i64 0]) ∧ ∃ k, w' = w.drewN k)
    (r2 : ∀ w : World, Calls Try.prog 10 #[.int .i64 n, .int .i64 d, .int .i64 2] w fun e w' => e = .returned (.tuple #[.int .i64 (lo + 1), .int .i64 0]) ∧ ∃ k, w' = w.drewN k)
    (r3 : ∀ w : World, Calls Try.prog 10 #[.int .i64 (-n), .int .i64 d, .int .i64 1] w fun e w' => e = .returned (.tuple #[.int .i64 (-(lo + 1)), .int .i64 0]) ∧ ∃ k, w' = w.drewN k)
    (rm : ∀ m : Int, 1 ≤ m → m ≤ 6 → (∀ w : World, Calls Try.prog 10 #[.int .i64 n, .int .i64 d, .int .i64 m] w fun e w' => e = .returned (.tuple #[.int .i64 lo, .int .i64 0]) ∧ ∃ k, w' = w.drewN k) ∨
      (∀ w : World, Calls Try.prog 10 #[.int .i64 n, .int .i64 d, .int .i64 m] w fun e w' => e = .returned (.tuple #[.int .i64 (lo + 1), .int .i64 0]) ∧ ∃ k, w' = w.drewN k)) :
    Calls Try.prog 4 #[.int .i64 n, .int .i64 d] w fun e w' => e = .returned (.bool true) ∧ Below w.heap.size w w' := by
  have pa := parts_any w
  have hne : (lo == lo + 1) = false := by simp; omega
  have hne2 : (lo + 1 != lo) = true := by simp; omega
  go_enter Try.func4, Try.ntmps4
  go_wp2_with (fail)
  refine pa.mono ?_
  rintro e w1 ⟨rfl, hb1⟩
  go_wp2_with (fail)
  refine (r1 _).mono ?_
  rintro e w2 ⟨rfl, k1, rfl⟩
  go_wp2_with (fail)
  refine (r2 _).mono ?_
  rintro e w2 ⟨rfl, k2, rfl⟩
  go_wp2_with (fail)
  refine (r3 _).mono ?_
  rintro e w2 ⟨rfl, k3, rfl⟩
  go_wp2_with (fail)
  have hb2 := below_drewN hb1 (k1 + k2 + k3)
  go_loopw [11] (fun k wr => ∃ i : Int, 1 ≤ i ∧ i ≤ 7 ∧ k = .int .i64 i ∧ Below w.heap.size w wr) (fun k _ => (7 - intOf k).toNat)
  case atStart => exact ⟨1, by omega, by omega, rfl, hb2⟩
  case round =>
    obtain ⟨i, h1, h7, rfl, hbr⟩ := hrel
    by_cases hlt : i ≤ 6
    · rcases rm i h1 hlt with rmi | rmi
      · go_wp2_with (fail)
        refine (rmi _).mono ?_
        rintro e w2 ⟨rfl, k4, rfl⟩
        go_wp2
        go_roundw
        case rel => exact ⟨i + 1, by omega, by omega, rfl, below_drewN hbr _⟩
        case measure => simp [intOf]; omega
      · go_wp2_with (fail)
        refine (rmi _).mono ?_
        rintro e w2 ⟨rfl, k4, rfl⟩
        go_wp2
        go_roundw
        case rel => exact ⟨i + 1, by omega, by omega, rfl, below_drewN hbr _⟩
        case measure => simp [intOf]; omega
    · go_wp2
      go_ret
      exact ⟨ret_b (by simp; omega), hbr⟩

theorem neg_ediv_exact {n d : Int} (hd : 1 ≤ d) (h : n % d = 0) : -n / d = -(n / d) := Int.neg_ediv_of_dvd (Int.dvd_of_emod_eq_zero h)
theorem neg_ediv_rest {n d : Int} (hd : 1 ≤ d) (h : 0 < n % d) : -n / d = -(n / d + 1) := by
  have e := Int.mul_ediv_add_emod n d
  have c := Int.emod_lt_of_pos n (show 0 < d by omega)
  exact ((Int.ediv_emod_unique (a := -n) (b := d) (q := -(n / d + 1)) (r := d - n % d) (by omega)).2 ⟨by rw [Int.mul_neg, Int.mul_add]; omega, by omega, by omega⟩).1
set_option maxHeartbeats 400000 in
set_option maxRecDepth 100000 in
theorem wFracModes (n d : Int) (w : World) (hn : -9223372036854775808 ≤ n) (hn' : n ≤ 9223372036854775807) (_hd : -9223372036854775808 ≤ d) (hd' : d ≤ 9223372036854775807) :
    Calls Try.prog 4 #[.int .i64 n, .int .i64 d] w fun e w' => e = .returned (.bool true) ∧ Below w.heap.size w w' := by
  by_cases hd : d ≤ 0
  · have pa := parts_any w
    go_enter Try.func4, Try.ntmps4
    go_wp2_with (fail)
    refine pa.mono ?_
    rintro e w1 ⟨rfl, hb1⟩
    go_wp2
    go_ret
    exact ⟨rfl, hb1⟩
  · by_cases hm : n = -9223372036854775808
    · have pa := parts_any w
      subst hm
      go_enter Try.func4, Try.ntmps4
      go_wp2_with (fail)
      refine pa.mono ?_
      rintro e w1 ⟨rfl, hb1⟩
      go_wp2
      go_ret
      exact ⟨rfl, hb1⟩
    · have hd1 : 1 ≤ d := by omega
      have hm0 : (n == -9223372036854775808) = false := by simp; omega
      have bq := ediv_bd hd1 (-9223372036854775807) 9223372036854775807 (by omega) hn' (by omega) (by omega)
      have bn := fun m => rnd_bd (m := m) hd1 (-9223372036854775807) 9223372036854775807 (by omega) hn' (by omega) (by omega)
      have rr := fun m w (h : modeB m = true) => round_ok n d m w hn hn' hd1 hd' h
      have r3 := fun w => round_ok (-n) d 1 w (by omega) (by omega) hd1 hd' (by decide)
      have e3 : rnd (-n) d 1 = -n / d := by simp [rnd, rises]
      rw [e3] at r3
      have em := Int.emod_nonneg n (show d ≠ 0 by omega)
      rcases Int.lt_or_le 0 (n % d) with hz | hz
      · rw [neg_ediv_rest hd1 hz] at r3
        have e1 : rnd n d 1 = n / d := by simp [rnd, rises]
        have e2 : rnd n d 2 = n / d + 1 := by simp [rnd, rises, hz]
        have b2 := bn 2
        rw [e2] at b2
        have ht : (n.tmod d == 0) = false := by
          simp only [beq_eq_false_iff_ne]
          intro h0
          have := (floor_pos hd1 (n := n) (by omega)).2
          omega
        refine fm_two n d (n / d) w (by omega) hn' hd1 hd' bq.1 b2.2 ht hm0 (fun w => by rw [← e1]; exact rr 1 w (by decide)) (fun w => by rw [← e2]; exact rr 2 w (by decide)) r3 (fun m h1 h6 => ?_)
        rcases rnd_cases n d m with h | ⟨h, _⟩
        · exact .inl fun w => by rw [← h]; exact rr m w (modeB_mk h1 h6)
        · exact .inr fun w => by rw [← h]; exact rr m w (modeB_mk h1 h6)
      · have hz0 : n % d = 0 := by omega
        rw [neg_ediv_exact hd1 hz0] at r3
        have ht : n.tmod d = 0 := Int.tmod_eq_zero_of_dvd (Int.dvd_of_emod_eq_zero hz0)
        refine fm_same n d (n / d) w (by omega) hn' hd1 hd' bq.1 bq.2 ht hm0 r3 (fun m w h1 h6 => ?_)
        have h : rnd n d m = n / d := by simp [rnd, hz0]
        rw [← h]
        exact rr m w (modeB_mk h1 h6)
end Go.Proofs.Ytjjeohnejhhacaa
