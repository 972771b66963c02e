/- What the calls of frac answer that compare and scale: Abs (of money), products, Compare, divisor, Lowest, Scale, Add. -/
import Derived.Test.YtjjeohnejhhacaaFracB
import Derived.Test.YtjjeohnejhhacaaPlainB
import Derived.Test.YtjjeohnejhhacaaMul
namespace Go.Proofs.Ytjjeohnejhhacaa
open Go.RowKit

theorem abs_any (x : Int) (w : World) (h : -9223372036854775808 ≤ x) (h' : x ≤ 9223372036854775807) :
    Calls Try.prog 27 #[.int .i64 x] w fun e w' => e = .returned (.int .u64 (x.natAbs : Int)) ∧ w = w' := by
  go_enter Try.func27, Try.ntmps27
  go_wp2
  · go_ret
    exact ⟨ret_i (by rw [IntKind.wrap_u64, IntKind.wrap_u64]; omega), rfl⟩
  · go_ret
    exact ⟨ret_i (by omega), rfl⟩
theorem cmpu_any (a b : Int) (w : World) (_ha : 0 ≤ a) (hb : 0 ≤ b) (_ha' : a < 18446744073709551616) (hb' : b < 18446744073709551616) :
    Calls Try.prog 30 #[.int .u64 a, .int .u64 b] w fun e w' => e = .returned (.int .i64 (cmpI a b)) ∧ w = w' := by
  go_enter Try.func30, Try.ntmps30
  go_wp2
  · go_ret
    exact ⟨ret_i (cmpI_lt (by assumption)).symm, rfl⟩
  · go_ret
    exact ⟨ret_i (cmpI_gt (by assumption)).symm, rfl⟩
  · go_ret
    have : a = b := by omega
    subst this
    exact ⟨ret_i (cmpI_eq _).symm, rfl⟩

set_option maxHeartbeats 400000 in
theorem products_any (a b p q : Nat) (w : World) (ha : a < 18446744073709551616) (hb : b < 18446744073709551616) (hp : p < 18446744073709551616) (hq : q < 18446744073709551616) :
    Calls Try.prog 26 #[.int .u64 a, .int .u64 b, .int .u64 p, .int .u64 q] w fun e w' => e = .returned (.int .i64 (cmpI ((a * b : Nat) : Int) ((p * q : Nat) : Int))) ∧ w = w' := by
  have m1 := fun w => mul64_any a b ha hb w
  have m2 := fun w => mul64_any p q hp hq w
  have k1 : a * b < 18446744073709551616 * 18446744073709551616 := Nat.mul_lt_mul_of_lt_of_le ha (Nat.le_of_lt hb) (by omega)
  have k2 : p * q < 18446744073709551616 * 18446744073709551616 := Nat.mul_lt_mul_of_lt_of_le hp (Nat.le_of_lt hq) (by omega)
  have d1 : a * b / 18446744073709551616 < 18446744073709551616 := by omega
  have d2 : p * q / 18446744073709551616 < 18446744073709551616 := by omega
  have d3 : a * b % 18446744073709551616 < 18446744073709551616 := by omega
  have d4 : p * q % 18446744073709551616 < 18446744073709551616 := by omega
  have f1 := @cmp_high (a * b) (p * q)
  have f2 := @cmp_low (a * b) (p * q)
  generalize a * b / 18446744073709551616 = x at *
  generalize a * b % 18446744073709551616 = y at *
  generalize p * q / 18446744073709551616 = u at *
  generalize p * q % 18446744073709551616 = v at *
  have c1 := fun w => cmpu_any x u w (by omega) (by omega) (by omega) (by omega)
  have c2 := fun w => cmpu_any y v w (by omega) (by omega) (by omega) (by omega)
  clear k1 k2
  by_cases h : x = u
  · subst h
    have g := f2 rfl
    have G := Lib.hid g
    clear f1 f2 g c1
    go_enter Try.func26, Try.ntmps26
    go_wp2_with (fail)
    refine (m1 _).mono ?_
    rintro e w' ⟨rfl, rfl⟩
    go_wp2_with (fail)
    refine (m2 _).mono ?_
    rintro e w' ⟨rfl, rfl⟩
    go_wp2_with (fail)
    refine (c2 _).mono ?_
    rintro e w' ⟨rfl, rfl⟩
    go_wp2
    go_ret
    exact ⟨ret_i G.out, rfl⟩
  · have g := f1 h
    have G := Lib.hid g
    have hne : ((x : Int) != (u : Int)) = true := by simp; omega
    clear f1 f2 g c2 h
    go_enter Try.func26, Try.ntmps26
    go_wp2_with (fail)
    refine (m1 _).mono ?_
    rintro e w' ⟨rfl, rfl⟩
    go_wp2_with (fail)
    refine (m2 _).mono ?_
    rintro e w' ⟨rfl, rfl⟩
    go_wp2_with (fail)
    refine (c1 _).mono ?_
    rintro e w' ⟨rfl, rfl⟩
    go_wp2
    go_ret
    exact ⟨ret_i G.out, rfl⟩

/-- Compare where it refuses -/
theorem compare_bad (n d m c : Int) (w : World) (h : d ≤ 0 ∨ c ≤ 0) :
    Calls Try.prog 19 #[.int .i64 n, .int .i64 d, .int .i64 m, .int .i64 c] w fun e w' => e = .returned (.tuple #[.int .i64 0, .int .i64 1]) ∧ w = w' := by
  by_cases hd : d ≤ 0
  · clear h
    go_enter Try.func19, Try.ntmps19
    go_wp2
    go_ret2
    exact ⟨rfl, rfl⟩
  · have hc := h.resolve_left hd
    clear h
    go_enter Try.func19, Try.ntmps19
    go_wp2
    go_ret2
    exact ⟨rfl, rfl⟩
set_option maxHeartbeats 1000000 in
/-- Compare where it answers -/
theorem compare_ok (n d m c : Int) (w : World) (hn : -9223372036854775808 ≤ n) (hn' : n ≤ 9223372036854775807) (hd : 1 ≤ d) (hd' : d ≤ 9223372036854775807)
    (hm : -9223372036854775808 ≤ m) (hm' : m ≤ 9223372036854775807) (hc : 1 ≤ c) (hc' : c ≤ 9223372036854775807) :
    Calls Try.prog 19 #[.int .i64 n, .int .i64 d, .int .i64 m, .int .i64 c] w fun e w' => e = .returned (.tuple #[.int .i64 (cmpF n d m c), .int .i64 0]) ∧ w = w' := by
  obtain ⟨d, rfl⟩ : ∃ k : Nat, d = k := ⟨d.toNat, by omega⟩
  obtain ⟨c, rfl⟩ : ∃ k : Nat, c = k := ⟨c.toNat, by omega⟩
  have a1 := fun w => abs_any n w hn hn'
  have a2 := fun w => abs_any m w hm hm'
  have pr := fun w => products_any n.natAbs c m.natAbs d w (by omega) (by omega) (by omega) (by omega)
  by_cases h1 : n < 0
  · by_cases h2 : m < 0
    · have g := cmpF_nn (d := d) (c := c) h1 h2
      generalize cmpI ((n.natAbs * c : Nat) : Int) ((m.natAbs * d : Nat) : Int) = r at *
      have hr : r = -1 ∨ r = 0 ∨ r = 1 := by
        have := cmpI_cases (n * c) (m * d)
        unfold cmpF at g
        omega
      have r1 : -1 ≤ r := by omega
      have r2 : r ≤ 1 := by omega
      have G := Lib.hid g
      clear g hr
      generalize n.natAbs = x at *
      generalize m.natAbs = y at *
      go_enter Try.func19, Try.ntmps19
      go_wp2_with (fail)
      refine (a1 _).mono ?_
      rintro e w' ⟨rfl, rfl⟩
      go_wp2_with (fail)
      refine (a2 _).mono ?_
      rintro e w' ⟨rfl, rfl⟩
      go_wp2_with (fail)
      refine (pr _).mono ?_
      rintro e w' ⟨rfl, rfl⟩
      go_wp2
      go_ret2
      exact ⟨ret_ii G.out.symm rfl, rfl⟩
    · have g := cmpF_np (n := n) (d := d) (m := m) (c := c) h1 (by omega) (by omega) (by omega)
      have G := Lib.hid g
      clear g a1 a2 pr
      go_enter Try.func19, Try.ntmps19
      go_wp2
      go_ret2
      exact ⟨ret_ii G.out.symm rfl, rfl⟩
  · by_cases h2 : m < 0
    · have g := cmpF_pn (n := n) (d := d) (m := m) (c := c) (by omega) h2 (by omega) (by omega)
      have G := Lib.hid g
      clear g a1 a2 pr
      go_enter Try.func19, Try.ntmps19
      go_wp2
      go_ret2
      exact ⟨ret_ii G.out.symm rfl, rfl⟩
    · have g := cmpF_pp (n := n) (m := m) (d := d) (c := c) (by omega) (by omega)
      generalize cmpI ((n.natAbs * c : Nat) : Int) ((m.natAbs * d : Nat) : Int) = r at *
      have G := Lib.hid g
      clear g
      generalize n.natAbs = x at *
      generalize m.natAbs = y at *
      go_enter Try.func19, Try.ntmps19
      go_wp2_with (fail)
      refine (a1 _).mono ?_
      rintro e w' ⟨rfl, rfl⟩
      go_wp2_with (fail)
      refine (a2 _).mono ?_
      rintro e w' ⟨rfl, rfl⟩
      go_wp2_with (fail)
      refine (pr _).mono ?_
      rintro e w' ⟨rfl, rfl⟩
      go_wp2
      go_ret2
      exact ⟨ret_ii G.out.symm rfl, rfl⟩

set_option maxHeartbeats 400000 in
theorem divisor_any (a b : Nat) (w : World) (ha : a < 18446744073709551616) (hb : b < 18446744073709551616) (h0 : 0 < b) :
    Calls Try.prog 28 #[.int .u64 a, .int .u64 b] w fun e w' => e = .returned (.int .u64 (Nat.gcd a b : Int)) ∧ w = w' := by
  go_enter Try.func28, Try.ntmps28
  go_wp2
  go_loop [0, 1] (fun p q => ∃ x y : Nat, Nat.gcd x y = Nat.gcd a b ∧ 0 < y ∧ x < 18446744073709551616 ∧ y < 18446744073709551616 ∧ p = .int .u64 x ∧ q = .int .u64 y) (fun p _ => (intOf p).toNat)
  case atStart => exact ⟨a, b, rfl, h0, ha, hb, rfl, rfl⟩
  case round =>
    obtain ⟨x, y, hg, hy0, hx, hy, rfl, rfl⟩ := hrel
    have HG := Lib.hid hg
    clear hg
    by_cases hx0 : 0 < x
    · have hl : y % x < x := Nat.mod_lt _ hx0
      have hne : ((x : Int) != 0) = true := by simp; omega
      go_wp2
      go_round
      case rel => exact ⟨y % x, x, by rw [← HG.out]; exact (Nat.gcd_rec x y).symm, hx0, by omega, hx, by rw [Int.natCast_emod], rfl⟩
      case measure => simp [intOf]; omega
    · obtain rfl : x = 0 := by omega
      go_wp2
      go_ret
      exact ⟨ret_i (by rw [← HG.out]; simp), rfl⟩

/-- Lowest where it refuses -/
theorem lowest_bad (n d : Int) (w : World) (h : d ≤ 0) :
    Calls Try.prog 20 #[.int .i64 n, .int .i64 d] w fun e w' => e = .returned (.tuple #[.int .i64 0, .int .i64 0, .int .i64 1]) ∧ w = w' := by
  go_enter Try.func20, Try.ntmps20
  go_wp2
  go_ret3
  exact ⟨rfl, rfl⟩
set_option maxHeartbeats 400000 in
/-- Lowest where it answers -/
theorem lowest_ok (n d : Int) (w : World) (hn : -9223372036854775808 ≤ n) (hn' : n ≤ 9223372036854775807) (hd : 1 ≤ d) (hd' : d ≤ 9223372036854775807) :
    Calls Try.prog 20 #[.int .i64 n, .int .i64 d] w fun e w' => e = .returned (.tuple #[.int .i64 (n / both n d), .int .i64 (d / both n d), .int .i64 0]) ∧ ∃ k, w' = w.drewN k := by
  obtain ⟨c, rfl⟩ : ∃ k : Nat, d = k := ⟨d.toNat, by omega⟩
  have a1 := fun w => abs_any n w hn hn'
  have dv := fun w => divisor_any n.natAbs c w (by omega) (by omega) (by omega)
  have b1 := both_pos (n := n) (d := c) (by omega)
  have b2 := both_le (n := n) (d := c) (by omega)
  have e0 : (Nat.gcd n.natAbs c : Int) = both n c := rfl
  have t1 : n.tdiv (both n c) = n / both n c := Int.tdiv_eq_ediv_of_dvd (both_left _ _)
  have t2 : (c : Int).tdiv (both n c) = c / both n c := Int.tdiv_eq_ediv_of_dvd (both_right _ _)
  have b3 := ediv_hi (n := (c : Int)) (d := both n c) (by omega) (by omega)
  rw [e0] at dv
  generalize both n c = g at *
  generalize n.natAbs = x at *
  have T1 := Lib.hid t1
  have T2 := Lib.hid t2
  clear t1 t2 e0
  go_enter Try.func20, Try.ntmps20
  go_wp2_with (fail)
  refine (a1 _).mono ?_
  rintro e w' ⟨rfl, rfl⟩
  go_wp2_with (fail)
  refine (dv _).mono ?_
  rintro e w' ⟨rfl, rfl⟩
  go_wp2
  go_quiet (fail)
  go_wp2
  go_ret3
  exact ⟨ret_iii T1.out rfl rfl, _, rfl⟩

/-- Scale where it refuses -/
theorem scale_amt (x n d : Int) (w : World) (h : amtB x = false) :
    Calls Try.prog 18 #[.int .i64 x, .int .i64 n, .int .i64 d] w fun e w' => e = .returned (.tuple #[.int .i64 0, .int .i64 10]) ∧ Below w.heap.size w w' := by
  have hc := right1 x w 2 false h
  clear h
  go_enter Try.func18, Try.ntmps18
  go_wp2_with (go_at_call 25; refine hc.mono ?_; rintro e w' ⟨rfl, rfl⟩)
  go_ret2
  exact ⟨rfl, (Below.refl _ _).alloc (Nat.le_refl _) _⟩
set_option maxHeartbeats 400000 in
theorem scale_range (x n d : Int) (w : World) (h : amtB x = true) (hr : n < 0 ∨ 1048576 < n ∨ d < 1 ∨ 1048576 < d) :
    Calls Try.prog 18 #[.int .i64 x, .int .i64 n, .int .i64 d] w fun e w' => e = .returned (.tuple #[.int .i64 0, .int .i64 1]) ∧ Below w.heap.size w w' := by
  have hc := right1 x w 2 true h
  clear h
  by_cases h1 : n < 0
  · clear hr
    go_enter Try.func18, Try.ntmps18
    go_wp2_with (go_at_call 25; refine hc.mono ?_; rintro e w' ⟨rfl, rfl⟩)
    go_ret2
    exact ⟨rfl, (Below.refl _ _).alloc (Nat.le_refl _) _⟩
  · by_cases h2 : 1048576 < n
    · clear hr
      go_enter Try.func18, Try.ntmps18
      go_wp2_with (go_at_call 25; refine hc.mono ?_; rintro e w' ⟨rfl, rfl⟩)
      go_ret2
      exact ⟨rfl, (Below.refl _ _).alloc (Nat.le_refl _) _⟩
    · by_cases h3 : d < 1
      · clear hr
        go_enter Try.func18, Try.ntmps18
        go_wp2_with (go_at_call 25; refine hc.mono ?_; rintro e w' ⟨rfl, rfl⟩)
        go_ret2
        exact ⟨rfl, (Below.refl _ _).alloc (Nat.le_refl _) _⟩
      · have h4 : 1048576 < d := by omega
        clear hr
        go_enter Try.func18, Try.ntmps18
        go_wp2_with (go_at_call 25; refine hc.mono ?_; rintro e w' ⟨rfl, rfl⟩)
        go_ret2
        exact ⟨rfl, (Below.refl _ _).alloc (Nat.le_refl _) _⟩
set_option maxHeartbeats 400000 in
/-- Scale where its numbers may be: the greatest whole number that isn't above, or that it may not be -/
theorem scale_ok (x n d : Int) (w : World) (h : amtB x = true) (h1 : 0 ≤ n) (h2 : n ≤ 1048576) (h3 : 1 ≤ d) (h4 : d ≤ 1048576) (b : Bool) (hb : amtB (x * n / d) = b) :
    Calls Try.prog 18 #[.int .i64 x, .int .i64 n, .int .i64 d] w fun e w' => e = .returned (.tuple #[.int .i64 (if b = true then x * n / d else 0), .int .i64 (if b = true then 0 else 10)]) ∧ Below w.heap.size w w' := by
  have hc := right1 x w 2 true h
  have ha := amtB_yes h
  have hm := mul_bd 1048576 ha.1 ha.2 h1 h2
  have l1 : -9223372036854775808 ≤ x * n := by omega
  have l2 : x * n ≤ 9223372036854775807 := by omega
  have sp := fun w => split_any (x * n) d w l1 l2 h3 (by omega)
  clear h ha hm
  generalize x * n / d = q at *
  generalize x * n % d = r at *
  cases b
  · go_enter Try.func18, Try.ntmps18
    go_wp2_with (fail)
    refine hc.mono ?_
    rintro e w' ⟨rfl, rfl⟩
    go_wp2_with (fail)
    refine (sp _).mono ?_
    rintro e w' ⟨rfl, k, rfl⟩
    go_wp2_with (fail)
    refine (right_at q _ _ _ false hb ?_).mono ?_
    · simp [go_sem]
    rintro e w' ⟨rfl, rfl⟩
    go_wp2
    go_ret2
    exact ⟨rfl, below_drewN (((Below.refl _ _).alloc (Nat.le_refl _) _).alloc (by simp) _) _⟩
  · go_enter Try.func18, Try.ntmps18
    go_wp2_with (fail)
    refine hc.mono ?_
    rintro e w' ⟨rfl, rfl⟩
    go_wp2_with (fail)
    refine (sp _).mono ?_
    rintro e w' ⟨rfl, k, rfl⟩
    go_wp2_with (fail)
    refine (right_at q _ _ _ true hb ?_).mono ?_
    · simp [go_sem]
    rintro e w' ⟨rfl, rfl⟩
    go_wp2
    go_ret2
    exact ⟨rfl, below_drewN (((Below.refl _ _).alloc (Nat.le_refl _) _).alloc (by simp) _) _⟩
end Go.Proofs.Ytjjeohnejhhacaa
