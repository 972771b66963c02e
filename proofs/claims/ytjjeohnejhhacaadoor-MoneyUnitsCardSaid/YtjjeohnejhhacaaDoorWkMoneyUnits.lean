/- MoneyUnits answers true of any two numbers, either way. -/
import Derived.Test.YtjjeohnejhhacaaDoorQuant
import Derived.Test.YtjjeohnejhhacaaDoorParts
namespace Go.Proofs.YtjjeohnejhhacaaDoor
open Go.RowKit
set_option linter.unusedVariables false
set_option linter.unusedSimpArgs false
theorem unit_step {x u : Int} {n i : Nat} (hu : 1 ≤ u) (h : PN x u n) (hi : i < n) : 0 < x - i * u ∧ (x - i * u ≤ u → i + 1 = n) ∧ (¬ x - i * u ≤ u → i + 1 < n) := by
  obtain ⟨_, h1, h2⟩ := h
  have h3 : ((n : Int) - 1) * u < x := by
    rcases h2 with e | e
    · omega
    · exact e
  have h4 : (i : Int) * u ≤ ((n : Int) - 1) * u := Int.mul_le_mul_of_nonneg_right (by omega) (by omega)
  have e : ((i : Int) + 1) * u = i * u + u := by rw [Int.add_mul, Int.one_mul]
  refine ⟨by omega, fun hl => ?_, fun hl => ?_⟩
  · have : ((n : Int) - 1) * u < ((i : Int) + 1) * u := by omega
    have := Int.lt_of_mul_lt_mul_right this (by omega)
    omega
  · have : ((i : Int) + 1) * u < (n : Int) * u := by omega
    have := Int.lt_of_mul_lt_mul_right this (by omega)
    omega

set_option maxHeartbeats 2000000 in
set_option maxRecDepth 100000 in
theorem un_a (x u : Int) (up : Bool) (w : World) (htab : Tab w) (ha : amtB x = false) :
    Calls Tryd.prog 10 #[.int .i64 x, .int .i64 u, .bool up] w fun e w' => e = .returned (.bool true) ∧ Below w.heap.size w w' := by
  have hab : (amtB x && amtB u) = false := by rw [ha]; rfl
  have ct := counts_any w htab
  have qu := fun w => qu_bad x u up w hab
  have pa := fun w => pa_bad x u w hab
  have rx := fun w => refright_b x false ha w
  clear htab hab ha
  go_enter Tryd.func10, Tryd.ntmps10
  go_wp2_with (fail)
  refine (ct).mono ?_
  rintro e w1 ⟨rfl, b1⟩
  go_wp2_with (fail)
  refine (qu _).mono ?_
  rintro e w2 ⟨rfl, b2⟩
  go_wp2_with (fail)
  refine (pa _).mono ?_
  rintro e w3 ⟨rfl, b3⟩
  have b13 := below_step (below_step b1 b2 b1.size) b3 (below_step b1 b2 b1.size).size
  go_wp2_with (fail)
  refine (rx _).mono ?_
  rintro e w' ⟨rfl, rfl⟩
  go_wp2
  go_ret
  exact ⟨rfl, b13⟩

set_option maxHeartbeats 2000000 in
set_option maxRecDepth 100000 in
theorem un_b (x u : Int) (up : Bool) (w : World) (htab : Tab w) (ha : amtB x = true) (hb : amtB u = false) :
    Calls Tryd.prog 10 #[.int .i64 x, .int .i64 u, .bool up] w fun e w' => e = .returned (.bool true) ∧ Below w.heap.size w w' := by
  have hab : (amtB x && amtB u) = false := by rw [ha, hb]; rfl
  have ct := counts_any w htab
  have qu := fun w => qu_bad x u up w hab
  have pa := fun w => pa_bad x u w hab
  have rx := fun w => refright_b x true ha w
  have ru := fun w => refright_b u false hb w
  clear htab hab ha hb
  go_enter Tryd.func10, Tryd.ntmps10
  go_wp2_with (fail)
  refine (ct).mono ?_
  rintro e w1 ⟨rfl, b1⟩
  go_wp2_with (fail)
  refine (qu _).mono ?_
  rintro e w2 ⟨rfl, b2⟩
  go_wp2_with (fail)
  refine (pa _).mono ?_
  rintro e w3 ⟨rfl, b3⟩
  have b13 := below_step (below_step b1 b2 b1.size) b3 (below_step b1 b2 b1.size).size
  go_wp2_with (fail)
  refine (rx _).mono ?_
  rintro e w' ⟨rfl, rfl⟩
  go_wp2_with (fail)
  refine (ru _).mono ?_
  rintro e w' ⟨rfl, rfl⟩
  go_wp2
  go_ret
  exact ⟨rfl, b13⟩

set_option maxHeartbeats 2000000 in
set_option maxRecDepth 100000 in
theorem un_r (x u : Int) (up : Bool) (w : World) (htab : Tab w) (ha : amtB x = true) (hb : amtB u = true) (hu : u ≤ 0) :
    Calls Tryd.prog 10 #[.int .i64 x, .int .i64 u, .bool up] w fun e w' => e = .returned (.bool true) ∧ Below w.heap.size w w' := by
  have hab : (amtB x && amtB u) = true := by rw [ha, hb]; rfl
  obtain ⟨x1, x2⟩ := amtB_yes ha
  obtain ⟨u1, u2⟩ := amtB_yes hb
  have ct := counts_any w htab
  have rx := fun w => refright_b x true ha w
  have ru := fun w => refright_b u true hb w
  have qu := fun w => qu_range x u up w hab hu
  have pa := fun w => pa_range x u w hab hu
  clear htab hab ha hb
  go_enter Tryd.func10, Tryd.ntmps10
  go_wp2_with (fail)
  refine (ct).mono ?_
  rintro e w1 ⟨rfl, b1⟩
  go_wp2_with (fail)
  refine (qu _).mono ?_
  rintro e w2 ⟨rfl, b2⟩
  go_wp2_with (fail)
  refine (pa _).mono ?_
  rintro e w3 ⟨rfl, b3⟩
  have b13 := below_step (below_step b1 b2 b1.size) b3 (below_step b1 b2 b1.size).size
  go_wp2_with (fail)
  refine (rx _).mono ?_
  rintro e w' ⟨rfl, rfl⟩
  go_wp2_with (fail)
  refine (ru _).mono ?_
  rintro e w' ⟨rfl, rfl⟩
  go_wp2
  go_ret
  exact ⟨rfl, b13⟩

set_option maxHeartbeats 2000000 in
set_option maxRecDepth 100000 in
theorem un_10_true_neg (x u Q : Int) (w : World) (htab : Tab w) (ha : amtB x = true) (hb : amtB u = true) (hu : 1 ≤ u) (qu : ∀ w : World, Calls Tryd.prog 30 #[.int .i64 x, .int .i64 u, .bool true] w fun e w' => e = .returned (.tuple #[.int .i64 0, .int .i64 10]) ∧ Below w.heap.size w w') (hq : 100000000000 - u < x) (hx : x < 0) :
    Calls Tryd.prog 10 #[.int .i64 x, .int .i64 u, .bool true] w fun e w' => e = .returned (.bool true) ∧ Below w.heap.size w w' := by
  have hab : (amtB x && amtB u) = true := by rw [ha, hb]; rfl
  obtain ⟨x1, x2⟩ := amtB_yes ha
  obtain ⟨u1, u2⟩ := amtB_yes hb
  exfalso
  omega

set_option maxHeartbeats 2000000 in
set_option maxRecDepth 100000 in
theorem un_10_true_long (x u Q : Int) (w : World) (htab : Tab w) (ha : amtB x = true) (hb : amtB u = true) (hu : 1 ≤ u) (qu : ∀ w : World, Calls Tryd.prog 30 #[.int .i64 x, .int .i64 u, .bool true] w fun e w' => e = .returned (.tuple #[.int .i64 0, .int .i64 10]) ∧ Below w.heap.size w w') (hq : 100000000000 - u < x) (hx : 0 ≤ x) (hl : 64 * u < x) :
    Calls Tryd.prog 10 #[.int .i64 x, .int .i64 u, .bool true] w fun e w' => e = .returned (.bool true) ∧ Below w.heap.size w w' := by
  have hab : (amtB x && amtB u) = true := by rw [ha, hb]; rfl
  obtain ⟨x1, x2⟩ := amtB_yes ha
  obtain ⟨u1, u2⟩ := amtB_yes hb
  have ct := counts_any w htab
  have rx := fun w => refright_b x true ha w
  have ru := fun w => refright_b u true hb w
  have pa := fun w => pa_long x u w hab hx hu hl
  clear htab hab ha hb
  go_enter Tryd.func10, Tryd.ntmps10
  go_wp2_with (fail)
  refine (ct).mono ?_
  rintro e w1 ⟨rfl, b1⟩
  go_wp2_with (fail)
  refine (qu _).mono ?_
  rintro e w2 ⟨rfl, b2⟩
  go_wp2_with (fail)
  refine (pa _).mono ?_
  rintro e w3 ⟨rfl, b3⟩
  have b13 := below_step (below_step b1 b2 b1.size) b3 (below_step b1 b2 b1.size).size
  go_wp2_with (fail)
  refine (rx _).mono ?_
  rintro e w' ⟨rfl, rfl⟩
  go_wp2_with (fail)
  refine (ru _).mono ?_
  rintro e w' ⟨rfl, rfl⟩
  go_wp2
  refine wp_loop_rounds 1 ?_
  rw [rounds_succ]
  go_wp2
  go_ret
  exact ⟨rfl, b13⟩

set_option maxHeartbeats 2000000 in
set_option maxRecDepth 100000 in
theorem un_10_true_list (x u Q : Int) (w : World) (htab : Tab w) (ha : amtB x = true) (hb : amtB u = true) (hu : 1 ≤ u) (qu : ∀ w : World, Calls Tryd.prog 30 #[.int .i64 x, .int .i64 u, .bool true] w fun e w' => e = .returned (.tuple #[.int .i64 0, .int .i64 10]) ∧ Below w.heap.size w w') (hq : 100000000000 - u < x) (hx : 0 ≤ x) (hl : ¬ 64 * u < x) :
    Calls Tryd.prog 10 #[.int .i64 x, .int .i64 u, .bool true] w fun e w' => e = .returned (.bool true) ∧ Below w.heap.size w w' := by
  have hab : (amtB x && amtB u) = true := by rw [ha, hb]; rfl
  obtain ⟨x1, x2⟩ := amtB_yes ha
  obtain ⟨u1, u2⟩ := amtB_yes hb
  have ct := counts_any w htab
  have rx := fun w => refright_b x true ha w
  have ru := fun w => refright_b u true hb w
  have pa := fun w => pa_ok x u w hab hx hu hl
  clear htab hab ha hb
  go_enter Tryd.func10, Tryd.ntmps10
  go_wp2_with (fail)
  refine (ct).mono ?_
  rintro e w1 ⟨rfl, b1⟩
  go_wp2_with (fail)
  refine (qu _).mono ?_
  rintro e w2 ⟨rfl, b2⟩
  go_wp2_with (fail)
  refine (pa _).mono ?_
  rintro e w3 ⟨A, n, c, rfl, hpn, hrow, b3⟩
  have HPN := Lib.hid hpn
  have hn64 := hpn.1
  clear hpn pa qu ct
  have b13 := below_step (below_step b1 b2 b1.size) b3 (below_step b1 b2 b1.size).size
  go_wp2_with (fail)
  refine (rx _).mono ?_
  rintro e w' ⟨rfl, rfl⟩
  go_wp2_with (fail)
  refine (ru _).mono ?_
  rintro e w' ⟨rfl, rfl⟩
  go_wp2
  go_loop [11, 137] (fun s k => ∃ (i : Nat) (S : Int), i ≤ n ∧ s = .int .i64 S ∧ k = .int .i64 i ∧ 0 ≤ S ∧ S ≤ x ∧ Hid (i < n → S = i * u) ∧ Hid (i = n → S = x)) (fun _ k => n - (intOf k).toNat)
  case atStart => exact ⟨0, 0, Nat.zero_le _, rfl, rfl, by omega, by omega, Lib.hid (fun _ => by simp), Lib.hid (fun e => by
    have := HPN.out.2.1
    rw [← e] at this
    simp at this
    omega)⟩
  case round =>
    obtain ⟨i, S, hi, rfl, rfl, hS0, hSx, HS, HX⟩ := hrel
    by_cases hlt : i < n
    · obtain ⟨b, o, rfl, hc⟩ := hrow (by omega)
      have hcell : w3.cell? ⟨b, o + i, none⟩ = some (.int .i64 (pv x u i)) := hc i hlt
      have hst := unit_step hu HPN.out hlt
      have hpv := pv_at (show (x - S) + i * u = x by have := HS.out hlt; omega)
      have hSi := HS.out hlt
      rw [← hSi] at hst
      obtain ⟨s1, s2, s3⟩ := hst
      by_cases hle : x - S ≤ u
      · rw [hpv, if_pos hle] at hcell
        have s4 := s2 hle
        have c3 : ¬ (i : Int) + 1 < n := by omega
        have c4 : ¬ u < x - S := by omega
        have c5 : ¬ x - S ≤ 0 := by omega
        clear hpv hSi s2 s3 hc HS HX
        go_wp2
        go_round
        case rel => exact ⟨i + 1, S + (x - S), by omega, by go_num, by go_num, by omega, by omega, Lib.hid (fun e => by omega), Lib.hid (fun _ => by omega)⟩
        case measure => simp [intOf]; omega
      · rw [hpv, if_neg hle] at hcell
        have s4 := s3 hle
        have c3 : (i : Int) + 1 < n := by omega
        have HT := Lib.hid (show S + u = ((i + 1 : Nat) : Int) * u by rw [hSi, Int.natCast_add, Int.add_mul]; simp)
        have c6 : (u != u) = false := by simp
        clear hpv hSi s2 s3 hc HS HX
        go_wp2
        go_round
        case rel => exact ⟨i + 1, S + u, by omega, by go_num, by go_num, by omega, by omega, Lib.hid (fun _ => HT.out), Lib.hid (fun e => by omega)⟩
        case measure => simp [intOf]; omega
    · obtain rfl : i = n := by omega
      have hSx2 := HX.out rfl
      have h64 : (i : Int) ≤ 64 := by have := HPN.out.1; omega
      clear HS HX
      subst hSx2
      go_wp2
      go_ret
      exact ⟨rfl, b13⟩

set_option maxHeartbeats 2000000 in
set_option maxRecDepth 100000 in
theorem un_10_false_neg (x u Q : Int) (w : World) (htab : Tab w) (ha : amtB x = true) (hb : amtB u = true) (hu : 1 ≤ u) (qu : ∀ w : World, Calls Tryd.prog 30 #[.int .i64 x, .int .i64 u, .bool false] w fun e w' => e = .returned (.tuple #[.int .i64 0, .int .i64 10]) ∧ Below w.heap.size w w') (hq : x < u - 100000000000) (hx : x < 0) :
    Calls Tryd.prog 10 #[.int .i64 x, .int .i64 u, .bool false] w fun e w' => e = .returned (.bool true) ∧ Below w.heap.size w w' := by
  have hab : (amtB x && amtB u) = true := by rw [ha, hb]; rfl
  obtain ⟨x1, x2⟩ := amtB_yes ha
  obtain ⟨u1, u2⟩ := amtB_yes hb
  have ct := counts_any w htab
  have rx := fun w => refright_b x true ha w
  have ru := fun w => refright_b u true hb w
  have pa := fun w => pa_neg x u w hab hx
  clear htab hab ha hb
  go_enter Tryd.func10, Tryd.ntmps10
  go_wp2_with (fail)
  refine (ct).mono ?_
  rintro e w1 ⟨rfl, b1⟩
  go_wp2_with (fail)
  refine (qu _).mono ?_
  rintro e w2 ⟨rfl, b2⟩
  go_wp2_with (fail)
  refine (pa _).mono ?_
  rintro e w3 ⟨rfl, b3⟩
  have b13 := below_step (below_step b1 b2 b1.size) b3 (below_step b1 b2 b1.size).size
  go_wp2_with (fail)
  refine (rx _).mono ?_
  rintro e w' ⟨rfl, rfl⟩
  go_wp2_with (fail)
  refine (ru _).mono ?_
  rintro e w' ⟨rfl, rfl⟩
  go_wp2
  go_ret
  exact ⟨rfl, b13⟩

set_option maxHeartbeats 2000000 in
set_option maxRecDepth 100000 in
theorem un_10_false_long (x u Q : Int) (w : World) (htab : Tab w) (ha : amtB x = true) (hb : amtB u = true) (hu : 1 ≤ u) (qu : ∀ w : World, Calls Tryd.prog 30 #[.int .i64 x, .int .i64 u, .bool false] w fun e w' => e = .returned (.tuple #[.int .i64 0, .int .i64 10]) ∧ Below w.heap.size w w') (hq : x < u - 100000000000) (hx : 0 ≤ x) (hl : 64 * u < x) :
    Calls Tryd.prog 10 #[.int .i64 x, .int .i64 u, .bool false] w fun e w' => e = .returned (.bool true) ∧ Below w.heap.size w w' := by
  have hab : (amtB x && amtB u) = true := by rw [ha, hb]; rfl
  obtain ⟨x1, x2⟩ := amtB_yes ha
  obtain ⟨u1, u2⟩ := amtB_yes hb
  exfalso
  omega

set_option maxHeartbeats 2000000 in
set_option maxRecDepth 100000 in
theorem un_10_false_list (x u Q : Int) (w : World) (htab : Tab w) (ha : amtB x = true) (hb : amtB u = true) (hu : 1 ≤ u) (qu : ∀ w : World, Calls Tryd.prog 30 #[.int .i64 x, .int .i64 u, .bool false] w fun e w' => e = .returned (.tuple #[.int .i64 0, .int .i64 10]) ∧ Below w.heap.size w w') (hq : x < u - 100000000000) (hx : 0 ≤ x) (hl : ¬ 64 * u < x) :
    Calls Tryd.prog 10 #[.int .i64 x, .int .i64 u, .bool false] w fun e w' => e = .returned (.bool true) ∧ Below w.heap.size w w' := by
  have hab : (amtB x && amtB u) = true := by rw [ha, hb]; rfl
  obtain ⟨x1, x2⟩ := amtB_yes ha
  obtain ⟨u1, u2⟩ := amtB_yes hb
  exfalso
  omega

set_option maxHeartbeats 2000000 in
set_option maxRecDepth 100000 in
theorem un_0_true_neg (x u Q : Int) (w : World) (htab : Tab w) (ha : amtB x = true) (hb : amtB u = true) (hu : 1 ≤ u) (qu : ∀ w : World, Calls Tryd.prog 30 #[.int .i64 x, .int .i64 u, .bool true] w fun e w' => e = .returned (.tuple #[.int .i64 Q, .int .i64 0]) ∧ Below w.heap.size w w') (q3 : Q.tmod u = 0) (q4 : Q % u = 0) (qb1 : -100000000000 ≤ Q) (qb2 : Q ≤ 100000000000) (hq1 : x ≤ Q) (hq2 : Q < x + u) (hx : x < 0) :
    Calls Tryd.prog 10 #[.int .i64 x, .int .i64 u, .bool true] w fun e w' => e = .returned (.bool true) ∧ Below w.heap.size w w' := by
  have hab : (amtB x && amtB u) = true := by rw [ha, hb]; rfl
  obtain ⟨x1, x2⟩ := amtB_yes ha
  obtain ⟨u1, u2⟩ := amtB_yes hb
  have ct := counts_any w htab
  have rx := fun w => refright_b x true ha w
  have ru := fun w => refright_b u true hb w
  have pa := fun w => pa_neg x u w hab hx
  have q1 : (Q.tmod u != 0) = false := by rw [q3]; rfl
  have q2 : (Q % u != 0) = false := by rw [q4]; rfl
  clear htab hab ha hb
  go_enter Tryd.func10, Tryd.ntmps10
  go_wp2_with (fail)
  refine (ct).mono ?_
  rintro e w1 ⟨rfl, b1⟩
  go_wp2_with (fail)
  refine (qu _).mono ?_
  rintro e w2 ⟨rfl, b2⟩
  go_wp2_with (fail)
  refine (pa _).mono ?_
  rintro e w3 ⟨rfl, b3⟩
  have b13 := below_step (below_step b1 b2 b1.size) b3 (below_step b1 b2 b1.size).size
  go_wp2_with (fail)
  refine (rx _).mono ?_
  rintro e w' ⟨rfl, rfl⟩
  go_wp2_with (fail)
  refine (ru _).mono ?_
  rintro e w' ⟨rfl, rfl⟩
  go_wp2
  go_ret
  exact ⟨rfl, b13⟩

set_option maxHeartbeats 2000000 in
set_option maxRecDepth 100000 in
theorem un_0_true_long (x u Q : Int) (w : World) (htab : Tab w) (ha : amtB x = true) (hb : amtB u = true) (hu : 1 ≤ u) (qu : ∀ w : World, Calls Tryd.prog 30 #[.int .i64 x, .int .i64 u, .bool true] w fun e w' => e = .returned (.tuple #[.int .i64 Q, .int .i64 0]) ∧ Below w.heap.size w w') (q3 : Q.tmod u = 0) (q4 : Q % u = 0) (qb1 : -100000000000 ≤ Q) (qb2 : Q ≤ 100000000000) (hq1 : x ≤ Q) (hq2 : Q < x + u) (hx : 0 ≤ x) (hl : 64 * u < x) :
    Calls Tryd.prog 10 #[.int .i64 x, .int .i64 u, .bool true] w fun e w' => e = .returned (.bool true) ∧ Below w.heap.size w w' := by
  have hab : (amtB x && amtB u) = true := by rw [ha, hb]; rfl
  obtain ⟨x1, x2⟩ := amtB_yes ha
  obtain ⟨u1, u2⟩ := amtB_yes hb
  have ct := counts_any w htab
  have rx := fun w => refright_b x true ha w
  have ru := fun w => refright_b u true hb w
  have pa := fun w => pa_long x u w hab hx hu hl
  have q1 : (Q.tmod u != 0) = false := by rw [q3]; rfl
  have q2 : (Q % u != 0) = false := by rw [q4]; rfl
  clear htab hab ha hb
  go_enter Tryd.func10, Tryd.ntmps10
  go_wp2_with (fail)
  refine (ct).mono ?_
  rintro e w1 ⟨rfl, b1⟩
  go_wp2_with (fail)
  refine (qu _).mono ?_
  rintro e w2 ⟨rfl, b2⟩
  go_wp2_with (fail)
  refine (pa _).mono ?_
  rintro e w3 ⟨rfl, b3⟩
  have b13 := below_step (below_step b1 b2 b1.size) b3 (below_step b1 b2 b1.size).size
  go_wp2_with (fail)
  refine (rx _).mono ?_
  rintro e w' ⟨rfl, rfl⟩
  go_wp2_with (fail)
  refine (ru _).mono ?_
  rintro e w' ⟨rfl, rfl⟩
  go_wp2
  refine wp_loop_rounds 1 ?_
  rw [rounds_succ]
  go_wp2
  go_ret
  exact ⟨rfl, b13⟩

set_option maxHeartbeats 2000000 in
set_option maxRecDepth 100000 in
theorem un_0_true_list (x u Q : Int) (w : World) (htab : Tab w) (ha : amtB x = true) (hb : amtB u = true) (hu : 1 ≤ u) (qu : ∀ w : World, Calls Tryd.prog 30 #[.int .i64 x, .int .i64 u, .bool true] w fun e w' => e = .returned (.tuple #[.int .i64 Q, .int .i64 0]) ∧ Below w.heap.size w w') (q3 : Q.tmod u = 0) (q4 : Q % u = 0) (qb1 : -100000000000 ≤ Q) (qb2 : Q ≤ 100000000000) (hq1 : x ≤ Q) (hq2 : Q < x + u) (hx : 0 ≤ x) (hl : ¬ 64 * u < x) :
    Calls Tryd.prog 10 #[.int .i64 x, .int .i64 u, .bool true] w fun e w' => e = .returned (.bool true) ∧ Below w.heap.size w w' := by
  have hab : (amtB x && amtB u) = true := by rw [ha, hb]; rfl
  obtain ⟨x1, x2⟩ := amtB_yes ha
  obtain ⟨u1, u2⟩ := amtB_yes hb
  have ct := counts_any w htab
  have rx := fun w => refright_b x true ha w
  have ru := fun w => refright_b u true hb w
  have pa := fun w => pa_ok x u w hab hx hu hl
  have q1 : (Q.tmod u != 0) = false := by rw [q3]; rfl
  have q2 : (Q % u != 0) = false := by rw [q4]; rfl
  clear htab hab ha hb
  go_enter Tryd.func10, Tryd.ntmps10
  go_wp2_with (fail)
  refine (ct).mono ?_
  rintro e w1 ⟨rfl, b1⟩
  go_wp2_with (fail)
  refine (qu _).mono ?_
  rintro e w2 ⟨rfl, b2⟩
  go_wp2_with (fail)
  refine (pa _).mono ?_
  rintro e w3 ⟨A, n, c, rfl, hpn, hrow, b3⟩
  have HPN := Lib.hid hpn
  have hn64 := hpn.1
  clear hpn pa qu ct
  have b13 := below_step (below_step b1 b2 b1.size) b3 (below_step b1 b2 b1.size).size
  go_wp2_with (fail)
  refine (rx _).mono ?_
  rintro e w' ⟨rfl, rfl⟩
  go_wp2_with (fail)
  refine (ru _).mono ?_
  rintro e w' ⟨rfl, rfl⟩
  go_wp2
  go_loop [11, 137] (fun s k => ∃ (i : Nat) (S : Int), i ≤ n ∧ s = .int .i64 S ∧ k = .int .i64 i ∧ 0 ≤ S ∧ S ≤ x ∧ Hid (i < n → S = i * u) ∧ Hid (i = n → S = x)) (fun _ k => n - (intOf k).toNat)
  case atStart => exact ⟨0, 0, Nat.zero_le _, rfl, rfl, by omega, by omega, Lib.hid (fun _ => by simp), Lib.hid (fun e => by
    have := HPN.out.2.1
    rw [← e] at this
    simp at this
    omega)⟩
  case round =>
    obtain ⟨i, S, hi, rfl, rfl, hS0, hSx, HS, HX⟩ := hrel
    by_cases hlt : i < n
    · obtain ⟨b, o, rfl, hc⟩ := hrow (by omega)
      have hcell : w3.cell? ⟨b, o + i, none⟩ = some (.int .i64 (pv x u i)) := hc i hlt
      have hst := unit_step hu HPN.out hlt
      have hpv := pv_at (show (x - S) + i * u = x by have := HS.out hlt; omega)
      have hSi := HS.out hlt
      rw [← hSi] at hst
      obtain ⟨s1, s2, s3⟩ := hst
      by_cases hle : x - S ≤ u
      · rw [hpv, if_pos hle] at hcell
        have s4 := s2 hle
        have c3 : ¬ (i : Int) + 1 < n := by omega
        have c4 : ¬ u < x - S := by omega
        have c5 : ¬ x - S ≤ 0 := by omega
        clear hpv hSi s2 s3 hc HS HX
        go_wp2
        go_round
        case rel => exact ⟨i + 1, S + (x - S), by omega, by go_num, by go_num, by omega, by omega, Lib.hid (fun e => by omega), Lib.hid (fun _ => by omega)⟩
        case measure => simp [intOf]; omega
      · rw [hpv, if_neg hle] at hcell
        have s4 := s3 hle
        have c3 : (i : Int) + 1 < n := by omega
        have HT := Lib.hid (show S + u = ((i + 1 : Nat) : Int) * u by rw [hSi, Int.natCast_add, Int.add_mul]; simp)
        have c6 : (u != u) = false := by simp
        clear hpv hSi s2 s3 hc HS HX
        go_wp2
        go_round
        case rel => exact ⟨i + 1, S + u, by omega, by go_num, by go_num, by omega, by omega, Lib.hid (fun _ => HT.out), Lib.hid (fun e => by omega)⟩
        case measure => simp [intOf]; omega
    · obtain rfl : i = n := by omega
      have hSx2 := HX.out rfl
      have h64 : (i : Int) ≤ 64 := by have := HPN.out.1; omega
      clear HS HX
      subst hSx2
      go_wp2
      go_ret
      exact ⟨rfl, b13⟩

set_option maxHeartbeats 2000000 in
set_option maxRecDepth 100000 in
theorem un_0_false_neg (x u Q : Int) (w : World) (htab : Tab w) (ha : amtB x = true) (hb : amtB u = true) (hu : 1 ≤ u) (qu : ∀ w : World, Calls Tryd.prog 30 #[.int .i64 x, .int .i64 u, .bool false] w fun e w' => e = .returned (.tuple #[.int .i64 Q, .int .i64 0]) ∧ Below w.heap.size w w') (q3 : Q.tmod u = 0) (q4 : Q % u = 0) (qb1 : -100000000000 ≤ Q) (qb2 : Q ≤ 100000000000) (hq1 : x - u < Q) (hq2 : Q ≤ x) (hx : x < 0) :
    Calls Tryd.prog 10 #[.int .i64 x, .int .i64 u, .bool false] w fun e w' => e = .returned (.bool true) ∧ Below w.heap.size w w' := by
  have hab : (amtB x && amtB u) = true := by rw [ha, hb]; rfl
  obtain ⟨x1, x2⟩ := amtB_yes ha
  obtain ⟨u1, u2⟩ := amtB_yes hb
  have ct := counts_any w htab
  have rx := fun w => refright_b x true ha w
  have ru := fun w => refright_b u true hb w
  have pa := fun w => pa_neg x u w hab hx
  have q1 : (Q.tmod u != 0) = false := by rw [q3]; rfl
  have q2 : (Q % u != 0) = false := by rw [q4]; rfl
  clear htab hab ha hb
  go_enter Tryd.func10, Tryd.ntmps10
  go_wp2_with (fail)
  refine (ct).mono ?_
  rintro e w1 ⟨rfl, b1⟩
  go_wp2_with (fail)
  refine (qu _).mono ?_
  rintro e w2 ⟨rfl, b2⟩
  go_wp2_with (fail)
  refine (pa _).mono ?_
  rintro e w3 ⟨rfl, b3⟩
  have b13 := below_step (below_step b1 b2 b1.size) b3 (below_step b1 b2 b1.size).size
  go_wp2_with (fail)
  refine (rx _).mono ?_
  rintro e w' ⟨rfl, rfl⟩
  go_wp2_with (fail)
  refine (ru _).mono ?_
  rintro e w' ⟨rfl, rfl⟩
  go_wp2
  go_ret
  exact ⟨rfl, b13⟩

set_option maxHeartbeats 2000000 in
set_option maxRecDepth 100000 in
theorem un_0_false_long (x u Q : Int) (w : World) (htab : Tab w) (ha : amtB x = true) (hb : amtB u = true) (hu : 1 ≤ u) (qu : ∀ w : World, Calls Tryd.prog 30 #[.int .i64 x, .int .i64 u, .bool false] w fun e w' => e = .returned (.tuple #[.int .i64 Q, .int .i64 0]) ∧ Below w.heap.size w w') (q3 : Q.tmod u = 0) (q4 : Q % u = 0) (qb1 : -100000000000 ≤ Q) (qb2 : Q ≤ 100000000000) (hq1 : x - u < Q) (hq2 : Q ≤ x) (hx : 0 ≤ x) (hl : 64 * u < x) :
    Calls Tryd.prog 10 #[.int .i64 x, .int .i64 u, .bool false] w fun e w' => e = .returned (.bool true) ∧ Below w.heap.size w w' := by
  have hab : (amtB x && amtB u) = true := by rw [ha, hb]; rfl
  obtain ⟨x1, x2⟩ := amtB_yes ha
  obtain ⟨u1, u2⟩ := amtB_yes hb
  have ct := counts_any w htab
  have rx := fun w => refright_b x true ha w
  have ru := fun w => refright_b u true hb w
  have pa := fun w => pa_long x u w hab hx hu hl
  have q1 : (Q.tmod u != 0) = false := by rw [q3]; rfl
  have q2 : (Q % u != 0) = false := by rw [q4]; rfl
  clear htab hab ha hb
  go_enter Tryd.func10, Tryd.ntmps10
  go_wp2_with (fail)
  refine (ct).mono ?_
  rintro e w1 ⟨rfl, b1⟩
  go_wp2_with (fail)
  refine (qu _).mono ?_
  rintro e w2 ⟨rfl, b2⟩
  go_wp2_with (fail)
  refine (pa _).mono ?_
  rintro e w3 ⟨rfl, b3⟩
  have b13 := below_step (below_step b1 b2 b1.size) b3 (below_step b1 b2 b1.size).size
  go_wp2_with (fail)
  refine (rx _).mono ?_
  rintro e w' ⟨rfl, rfl⟩
  go_wp2_with (fail)
  refine (ru _).mono ?_
  rintro e w' ⟨rfl, rfl⟩
  go_wp2
  refine wp_loop_rounds 1 ?_
  rw [rounds_succ]
  go_wp2
  go_ret
  exact ⟨rfl, b13⟩

set_option maxHeartbeats 2000000 in
set_option maxRecDepth 100000 in
theorem un_0_false_list (x u Q : Int) (w : World) (htab : Tab w) (ha : amtB x = true) (hb : amtB u = true) (hu : 1 ≤ u) (qu : ∀ w : World, Calls Tryd.prog 30 #[.int .i64 x, .int .i64 u, .bool false] w fun e w' => e = .returned (.tuple #[.int .i64 Q, .int .i64 0]) ∧ Below w.heap.size w w') (q3 : Q.tmod u = 0) (q4 : Q % u = 0) (qb1 : -100000000000 ≤ Q) (qb2 : Q ≤ 100000000000) (hq1 : x - u < Q) (hq2 : Q ≤ x) (hx : 0 ≤ x) (hl : ¬ 64 * u < x) :
    Calls Tryd.prog 10 #[.int .i64 x, .int .i64 u, .bool false] w fun e w' => e = .returned (.bool true) ∧ Below w.heap.size w w' := by
  have hab : (amtB x && amtB u) = true := by rw [ha, hb]; rfl
  obtain ⟨x1, x2⟩ := amtB_yes ha
  obtain ⟨u1, u2⟩ := amtB_yes hb
  have ct := counts_any w htab
  have rx := fun w => refright_b x true ha w
  have ru := fun w => refright_b u true hb w
  have pa := fun w => pa_ok x u w hab hx hu hl
  have q1 : (Q.tmod u != 0) = false := by rw [q3]; rfl
  have q2 : (Q % u != 0) = false := by rw [q4]; rfl
  clear htab hab ha hb
  go_enter Tryd.func10, Tryd.ntmps10
  go_wp2_with (fail)
  refine (ct).mono ?_
  rintro e w1 ⟨rfl, b1⟩
  go_wp2_with (fail)
  refine (qu _).mono ?_
  rintro e w2 ⟨rfl, b2⟩
  go_wp2_with (fail)
  refine (pa _).mono ?_
  rintro e w3 ⟨A, n, c, rfl, hpn, hrow, b3⟩
  have HPN := Lib.hid hpn
  have hn64 := hpn.1
  clear hpn pa qu ct
  have b13 := below_step (below_step b1 b2 b1.size) b3 (below_step b1 b2 b1.size).size
  go_wp2_with (fail)
  refine (rx _).mono ?_
  rintro e w' ⟨rfl, rfl⟩
  go_wp2_with (fail)
  refine (ru _).mono ?_
  rintro e w' ⟨rfl, rfl⟩
  go_wp2
  go_loop [11, 137] (fun s k => ∃ (i : Nat) (S : Int), i ≤ n ∧ s = .int .i64 S ∧ k = .int .i64 i ∧ 0 ≤ S ∧ S ≤ x ∧ Hid (i < n → S = i * u) ∧ Hid (i = n → S = x)) (fun _ k => n - (intOf k).toNat)
  case atStart => exact ⟨0, 0, Nat.zero_le _, rfl, rfl, by omega, by omega, Lib.hid (fun _ => by simp), Lib.hid (fun e => by
    have := HPN.out.2.1
    rw [← e] at this
    simp at this
    omega)⟩
  case round =>
    obtain ⟨i, S, hi, rfl, rfl, hS0, hSx, HS, HX⟩ := hrel
    by_cases hlt : i < n
    · obtain ⟨b, o, rfl, hc⟩ := hrow (by omega)
      have hcell : w3.cell? ⟨b, o + i, none⟩ = some (.int .i64 (pv x u i)) := hc i hlt
      have hst := unit_step hu HPN.out hlt
      have hpv := pv_at (show (x - S) + i * u = x by have := HS.out hlt; omega)
      have hSi := HS.out hlt
      rw [← hSi] at hst
      obtain ⟨s1, s2, s3⟩ := hst
      by_cases hle : x - S ≤ u
      · rw [hpv, if_pos hle] at hcell
        have s4 := s2 hle
        have c3 : ¬ (i : Int) + 1 < n := by omega
        have c4 : ¬ u < x - S := by omega
        have c5 : ¬ x - S ≤ 0 := by omega
        clear hpv hSi s2 s3 hc HS HX
        go_wp2
        go_round
        case rel => exact ⟨i + 1, S + (x - S), by omega, by go_num, by go_num, by omega, by omega, Lib.hid (fun e => by omega), Lib.hid (fun _ => by omega)⟩
        case measure => simp [intOf]; omega
      · rw [hpv, if_neg hle] at hcell
        have s4 := s3 hle
        have c3 : (i : Int) + 1 < n := by omega
        have HT := Lib.hid (show S + u = ((i + 1 : Nat) : Int) * u by rw [hSi, Int.natCast_add, Int.add_mul]; simp)
        have c6 : (u != u) = false := by simp
        clear hpv hSi s2 s3 hc HS HX
        go_wp2
        go_round
        case rel => exact ⟨i + 1, S + u, by omega, by go_num, by go_num, by omega, by omega, Lib.hid (fun _ => HT.out), Lib.hid (fun e => by omega)⟩
        case measure => simp [intOf]; omega
    · obtain rfl : i = n := by omega
      have hSx2 := HX.out rfl
      have h64 : (i : Int) ≤ 64 := by have := HPN.out.1; omega
      clear HS HX
      subst hSx2
      go_wp2
      go_ret
      exact ⟨rfl, b13⟩

theorem wMoneyUnits (x u : Int) (up : Bool) (w : World) (htab : Tab w) (_ : -9223372036854775808 ≤ x) (_ : x ≤ 9223372036854775807) (_ : -9223372036854775808 ≤ u) (_ : u ≤ 9223372036854775807) :
    Calls Tryd.prog 10 #[.int .i64 x, .int .i64 u, .bool up] w fun e w' => e = .returned (.bool true) ∧ Below w.heap.size w w' := by
  cases ha : amtB x
  · exact un_a x u up w htab ha
  · cases hb : amtB u
    · exact un_b x u up w htab ha hb
    · by_cases hu : u ≤ 0
      · exact un_r x u up w htab ha hb hu
      · have hu : 1 ≤ u := by omega
        obtain ⟨Q, ⟨q4, q3, hq⟩, qu⟩ := quant_any x u up (by rw [ha, hb]; rfl) hu
        cases hm : amtB Q
        · rw [hm] at qu
          have hQ := amtB_no hm
          have h1 := amtB_yes ha
          have h2 := amtB_yes hb
          cases up
          · simp only [Bool.false_eq_true, if_false] at hq qu
            by_cases hx : x < 0
            · exact un_10_false_neg x u Q w htab ha hb hu qu (by omega) hx
            · by_cases hl : 64 * u < x
              · exact un_10_false_long x u Q w htab ha hb hu qu (by omega) (by omega) hl
              · exact un_10_false_list x u Q w htab ha hb hu qu (by omega) (by omega) hl
          · simp only [Bool.false_eq_true, if_false, if_true] at hq qu
            by_cases hx : x < 0
            · exact un_10_true_neg x u Q w htab ha hb hu qu (by omega) hx
            · by_cases hl : 64 * u < x
              · exact un_10_true_long x u Q w htab ha hb hu qu (by omega) (by omega) hl
              · exact un_10_true_list x u Q w htab ha hb hu qu (by omega) (by omega) hl
        · rw [hm] at qu
          obtain ⟨c1, c2⟩ := amtB_yes hm
          cases up
          · simp only [Bool.false_eq_true, if_false, if_true] at hq qu
            by_cases hx : x < 0
            · exact un_0_false_neg x u Q w htab ha hb hu qu q3 q4 c1 c2 hq.1 hq.2 hx
            · by_cases hl : 64 * u < x
              · exact un_0_false_long x u Q w htab ha hb hu qu q3 q4 c1 c2 hq.1 hq.2 (by omega) hl
              · exact un_0_false_list x u Q w htab ha hb hu qu q3 q4 c1 c2 hq.1 hq.2 (by omega) hl
          · simp only [if_true] at hq qu
            by_cases hx : x < 0
            · exact un_0_true_neg x u Q w htab ha hb hu qu q3 q4 c1 c2 hq.1 hq.2 hx
            · by_cases hl : 64 * u < x
              · exact un_0_true_long x u Q w htab ha hb hu qu q3 q4 c1 c2 hq.1 hq.2 (by omega) hl
              · exact un_0_true_list x u Q w htab ha hb hu qu q3 q4 c1 c2 hq.1 hq.2 (by omega) hl
end Go.Proofs.YtjjeohnejhhacaaDoor
