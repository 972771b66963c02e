/- MoneyAdds answers true of any two numbers. -/
import Derived.Test.YtjjeohnejhhacaaDoorCounts
namespace Go.Proofs.YtjjeohnejhhacaaDoor
open Go.RowKit

set_option maxRecDepth 100000 in
set_option maxHeartbeats 1000000 in
theorem adds_a (a b : Int) (w : World) (htab : Tab w) (ha : amtB a = false) :
    Calls Tryd.prog 3 #[.int .i64 a, .int .i64 b] w fun e w' => e = .returned (.bool true) ∧ Below w.heap.size w w' := by
  have hab : (amtB a && amtB b) = false := by rw [ha]; rfl
  have ct := counts_any w htab
  have ad := fun w => add_args a b w hab
  have su := fun w => sub_args a b w hab
  have ri := fun w => right2 a b w 2 false hab
  clear htab hab
  have ra := fun w => refright_b a false ha w
  clear ha
  go_enter Tryd.func3, Tryd.ntmps3
  go_wp2_with (fail)
  refine (ct).mono ?_
  rintro e w1 ⟨rfl, b1⟩
  go_wp2_with (fail)
  refine (ad _).mono ?_
  rintro e w2 ⟨rfl, b2⟩
  go_wp2_with (fail)
  refine (su _).mono ?_
  rintro e w3 ⟨rfl, b3⟩
  go_wp2_with (fail)
  refine (ra _).mono ?_
  rintro e w' ⟨rfl, rfl⟩
  go_wp2_with (fail)
  refine (ri _).mono ?_
  rintro e w' ⟨rfl, rfl⟩
  go_wp2
  go_ret
  have b13 := below_step (below_step b1 b2 b1.size) b3 (below_step b1 b2 b1.size).size
  exact ⟨rfl, b13.alloc b13.size _⟩

set_option maxRecDepth 100000 in
set_option maxHeartbeats 1000000 in
theorem adds_b (a b : Int) (w : World) (htab : Tab w) (ha : amtB a = true) (hb : amtB b = false) :
    Calls Tryd.prog 3 #[.int .i64 a, .int .i64 b] w fun e w' => e = .returned (.bool true) ∧ Below w.heap.size w w' := by
  have hab : (amtB a && amtB b) = false := by rw [ha, hb]; rfl
  have ct := counts_any w htab
  have ad := fun w => add_args a b w hab
  have su := fun w => sub_args a b w hab
  have ri := fun w => right2 a b w 2 false hab
  clear htab hab
  have ra := fun w => refright_b a true ha w
  have rb := fun w => refright_b b false hb w
  clear ha hb
  go_enter Tryd.func3, Tryd.ntmps3
  go_wp2_with (fail)
  refine (ct).mono ?_
  rintro e w1 ⟨rfl, b1⟩
  go_wp2_with (fail)
  refine (ad _).mono ?_
  rintro e w2 ⟨rfl, b2⟩
  go_wp2_with (fail)
  refine (su _).mono ?_
  rintro e w3 ⟨rfl, b3⟩
  go_wp2_with (fail)
  refine (ra _).mono ?_
  rintro e w' ⟨rfl, rfl⟩
  go_wp2_with (fail)
  refine (rb _).mono ?_
  rintro e w' ⟨rfl, rfl⟩
  go_wp2_with (fail)
  refine (ri _).mono ?_
  rintro e w' ⟨rfl, rfl⟩
  go_wp2
  go_ret
  have b13 := below_step (below_step b1 b2 b1.size) b3 (below_step b1 b2 b1.size).size
  exact ⟨rfl, b13.alloc b13.size _⟩

set_option maxRecDepth 100000 in
set_option maxHeartbeats 1000000 in
theorem adds_yy (a b : Int) (w : World) (htab : Tab w) (ha : amtB a = true) (hb : amtB b = true) (hs : amtB (a + b) = true) (hl : amtB (a - b) = true) :
    Calls Tryd.prog 3 #[.int .i64 a, .int .i64 b] w fun e w' => e = .returned (.bool true) ∧ Below w.heap.size w w' := by
  have hab : (amtB a && amtB b) = true := by rw [ha, hb]; rfl
  obtain ⟨a1, a2⟩ := amtB_yes ha
  obtain ⟨b1, b2⟩ := amtB_yes hb
  have ct := counts_any w htab
  have ad := fun w => add_ok a b w hab hs
  have su := fun w => sub_ok a b w hab hl
  have ri := fun w => right2 a b w 2 true hab
  have ra := fun w => refright_b a true ha w
  have rb := fun w => refright_b b true hb w
  have rs := fun w => refright_b (a + b) true hs w
  have rl := fun w => refright_b (a - b) true hl w
  have le := fun w => least_any a b w
  have gr := fun w => greatest_any a b w
  clear htab hab ha hb hs hl
  have hsum : (if a ≤ b then a else b) + (if a ≤ b then b else a) = a + b := by split <;> omega
  have hl1 : -100000000000 ≤ (if a ≤ b then a else b) := by split <;> omega
  have hl2 : (if a ≤ b then a else b) ≤ 100000000000 := by split <;> omega
  have hg1 : -100000000000 ≤ (if a ≤ b then b else a) := by split <;> omega
  have hg2 : (if a ≤ b then b else a) ≤ 100000000000 := by split <;> omega
  generalize (if a ≤ b then a else b) = x at *
  generalize (if a ≤ b then b else a) = y at *
  have hsum2 : (x + y == a + b) = true := by rw [hsum]; exact beq_self_eq_true _
  clear hsum
  go_enter Tryd.func3, Tryd.ntmps3
  go_wp2_with (fail)
  refine (ct).mono ?_
  rintro e w1 ⟨rfl, b1⟩
  go_wp2_with (fail)
  refine (ad _).mono ?_
  rintro e w2 ⟨rfl, b2⟩
  go_wp2_with (fail)
  refine (su _).mono ?_
  rintro e w3 ⟨rfl, b3⟩
  go_wp2_with (fail)
  refine (ra _).mono ?_
  rintro e w' ⟨rfl, rfl⟩
  go_wp2_with (fail)
  refine (rb _).mono ?_
  rintro e w' ⟨rfl, rfl⟩
  go_wp2_with (fail)
  refine (rs _).mono ?_
  rintro e w' ⟨rfl, rfl⟩
  go_wp2_with (fail)
  refine (rl _).mono ?_
  rintro e w' ⟨rfl, rfl⟩
  go_wp2_with (fail)
  refine (ri _).mono ?_
  rintro e w' ⟨rfl, rfl⟩
  go_wp2_with (fail)
  refine (le _).mono ?_
  rintro e w' ⟨rfl, rfl⟩
  go_wp2_with (fail)
  refine (gr _).mono ?_
  rintro e w' ⟨rfl, rfl⟩
  go_wp2
  go_ret
  have b13 := below_step (below_step b1 b2 b1.size) b3 (below_step b1 b2 b1.size).size
  exact ⟨rfl, b13.alloc b13.size _⟩

set_option maxRecDepth 100000 in
set_option maxHeartbeats 1000000 in
theorem adds_yn (a b : Int) (w : World) (htab : Tab w) (ha : amtB a = true) (hb : amtB b = true) (hs : amtB (a + b) = true) (hl : amtB (a - b) = false) :
    Calls Tryd.prog 3 #[.int .i64 a, .int .i64 b] w fun e w' => e = .returned (.bool true) ∧ Below w.heap.size w w' := by
  have hab : (amtB a && amtB b) = true := by rw [ha, hb]; rfl
  obtain ⟨a1, a2⟩ := amtB_yes ha
  obtain ⟨b1, b2⟩ := amtB_yes hb
  have ct := counts_any w htab
  have ad := fun w => add_ok a b w hab hs
  have su := fun w => sub_less a b w hab hl
  have ri := fun w => right2 a b w 2 true hab
  have ra := fun w => refright_b a true ha w
  have rb := fun w => refright_b b true hb w
  have rs := fun w => refright_b (a + b) true hs w
  have rl := fun w => refright_b (a - b) false hl w
  have le := fun w => least_any a b w
  have gr := fun w => greatest_any a b w
  clear htab hab ha hb hs hl
  have hsum : (if a ≤ b then a else b) + (if a ≤ b then b else a) = a + b := by split <;> omega
  have hl1 : -100000000000 ≤ (if a ≤ b then a else b) := by split <;> omega
  have hl2 : (if a ≤ b then a else b) ≤ 100000000000 := by split <;> omega
  have hg1 : -100000000000 ≤ (if a ≤ b then b else a) := by split <;> omega
  have hg2 : (if a ≤ b then b else a) ≤ 100000000000 := by split <;> omega
  generalize (if a ≤ b then a else b) = x at *
  generalize (if a ≤ b then b else a) = y at *
  have hsum2 : (x + y == a + b) = true := by rw [hsum]; exact beq_self_eq_true _
  clear hsum
  go_enter Tryd.func3, Tryd.ntmps3
  go_wp2_with (fail)
  refine (ct).mono ?_
  rintro e w1 ⟨rfl, b1⟩
  go_wp2_with (fail)
  refine (ad _).mono ?_
  rintro e w2 ⟨rfl, b2⟩
  go_wp2_with (fail)
  refine (su _).mono ?_
  rintro e w3 ⟨rfl, b3⟩
  go_wp2_with (fail)
  refine (ra _).mono ?_
  rintro e w' ⟨rfl, rfl⟩
  go_wp2_with (fail)
  refine (rb _).mono ?_
  rintro e w' ⟨rfl, rfl⟩
  go_wp2_with (fail)
  refine (rs _).mono ?_
  rintro e w' ⟨rfl, rfl⟩
  go_wp2_with (fail)
  refine (rl _).mono ?_
  rintro e w' ⟨rfl, rfl⟩
  go_wp2_with (fail)
  refine (ri _).mono ?_
  rintro e w' ⟨rfl, rfl⟩
  go_wp2_with (fail)
  refine (le _).mono ?_
  rintro e w' ⟨rfl, rfl⟩
  go_wp2_with (fail)
  refine (gr _).mono ?_
  rintro e w' ⟨rfl, rfl⟩
  go_wp2
  go_ret
  have b13 := below_step (below_step b1 b2 b1.size) b3 (below_step b1 b2 b1.size).size
  exact ⟨rfl, b13.alloc b13.size _⟩

set_option maxRecDepth 100000 in
set_option maxHeartbeats 1000000 in
theorem adds_ny (a b : Int) (w : World) (htab : Tab w) (ha : amtB a = true) (hb : amtB b = true) (hs : amtB (a + b) = false) (hl : amtB (a - b) = true) :
    Calls Tryd.prog 3 #[.int .i64 a, .int .i64 b] w fun e w' => e = .returned (.bool true) ∧ Below w.heap.size w w' := by
  have hab : (amtB a && amtB b) = true := by rw [ha, hb]; rfl
  obtain ⟨a1, a2⟩ := amtB_yes ha
  obtain ⟨b1, b2⟩ := amtB_yes hb
  have ct := counts_any w htab
  have ad := fun w => add_sum a b w hab hs
  have su := fun w => sub_ok a b w hab hl
  have ri := fun w => right2 a b w 2 true hab
  have ra := fun w => refright_b a true ha w
  have rb := fun w => refright_b b true hb w
  have rs := fun w => refright_b (a + b) false hs w
  have rl := fun w => refright_b (a - b) true hl w
  have le := fun w => least_any a b w
  have gr := fun w => greatest_any a b w
  clear htab hab ha hb hs hl
  have hsum : (if a ≤ b then a else b) + (if a ≤ b then b else a) = a + b := by split <;> omega
  have hl1 : -100000000000 ≤ (if a ≤ b then a else b) := by split <;> omega
  have hl2 : (if a ≤ b then a else b) ≤ 100000000000 := by split <;> omega
  have hg1 : -100000000000 ≤ (if a ≤ b then b else a) := by split <;> omega
  have hg2 : (if a ≤ b then b else a) ≤ 100000000000 := by split <;> omega
  generalize (if a ≤ b then a else b) = x at *
  generalize (if a ≤ b then b else a) = y at *
  have hsum2 : (x + y == a + b) = true := by rw [hsum]; exact beq_self_eq_true _
  clear hsum
  go_enter Tryd.func3, Tryd.ntmps3
  go_wp2_with (fail)
  refine (ct).mono ?_
  rintro e w1 ⟨rfl, b1⟩
  go_wp2_with (fail)
  refine (ad _).mono ?_
  rintro e w2 ⟨rfl, b2⟩
  go_wp2_with (fail)
  refine (su _).mono ?_
  rintro e w3 ⟨rfl, b3⟩
  go_wp2_with (fail)
  refine (ra _).mono ?_
  rintro e w' ⟨rfl, rfl⟩
  go_wp2_with (fail)
  refine (rb _).mono ?_
  rintro e w' ⟨rfl, rfl⟩
  go_wp2_with (fail)
  refine (rs _).mono ?_
  rintro e w' ⟨rfl, rfl⟩
  go_wp2_with (fail)
  refine (rl _).mono ?_
  rintro e w' ⟨rfl, rfl⟩
  go_wp2_with (fail)
  refine (ri _).mono ?_
  rintro e w' ⟨rfl, rfl⟩
  go_wp2_with (fail)
  refine (le _).mono ?_
  rintro e w' ⟨rfl, rfl⟩
  go_wp2_with (fail)
  refine (gr _).mono ?_
  rintro e w' ⟨rfl, rfl⟩
  go_wp2
  go_ret
  have b13 := below_step (below_step b1 b2 b1.size) b3 (below_step b1 b2 b1.size).size
  exact ⟨rfl, b13.alloc b13.size _⟩

set_option maxRecDepth 100000 in
set_option maxHeartbeats 1000000 in
theorem adds_nn (a b : Int) (w : World) (htab : Tab w) (ha : amtB a = true) (hb : amtB b = true) (hs : amtB (a + b) = false) (hl : amtB (a - b) = false) :
    Calls Tryd.prog 3 #[.int .i64 a, .int .i64 b] w fun e w' => e = .returned (.bool true) ∧ Below w.heap.size w w' := by
  have hab : (amtB a && amtB b) = true := by rw [ha, hb]; rfl
  obtain ⟨a1, a2⟩ := amtB_yes ha
  obtain ⟨b1, b2⟩ := amtB_yes hb
  have ct := counts_any w htab
  have ad := fun w => add_sum a b w hab hs
  have su := fun w => sub_less a b w hab hl
  have ri := fun w => right2 a b w 2 true hab
  have ra := fun w => refright_b a true ha w
  have rb := fun w => refright_b b true hb w
  have rs := fun w => refright_b (a + b) false hs w
  have rl := fun w => refright_b (a - b) false hl w
  have le := fun w => least_any a b w
  have gr := fun w => greatest_any a b w
  clear htab hab ha hb hs hl
  have hsum : (if a ≤ b then a else b) + (if a ≤ b then b else a) = a + b := by split <;> omega
  have hl1 : -100000000000 ≤ (if a ≤ b then a else b) := by split <;> omega
  have hl2 : (if a ≤ b then a else b) ≤ 100000000000 := by split <;> omega
  have hg1 : -100000000000 ≤ (if a ≤ b then b else a) := by split <;> omega
  have hg2 : (if a ≤ b then b else a) ≤ 100000000000 := by split <;> omega
  generalize (if a ≤ b then a else b) = x at *
  generalize (if a ≤ b then b else a) = y at *
  have hsum2 : (x + y == a + b) = true := by rw [hsum]; exact beq_self_eq_true _
  clear hsum
  go_enter Tryd.func3, Tryd.ntmps3
  go_wp2_with (fail)
  refine (ct).mono ?_
  rintro e w1 ⟨rfl, b1⟩
  go_wp2_with (fail)
  refine (ad _).mono ?_
  rintro e w2 ⟨rfl, b2⟩
  go_wp2_with (fail)
  refine (su _).mono ?_
  rintro e w3 ⟨rfl, b3⟩
  go_wp2_with (fail)
  refine (ra _).mono ?_
  rintro e w' ⟨rfl, rfl⟩
  go_wp2_with (fail)
  refine (rb _).mono ?_
  rintro e w' ⟨rfl, rfl⟩
  go_wp2_with (fail)
  refine (rs _).mono ?_
  rintro e w' ⟨rfl, rfl⟩
  go_wp2_with (fail)
  refine (rl _).mono ?_
  rintro e w' ⟨rfl, rfl⟩
  go_wp2_with (fail)
  refine (ri _).mono ?_
  rintro e w' ⟨rfl, rfl⟩
  go_wp2_with (fail)
  refine (le _).mono ?_
  rintro e w' ⟨rfl, rfl⟩
  go_wp2_with (fail)
  refine (gr _).mono ?_
  rintro e w' ⟨rfl, rfl⟩
  go_wp2
  go_ret
  have b13 := below_step (below_step b1 b2 b1.size) b3 (below_step b1 b2 b1.size).size
  exact ⟨rfl, b13.alloc b13.size _⟩

theorem wMoneyAdds (a b : Int) (w : World) (htab : Tab w) (_ : -9223372036854775808 ≤ a) (_ : a ≤ 9223372036854775807) (_ : -9223372036854775808 ≤ b) (_ : b ≤ 9223372036854775807) :
    Calls Tryd.prog 3 #[.int .i64 a, .int .i64 b] w fun e w' => e = .returned (.bool true) ∧ Below w.heap.size w w' := by
  cases ha : amtB a
  · exact adds_a a b w htab ha
  · cases hb : amtB b
    · exact adds_b a b w htab ha hb
    · cases hs : amtB (a + b)
      · cases hl : amtB (a - b)
        · exact adds_nn a b w htab ha hb hs hl
        · exact adds_ny a b w htab ha hb hs hl
      · cases hl : amtB (a - b)
        · exact adds_yn a b w htab ha hb hs hl
        · exact adds_yy a b w htab ha hb hs hl
end Go.Proofs.YtjjeohnejhhacaaDoor
