/- The walk of the law PairSides. -/
import Derived.Test.YtkiefceomgbbhaaPairE
namespace Go.Proofs.Ytkiefceomgbbhaa
open Go.RowKit Go.Sort
set_option linter.unusedVariables false

theorem lright_any (n : Int) (W : World) : Calls Try.prog 31 #[.int .i64 n] W fun e w' => e = .returned (.bool (sdB n)) ∧ W = w' := by
  go_enter Try.func31, Try.ntmps31
  go_wp2
  · go_ret
    exact ⟨ret_b (by simp only [sdB]; congr 1; simp; omega), rfl⟩
  · go_ret
    exact ⟨ret_b (by simp only [sdB]; simp; omega), rfl⟩
theorem lright_b (n : Int) (b : Bool) (h : sdB n = b) (W : World) : Calls Try.prog 31 #[.int .i64 n] W fun e w' => e = .returned (.bool b) ∧ W = w' := by
  subst h
  exact lright_any n W
theorem order_00 : FloatKind.f64.format.order 0 0 = some .eq := order_eq (is_zero false) (is_zero false) rfl
set_option maxHeartbeats 4000000 in
set_option maxRecDepth 100000 in
theorem wPairSides (a b : Int) (w : World) (ha : -9223372036854775808 ≤ a) (ha' : a ≤ 9223372036854775807) (hb : -9223372036854775808 ≤ b) (hb' : b ≤ 9223372036854775807) :
    Calls Try.prog 8 #[.int .i64 a, .int .i64 b] w fun e w' => e = .returned (.bool true) ∧ Below w.heap.size w w' := by
  have sm := both_any w
  have o0 := order_00
  cases h1 : sdB a
  · have c1 := of_bad2 a b (by rw [h1]; rfl)
    have c2 := lright_b a false h1
    clear h1
    go_enter Try.func8, Try.ntmps8
    go_wp2_with (fail)
    with_reducible refine (sm).mono ?_
    rintro e w1 ⟨rfl, d1⟩
    have hb1 := d1
    go_wp2_with (fail)
    with_reducible refine (c1 _).mono ?_
    rintro e w' ⟨rfl, rfl⟩
    go_wp2_with (fail)
    with_reducible refine (c2 _).mono ?_
    rintro e w' ⟨rfl, rfl⟩
    go_wp2
    go_ret
    exact ⟨rfl, hb1⟩
  · cases h2 : sdB b
    · have c1 := of_bad2 a b (by rw [h2]; simp)
      have c2 := lright_b a true h1
      have c3 := lright_b b false h2
      clear h1 h2
      go_enter Try.func8, Try.ntmps8
      go_wp2_with (fail)
      with_reducible refine (sm).mono ?_
      rintro e w1 ⟨rfl, d1⟩
      have hb1 := d1
      go_wp2_with (fail)
      with_reducible refine (c1 _).mono ?_
      rintro e w' ⟨rfl, rfl⟩
      go_wp2_with (fail)
      with_reducible refine (c2 _).mono ?_
      rintro e w' ⟨rfl, rfl⟩
      go_wp2_with (fail)
      with_reducible refine (c3 _).mono ?_
      rintro e w' ⟨rfl, rfl⟩
      go_wp2
      go_ret
      exact ⟨rfl, hb1⟩
    · have c1 := of_ok2 a b h1 h2
      have c2 := lright_b a true h1
      have c3 := lright_b b true h2
      have s1 := sdB_yes h1
      have s2 := sdB_yes h2
      have i1 := of_is a (by omega)
      have i2 := of_is b (by omega)
      generalize floatOfInt .f64 a = pa at *
      generalize floatOfInt .f64 b = pb at *
      have c4 := sides_ok pa pb a b i1 i2 h1 h2
      have c5 := swap_any pa pb
      have c6 := sides_ok pb pa b a i2 i1 h2 h1
      have c7 := pright_b pa pb a b true i1 i2 (by rw [h1, h2]; rfl)
      clear h1 h2 s1 s2 i1 i2
      go_enter Try.func8, Try.ntmps8
      go_wp2_with (fail)
      with_reducible refine (sm).mono ?_
      rintro e w1 ⟨rfl, d1⟩
      have hb1 := d1
      go_wp2_with (fail)
      with_reducible refine (c1 _).mono ?_
      rintro e w' ⟨rfl, rfl⟩
      go_wp2_with (fail)
      with_reducible refine (c2 _).mono ?_
      rintro e w' ⟨rfl, rfl⟩
      go_wp2_with (fail)
      with_reducible refine (c3 _).mono ?_
      rintro e w' ⟨rfl, rfl⟩
      go_wp2_with (fail)
      with_reducible refine (c4 _).mono ?_
      rintro e w' ⟨rfl, rfl⟩
      go_wp2_with (fail)
      with_reducible refine (c5 _).mono ?_
      rintro e w' ⟨rfl, rfl⟩
      go_wp2_with (fail)
      with_reducible refine (c6 _).mono ?_
      rintro e w' ⟨rfl, rfl⟩
      go_wp2_with (fail)
      with_reducible refine (c7 _).mono ?_
      rintro e w' ⟨rfl, rfl⟩
      go_wp2
      go_ret
      exact ⟨rfl, hb1⟩
end Go.Proofs.Ytkiefceomgbbhaa
