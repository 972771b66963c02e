/- What the calls of date answer that lean on a day's number: Weekday, Add. -/
import Derived.Test.YtkgfmanolanlhaaDoorDateB
namespace Go.Proofs.YtkgfmanolanlhaaDoor
open Go.RowKit
set_option linter.unusedVariables false
set_option linter.unusedSimpArgs false

/-- a day in its box, and a result's place behind it -/
def Two (W : World) (h : Nat) (y m d : Int) : Prop := Day W h y m d ∧ Day W (h + 1) 0 0 0 ∧ Free W (h + 1) ∧ h + 1 < W.heap.size
theorem Two.below {W W' : World} {h : Nat} {y m d : Int} (T : Two W h y m d) (hb : Below W.heap.size W W') : Two W' h y m d :=
  ⟨T.1.below hb (by have := T.2.2.2; omega), T.2.1.below hb T.2.2.2, T.2.2.1.below hb T.2.2.2, by have := T.2.2.2; have := hb.size; omega⟩
theorem two_new (w : World) (y m d : Int) (t t' : TypeId) : Two ((w.alloc (.cells #[.int .i64 y, .int .i64 m, .int .i64 d] t)).alloc (.cells #[.int .i64 0, .int .i64 0, .int .i64 0] t')) w.heap.size y m d := by
  have h1 := day_new (w.alloc (.cells #[.int .i64 y, .int .i64 m, .int .i64 d] t)) 0 0 0 t'
  have h2 := free_new (w.alloc (.cells #[.int .i64 y, .int .i64 m, .int .i64 d] t)) #[.int .i64 0, .int .i64 0, .int .i64 0] t'
  have hs : (w.alloc (.cells #[.int .i64 y, .int .i64 m, .int .i64 d] t)).heap.size = w.heap.size + 1 := by simp
  rw [hs] at h1 h2
  exact ⟨(day_new w y m d t).below ((Below.refl _ _).alloc (Nat.le_refl _) _) (by simp), h1, h2, by simp⟩
theorem two_base (w : World) (c c' : Array Value) (t t' : TypeId) : Below w.heap.size w ((w.alloc (.cells c t)).alloc (.cells c' t')) := ((Below.refl _ _).alloc (Nat.le_refl _) _).alloc (by simp) _

theorem weekday_no (y m d : Int) (h : dayB y m d = false) (w : World) : Calls Tryd.prog 13 #[.agg #[.int .i64 y, .int .i64 m, .int .i64 d]] w fun e w' => e = .returned (.tuple #[.int .i64 0, .int .i64 30]) ∧ Below w.heap.size w w' := by
  have hc := number_no y m d h
  clear h
  go_enter Tryd.func13, Tryd.ntmps13
  go_wp2_with (fail)
  refine (hc _).mono ?_
  rintro e w' ⟨rfl, hb⟩
  go_wp2
  go_ret2
  exact ⟨rfl, below_step ((Below.refl _ _).alloc (Nat.le_refl _) _) hb (by simp)⟩
theorem weekday_yes (y m d : Int) (h : dayB y m d = true) (w : World) : Calls Tryd.prog 13 #[.agg #[.int .i64 y, .int .i64 m, .int .i64 d]] w fun e w' => e = .returned (.tuple #[.int .i64 (num y m d % 7), .int .i64 0]) ∧ Below w.heap.size w w' := by
  have hc := number_yes y m d h
  obtain ⟨_, _, n3, n4⟩ := num_bd h
  clear h
  generalize num y m d = n at *
  go_enter Tryd.func13, Tryd.ntmps13
  go_wp2_with (fail)
  refine (hc _).mono ?_
  rintro e w' ⟨rfl, hb⟩
  go_wp2
  go_ret2
  exact ⟨rfl, below_step ((Below.refl _ _).alloc (Nat.le_refl _) _) hb (by simp)⟩

theorem add_no (y m d k : Int) (h : dayB y m d = false) (w : World) : Calls Tryd.prog 21 #[.agg #[.int .i64 y, .int .i64 m, .int .i64 d], .int .i64 k] w fun e w' => e = .returned (.tuple #[.agg #[.int .i64 0, .int .i64 0, .int .i64 0], .int .i64 30]) ∧ Below w.heap.size w w' := by
  have hc := number_no y m d h
  clear h
  have T0 := two_new w y m d 23 23
  have B0 := two_base w #[.int .i64 y, .int .i64 m, .int .i64 d] #[.int .i64 0, .int .i64 0, .int .i64 0] 23 23
  obtain ⟨⟨a0, a1, a2⟩, _⟩ := id T0
  go_enter Tryd.func21, Tryd.ntmps21
  go_wp2_with (fail)
  refine (hc _).mono ?_
  rintro e w1 ⟨rfl, hb⟩
  obtain ⟨⟨c0, c1, c2⟩, ⟨r0, r1, r2⟩, ⟨f0, f1, f2⟩, hz⟩ := T0.below hb
  have B1 := below_step B0 hb (by simp; omega)
  clear hb T0 B0
  go_wp2
  exact bodyPost_ret (v := .tuple #[.agg #[.int .i64 0, .int .i64 0, .int .i64 0], .int .i64 30]) (by simp [results, Tryd.results21, go_sem, r0, r1, r2]) rfl ⟨rfl, by first | exact B1 | exact ((B1.setCell (by simp) _).setCell (by simp) _).setCell (by simp) _⟩
theorem add_gen (y m d k s a b c e0 : Int) (h : dayB y m d = true) (hs : wrap64 (num y m d + k) = s) (hof : ∀ w, Calls Tryd.prog 19 #[.int .i64 s] w fun e w' => e = .returned (.tuple #[.agg #[.int .i64 a, .int .i64 b, .int .i64 c], .int .i64 e0]) ∧ Below w.heap.size w w') (w : World) :
    Calls Tryd.prog 21 #[.agg #[.int .i64 y, .int .i64 m, .int .i64 d], .int .i64 k] w fun e w' => e = .returned (.tuple #[.agg #[.int .i64 a, .int .i64 b, .int .i64 c], .int .i64 e0]) ∧ Below w.heap.size w w' := by
  have hc := number_yes y m d h
  clear h
  generalize num y m d = n at *
  have T0 := two_new w y m d 23 23
  have B0 := two_base w #[.int .i64 y, .int .i64 m, .int .i64 d] #[.int .i64 0, .int .i64 0, .int .i64 0] 23 23
  obtain ⟨⟨a0, a1, a2⟩, _⟩ := id T0
  go_enter Tryd.func21, Tryd.ntmps21
  go_wp2_with (fail)
  refine (hc _).mono ?_
  rintro e w1 ⟨rfl, hb⟩
  have T1 := T0.below hb
  have B1 := below_step B0 hb (by simp; omega)
  clear hb T0 B0
  go_wp2_with (fail)
  refine (hof _).mono ?_
  rintro e w2 ⟨rfl, hb⟩
  obtain ⟨⟨c0, c1, c2⟩, ⟨r0, r1, r2⟩, ⟨f0, f1, f2⟩, hz⟩ := T1.below hb
  have B2 := below_step B1 hb (by have := T1.2.2.2; omega)
  clear hb T1 B1
  go_wp2
  exact bodyPost_ret (v := .tuple #[.agg #[.int .i64 a, .int .i64 b, .int .i64 c], .int .i64 e0]) (by simp [results, Tryd.results21, go_sem, r0, r1, r2]) rfl ⟨rfl, ((B2.setCell (by simp) _).setCell (by simp) _).setCell (by simp) _⟩
theorem add_yes (y m d k : Int) (h : dayB y m d = true) (h0 : 0 ≤ num y m d + k) (h1 : num y m d + k < 109573) (w : World) :
    Calls Tryd.prog 21 #[.agg #[.int .i64 y, .int .i64 m, .int .i64 d], .int .i64 k] w fun e w' => e = .returned (.tuple #[.agg #[.int .i64 (yOf (num y m d + k)), .int .i64 (mOf (num y m d + k)), .int .i64 (dOf (num y m d + k))], .int .i64 0]) ∧ Below w.heap.size w w' :=
  add_gen y m d k (num y m d + k) _ _ _ 0 h (IntWalk.wrap64_in _ (by omega)) (of_yes _ h0 h1) w
theorem add_out (y m d k : Int) (h : dayB y m d = true) (hk : -9223372036854775808 ≤ k) (hk' : k ≤ 9223372036854775807) (h1 : num y m d + k < 0 ∨ 109573 ≤ num y m d + k) (w : World) :
    Calls Tryd.prog 21 #[.agg #[.int .i64 y, .int .i64 m, .int .i64 d], .int .i64 k] w fun e w' => e = .returned (.tuple #[.agg #[.int .i64 0, .int .i64 0, .int .i64 0], .int .i64 30]) ∧ Below w.heap.size w w' := by
  obtain ⟨_, _, n3, n4⟩ := num_bd h
  refine add_gen y m d k (wrap64 (num y m d + k)) 0 0 0 30 h rfl (of_no _ ?_) w
  by_cases hv : num y m d + k ≤ 9223372036854775807
  · rw [IntWalk.wrap64_in _ (by omega)]
    exact h1
  · left
    have : wrap64 (num y m d + k) = num y m d + k - 18446744073709551616 := by unfold wrap64; omega
    omega
end Go.Proofs.YtkgfmanolanlhaaDoor
