/- What an amount's spreading calls: the comparing of rests, the weights' sum, the order of the neediest. -/
import Derived.Test.YtjjeohnejhhacaaDoorMoneyA
import Derived.Test.YtjjeohnejhhacaaDoorShelf
import Derived.Deep.QuietTactic
import Derived.BigQuiet
namespace Go.Proofs.YtjjeohnejhhacaaDoor
open Go.RowKit Go.Sort
set_option linter.unusedVariables false

theorem isnan_any (a : Int) (w : World) : Calls Tryd.prog 66 #[.int .i64 a] w fun e w' => e = .returned (.bool false) ∧ w = w' := by
  go_enter Tryd.func66, Tryd.ntmps66
  go_wp2
  go_ret
  exact ⟨ret_b (by simp), rfl⟩
theorem compare_any (a b : Int) (w : World) : Calls Tryd.prog 56 #[.int .i64 a, .int .i64 b] w fun e w' => e = .returned (.int .i64 (cmpI a b)) ∧ w = w' := by
  rcases cmpI_cases a b with ⟨h, e⟩ | ⟨h, e⟩ | ⟨h, e⟩
  · rw [e]
    clear e
    go_enter Tryd.func56, Tryd.ntmps56
    go_wp2_with (go_at_call 66; refine (isnan_any _ _).mono ?_; rintro e w' ⟨rfl, rfl⟩)
    go_ret
    exact ⟨rfl, rfl⟩
  · rw [e]
    subst h
    clear e
    go_enter Tryd.func56, Tryd.ntmps56
    go_wp2_with (go_at_call 66; refine (isnan_any _ _).mono ?_; rintro e w' ⟨rfl, rfl⟩)
    go_ret
    exact ⟨rfl, rfl⟩
  · rw [e]
    clear e
    have h2 : ¬ a < b := by omega
    go_enter Tryd.func56, Tryd.ntmps56
    go_wp2_with (go_at_call 66; refine (isnan_any _ _).mono ?_; rintro e w' ⟨rfl, rfl⟩)
    go_ret
    exact ⟨rfl, rfl⟩
theorem compare_same (a b : Int) (w : World) : Calls Tryd.prog 56 #[.int .i64 a, .int .i64 b] w fun e w' => e = .returned (.int .i64 (cmpI a b)) ∧ w' = w :=
  (compare_any a b w).mono fun _ _ h => ⟨h.1, h.2.symm⟩
/-- which of two rests is the greater one: read behind the box that holds them -/
theorem needier (Bw R o n c : Nat) (f : Nat → Int) (i j : Nat) (w : World) (hB : w.cell? ⟨Bw, 0, none⟩ = some (.slice (some ⟨R, o, none⟩) n c)) (hi : i < n) (hj : j < n) (hn : n ≤ 4611686018427387904)
    (hI : w.cell? ⟨R, o + i, none⟩ = some (.int .i64 (f i))) (hJ : w.cell? ⟨R, o + j, none⟩ = some (.int .i64 (f j))) :
    Calls Tryd.prog 55 #[.int .i64 i, .int .i64 j, .pointer (some ⟨Bw, 0, none⟩)] w fun e w' => e = .returned (.int .i64 (cmpI (f j) (f i))) ∧ ∃ q, w' = w.drewN q := by
  go_enter Tryd.func55, Tryd.ntmps55
  go_wp2
  go_quiet ((go_at_call 56; refine Calls.quiet_of_same (compare_same _ _ _)))
  go_wp2
  go_ret
  exact ⟨rfl, _, rfl⟩
end Go.Proofs.YtjjeohnejhhacaaDoor
