/- What the calls of hold answer: Limit, Part, Due, Step. -/
import Derived.Test.YtffihnbpjcgicaaDoorAmtC
import Derived.Test.YtffihnbpjcgicaaDoorHld
import Derived.Lib.QuietBelow
import Derived.BigQuiet
namespace Go.Proofs.YtffihnbpjcgicaaDoor.Hd
open Go.RowKit
set_option linter.unusedVariables false
set_option linter.unusedSimpArgs false

theorem below_new (w : World) (o : Obj) : Below w.heap.size w (w.alloc o) := (Below.refl _ _).alloc (Nat.le_refl _) _
theorem take_ok (x r m : Int) (w : World) (h : amtB x = true) (hr : rateB r = true) (hm : modeB m = true) :
    Calls Tryd.prog 69 #[.int .i64 x, .int .i64 r, .int .i64 m] w fun e w' => e = .returned (.tuple #[.int .i64 (rnd (x * r) 10000 m), .int .i64 0]) ∧ Below w.heap.size w w' := by
  have h1 := fun w => part_ok x r w h hr
  have h2 := fun w => coins_ok (x * r) m w (ex_of_part h hr) hm
  clear h hr hm
  generalize x * r = y at *
  go_enter Tryd.func69, Tryd.ntmps69
  go_wp2_with (fail)
  refine (h1 _).mono ?_
  rintro e w1 ⟨rfl, hb⟩
  go_wp2_with (fail)
  refine (h2 _).mono ?_
  rintro e w2 ⟨rfl, k, rfl⟩
  go_wp2
  go_ret2
  exact ⟨rfl, below_drewN hb _⟩
theorem take_bad (x r m : Int) (w : World) (E : Int) (hE : (E != 0) = true) (h : ∀ w, Calls Tryd.prog 97 #[.int .i64 x, .int .i64 r] w fun e w' => e = .returned (.tuple #[.int .i64 0, .int .i64 E]) ∧ Below w.heap.size w w') :
    Calls Tryd.prog 69 #[.int .i64 x, .int .i64 r, .int .i64 m] w fun e w' => e = .returned (.tuple #[.int .i64 0, .int .i64 E]) ∧ Below w.heap.size w w' := by
  go_enter Tryd.func69, Tryd.ntmps69
  go_wp2_with (fail)
  refine (h _).mono ?_
  rintro e w1 ⟨rfl, hb⟩
  go_wp2
  go_ret2
  exact ⟨rfl, hb⟩
section
variable (a1 a2 a3 : Option Addr) (n1 n2 n3 c1 c2 c3 : Nat)
theorem limit_with (L R c p q : Int) (w : World) (h : ∀ w, Calls Tryd.prog 69 #[.int .i64 (max c 0), .int .i64 L, .int .i64 1] w fun e w' => e = .returned (.tuple #[.int .i64 p, .int .i64 q]) ∧ Below w.heap.size w w') :
    Calls Tryd.prog 28 #[.agg #[.slice a1 n1 c1, .slice a2 n2 c2, .slice a3 n3 c3, .int .i64 L, .int .i64 R], .int .i64 c] w fun e w' => e = .returned (.tuple #[.int .i64 p, .int .i64 q]) ∧ Below w.heap.size w w' := by
  have B0 := below_new w (.cells #[.slice a1 n1 c1, .slice a2 n2 c2, .slice a3 n3 c3, .int .i64 L, .int .i64 R] 71)
  by_cases hc : 0 ≤ c
  · have hc2 : ¬ c < 0 := by omega
    rw [show max c 0 = c by omega] at h
    go_enter Tryd.func28, Tryd.ntmps28
    go_wp2_with (fail)
    refine (h _).mono ?_
    rintro e w1 ⟨rfl, hb⟩
    go_wp2
    go_ret2
    exact ⟨rfl, below_step B0 hb B0.size⟩
  · rw [show max c 0 = 0 by omega] at h
    have hc' : c < 0 := by omega
    clear hc
    go_enter Tryd.func28, Tryd.ntmps28
    go_wp2_with (fail)
    refine (h _).mono ?_
    rintro e w1 ⟨rfl, hb⟩
    go_wp2
    go_ret2
    exact ⟨rfl, below_step B0 hb B0.size⟩
theorem limit_ok (L R c : Int) (w : World) (hc : c ≤ 100000000000) (hr : rateB L = true) :
    Calls Tryd.prog 28 #[.agg #[.slice a1 n1 c1, .slice a2 n2 c2, .slice a3 n3 c3, .int .i64 L, .int .i64 R], .int .i64 c] w fun e w' => e = .returned (.tuple #[.int .i64 (limV L c), .int .i64 0]) ∧ Below w.heap.size w w' := by
  refine limit_with a1 a2 a3 n1 n2 n3 c1 c2 c3 L R c _ _ w fun w => ?_
  have := take_ok (max c 0) L 1 w (amtB_mk (by omega) (by omega)) hr (modeB_mk (by omega) (by omega))
  rw [rnd_down] at this
  exact this
theorem limit_amt (L R c : Int) (w : World) (hc : 100000000000 < c) :
    Calls Tryd.prog 28 #[.agg #[.slice a1 n1 c1, .slice a2 n2 c2, .slice a3 n3 c3, .int .i64 L, .int .i64 R], .int .i64 c] w fun e w' => e = .returned (.tuple #[.int .i64 0, .int .i64 10]) ∧ Below w.heap.size w w' :=
  limit_with a1 a2 a3 n1 n2 n3 c1 c2 c3 L R c _ _ w fun w => take_bad _ _ _ w 10 rfl fun w => part_amt _ _ w (amtB_mk_no (by omega))
theorem limit_rate (L R c : Int) (w : World) (hc : c ≤ 100000000000) (hr : rateB L = false) :
    Calls Tryd.prog 28 #[.agg #[.slice a1 n1 c1, .slice a2 n2 c2, .slice a3 n3 c3, .int .i64 L, .int .i64 R], .int .i64 c] w fun e w' => e = .returned (.tuple #[.int .i64 0, .int .i64 50]) ∧ Below w.heap.size w w' :=
  limit_with a1 a2 a3 n1 n2 n3 c1 c2 c3 L R c _ _ w fun w => take_bad _ _ _ w 50 rfl fun w => part_rate _ _ w (amtB_mk (by omega) (by omega)) hr
end
theorem part_hold (x l : Int) (b : Bool) (w : World) :
    Calls Tryd.prog 111 #[.int .i64 x, .int .i64 l, .bool b] w fun e w' => e = .returned (.int .i64 (partV x l b)) ∧ w = w' := by
  by_cases hm : x ≤ l
  · by_cases h0 : x < 0
    · cases b
      · have hp : partV x l false = 0 := by unfold partV; rw [show min x l = x by omega]; simp [h0]
        rw [hp]
        clear hp
        go_enter Tryd.func111, Tryd.ntmps111
        go_wp2
        go_ret
        exact ⟨rfl, rfl⟩
      · have hp : partV x l true = x := by unfold partV; rw [show min x l = x by omega]; simp [h0]
        rw [hp]
        clear hp
        go_enter Tryd.func111, Tryd.ntmps111
        go_wp2
        go_ret
        exact ⟨rfl, rfl⟩
    · have hp : partV x l b = x := by unfold partV; rw [show min x l = x by omega]; simp [h0]
      rw [hp]
      clear hp
      go_enter Tryd.func111, Tryd.ntmps111
      go_wp2
      go_ret
      exact ⟨rfl, rfl⟩
  have hm2 : l < x := by omega
  clear hm
  by_cases h0 : l < 0
  · cases b
    · have hp : partV x l false = 0 := by unfold partV; rw [show min x l = l by omega]; simp [h0]
      rw [hp]
      clear hp
      go_enter Tryd.func111, Tryd.ntmps111
      go_wp2
      go_ret
      exact ⟨rfl, rfl⟩
    · have hp : partV x l true = l := by unfold partV; rw [show min x l = l by omega]; simp [h0]
      rw [hp]
      clear hp
      go_enter Tryd.func111, Tryd.ntmps111
      go_wp2
      go_ret
      exact ⟨rfl, rfl⟩
  · have hp : partV x l b = l := by unfold partV; rw [show min x l = l by omega]; simp [h0]
    rw [hp]
    clear hp
    go_enter Tryd.func111, Tryd.ntmps111
    go_wp2
    go_ret
    exact ⟨rfl, rfl⟩
theorem due_any (W S : Int) (w : World) (h : -9223372036854775808 ≤ W + S) (h2 : W + S ≤ 9223372036854775807) :
    Calls Tryd.prog 35 #[.agg #[.int .i64 W, .int .i64 S]] w fun e w' => e = .returned (.int .i64 (W + S)) ∧ Below w.heap.size w w' := by
  have B0 := below_new w (.cells #[.int .i64 W, .int .i64 S] 93)
  go_enter Tryd.func35, Tryd.ntmps35
  go_wp2
  go_ret
  exact ⟨rfl, B0⟩
end Go.Proofs.YtffihnbpjcgicaaDoor.Hd
