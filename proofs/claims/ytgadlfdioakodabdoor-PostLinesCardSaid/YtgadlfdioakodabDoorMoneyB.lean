/- What the calls of money answer that add, and Abs. -/
import Derived.Test.YtgadlfdioakodabDoorAmtC
import Derived.WalkLawsBesides
import Derived.WalkSmall
namespace Go.Proofs.YtgadlfdioakodabDoor
open Go.RowKit

theorem add_args (a b : Int) (w : World) (h : (amtB a && amtB b) = false) :
    Calls Tryd.prog 35 #[.int .i64 a, .int .i64 b] w fun e w' => e = .returned (.tuple #[.int .i64 0, .int .i64 10]) ∧ Below w.heap.size w w' := by
  have hc := right2 a b w 2 false h
  clear h
  go_enter Tryd.func35, Tryd.ntmps35
  go_wp2_with (go_at_call 33; refine hc.mono ?_; rintro e w' ⟨rfl, rfl⟩)
  go_ret2
  exact ⟨rfl, (Below.refl _ _).alloc (Nat.le_refl _) _⟩
theorem add_sum (a b : Int) (w : World) (h : (amtB a && amtB b) = true) (hs : amtB (a + b) = false) :
    Calls Tryd.prog 35 #[.int .i64 a, .int .i64 b] w fun e w' => e = .returned (.tuple #[.int .i64 0, .int .i64 10]) ∧ Below w.heap.size w w' := by
  have hc := right2 a b w 2 true h
  have hm := fun w => may_bad (a + b) w hs
  obtain ⟨ha, hb⟩ := Bool.and_eq_true_iff.1 h
  obtain ⟨a1, a2⟩ := amtB_yes ha
  obtain ⟨b1, b2⟩ := amtB_yes hb
  clear h hs ha hb
  go_enter Tryd.func35, Tryd.ntmps35
  go_wp2_with (first
    | (go_at_call 33; refine hc.mono ?_; rintro e w' ⟨rfl, rfl⟩)
    | (go_at_call 48; refine (hm _).mono ?_; rintro e w2 ⟨rfl, hb⟩))
  go_ret2
  exact ⟨rfl, ((Below.refl _ _).alloc (Nat.le_refl _) _).trans (hb.mono (by simp))⟩
theorem add_ok (a b : Int) (w : World) (h : (amtB a && amtB b) = true) (hs : amtB (a + b) = true) :
    Calls Tryd.prog 35 #[.int .i64 a, .int .i64 b] w fun e w' => e = .returned (.tuple #[.int .i64 (a + b), .int .i64 0]) ∧ Below w.heap.size w w' := by
  have hc := right2 a b w 2 true h
  have hm := fun w => may_ok (a + b) w hs
  obtain ⟨ha, hb⟩ := Bool.and_eq_true_iff.1 h
  obtain ⟨a1, a2⟩ := amtB_yes ha
  obtain ⟨b1, b2⟩ := amtB_yes hb
  clear h hs ha hb
  go_enter Tryd.func35, Tryd.ntmps35
  go_wp2_with (first
    | (go_at_call 33; refine hc.mono ?_; rintro e w' ⟨rfl, rfl⟩)
    | (go_at_call 48; refine (hm _).mono ?_; rintro e w2 ⟨rfl, hb⟩))
  go_ret2
  exact ⟨rfl, ((Below.refl _ _).alloc (Nat.le_refl _) _).trans (hb.mono (by simp))⟩
theorem add_bad (a b : Int) (w : World) (h : (amtB a && amtB b && amtB (a + b)) = false) :
    Calls Tryd.prog 35 #[.int .i64 a, .int .i64 b] w fun e w' => e = .returned (.tuple #[.int .i64 0, .int .i64 10]) ∧ Below w.heap.size w w' := by
  cases h2 : amtB a && amtB b
  · exact add_args a b w h2
  · exact add_sum a b w h2 (by rw [h2] at h; simpa using h)
end Go.Proofs.YtgadlfdioakodabDoor
