/- What the calls of money answer that take one amount from another. -/
import Derived.Test.YtgekojbmlppmdaaFracE
import Derived.Test.YtgekojbmlppmdaaPlainB
import Derived.WalkLawsBesides
namespace Go.Proofs.Ytgekojbmlppmdaa
open Go.RowKit

theorem below_step {B : Nat} {a b c : World} (h : Below B a b) (h2 : Below b.heap.size b c) (hB : B ≤ b.heap.size) : Below B a c := h.trans (h2.mono hB)
theorem may_bad (x : Int) (w : World) (h : amtB x = false) :
    Calls Try.prog 20 #[.int .i64 x] w fun e w' => e = .returned (.tuple #[.int .i64 0, .int .i64 10]) ∧ Below w.heap.size w w' := by
  have hc := right1 x w 2 false h
  clear h
  go_enter Try.func20, Try.ntmps20
  go_wp2_with (go_at_call 17; refine hc.mono ?_; rintro e w' ⟨rfl, rfl⟩)
  go_ret2
  exact ⟨rfl, (Below.refl _ _).alloc (Nat.le_refl _) _⟩
theorem may_ok (x : Int) (w : World) (h : amtB x = true) :
    Calls Try.prog 20 #[.int .i64 x] w fun e w' => e = .returned (.tuple #[.int .i64 x, .int .i64 0]) ∧ Below w.heap.size w w' := by
  have hc := right1 x w 2 true h
  clear h
  go_enter Try.func20, Try.ntmps20
  go_wp2_with (go_at_call 17; refine hc.mono ?_; rintro e w' ⟨rfl, rfl⟩)
  go_ret2
  exact ⟨rfl, (Below.refl _ _).alloc (Nat.le_refl _) _⟩

theorem sub_args (a b : Int) (w : World) (h : (amtB a && amtB b) = false) :
    Calls Try.prog 18 #[.int .i64 a, .int .i64 b] w fun e w' => e = .returned (.tuple #[.int .i64 0, .int .i64 10]) ∧ Below w.heap.size w w' := by
  have hc := right2 a b w 2 false h
  clear h
  go_enter Try.func18, Try.ntmps18
  go_wp2_with (go_at_call 17; refine hc.mono ?_; rintro e w' ⟨rfl, rfl⟩)
  go_ret2
  exact ⟨rfl, (Below.refl _ _).alloc (Nat.le_refl _) _⟩
theorem sub_less (a b : Int) (w : World) (h : (amtB a && amtB b) = true) (hs : amtB (a - b) = false) :
    Calls Try.prog 18 #[.int .i64 a, .int .i64 b] w fun e w' => e = .returned (.tuple #[.int .i64 0, .int .i64 10]) ∧ Below w.heap.size w w' := by
  have hc := right2 a b w 2 true h
  have hm := fun w => may_bad (a - b) w hs
  obtain ⟨ha, hb⟩ := Bool.and_eq_true_iff.1 h
  obtain ⟨a1, a2⟩ := amtB_yes ha
  obtain ⟨b1, b2⟩ := amtB_yes hb
  clear h hs ha hb
  go_enter Try.func18, Try.ntmps18
  go_wp2_with (first
    | (go_at_call 17; refine hc.mono ?_; rintro e w' ⟨rfl, rfl⟩)
    | (go_at_call 20; refine (hm _).mono ?_; rintro e w2 ⟨rfl, hb⟩))
  go_ret2
  exact ⟨rfl, ((Below.refl _ _).alloc (Nat.le_refl _) _).trans (hb.mono (by simp))⟩
theorem sub_ok (a b : Int) (w : World) (h : (amtB a && amtB b) = true) (hs : amtB (a - b) = true) :
    Calls Try.prog 18 #[.int .i64 a, .int .i64 b] w fun e w' => e = .returned (.tuple #[.int .i64 (a - b), .int .i64 0]) ∧ Below w.heap.size w w' := by
  have hc := right2 a b w 2 true h
  have hm := fun w => may_ok (a - b) w hs
  obtain ⟨ha, hb⟩ := Bool.and_eq_true_iff.1 h
  obtain ⟨a1, a2⟩ := amtB_yes ha
  obtain ⟨b1, b2⟩ := amtB_yes hb
  clear h hs ha hb
  go_enter Try.func18, Try.ntmps18
  go_wp2_with (first
    | (go_at_call 17; refine hc.mono ?_; rintro e w' ⟨rfl, rfl⟩)
    | (go_at_call 20; refine (hm _).mono ?_; rintro e w2 ⟨rfl, hb⟩))
  go_ret2
  exact ⟨rfl, ((Below.refl _ _).alloc (Nat.le_refl _) _).trans (hb.mono (by simp))⟩

end Go.Proofs.Ytgekojbmlppmdaa
