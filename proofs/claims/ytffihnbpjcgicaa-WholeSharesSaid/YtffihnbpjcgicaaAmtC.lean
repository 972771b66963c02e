/- What the calls of money and frac answer on which codes lean: Sub and Scale. -/
import Derived.Test.YtffihnbpjcgicaaFracE
import Derived.Test.YtffihnbpjcgicaaStp
import Derived.Test.YtffihnbpjcgicaaRight
import Derived.Test.YtffihnbpjcgicaaPlainB
import Derived.WalkLawsBesides
import Derived.WalkSmall
import Derived.Deep.QuietTactic
import Derived.BigQuiet
namespace Go.Proofs.Ytffihnbpjcgicaa
open Go.RowKit

theorem may_bad (x : Int) (w : World) (h : amtB x = false) :
    Calls Try.prog 31 #[.int .i64 x] w fun e w' => e = .returned (.tuple #[.int .i64 0, .int .i64 10]) ∧ Below w.heap.size w w' := by
  have hc := right1 x w 2 false h
  clear h
  go_enter Try.func31, Try.ntmps31
  go_wp2_with (go_at_call 30; refine hc.mono ?_; rintro e w' ⟨rfl, rfl⟩)
  go_ret2
  exact ⟨rfl, (Below.refl _ _).alloc (Nat.le_refl _) _⟩
theorem may_ok (x : Int) (w : World) (h : amtB x = true) :
    Calls Try.prog 31 #[.int .i64 x] w fun e w' => e = .returned (.tuple #[.int .i64 x, .int .i64 0]) ∧ Below w.heap.size w w' := by
  have hc := right1 x w 2 true h
  clear h
  go_enter Try.func31, Try.ntmps31
  go_wp2_with (go_at_call 30; refine hc.mono ?_; rintro e w' ⟨rfl, rfl⟩)
  go_ret2
  exact ⟨rfl, (Below.refl _ _).alloc (Nat.le_refl _) _⟩

theorem sub_args (a b : Int) (w : World) (h : (amtB a && amtB b) = false) :
    Calls Try.prog 47 #[.int .i64 a, .int .i64 b] w fun e w' => e = .returned (.tuple #[.int .i64 0, .int .i64 10]) ∧ Below w.heap.size w w' := by
  have hc := right2 a b w 2 false h
  clear h
  go_enter Try.func47, Try.ntmps47
  go_wp2_with (go_at_call 30; refine hc.mono ?_; rintro e w' ⟨rfl, rfl⟩)
  go_ret2
  exact ⟨rfl, (Below.refl _ _).alloc (Nat.le_refl _) _⟩
theorem sub_less (a b : Int) (w : World) (h : (amtB a && amtB b) = true) (hs : amtB (a - b) = false) :
    Calls Try.prog 47 #[.int .i64 a, .int .i64 b] w fun e w' => e = .returned (.tuple #[.int .i64 0, .int .i64 10]) ∧ Below w.heap.size w w' := by
  have hc := right2 a b w 2 true h
  have hm := fun w => may_bad (a - b) w hs
  obtain ⟨ha, hb⟩ := Bool.and_eq_true_iff.1 h
  obtain ⟨a1, a2⟩ := amtB_yes ha
  obtain ⟨b1, b2⟩ := amtB_yes hb
  clear h hs ha hb
  go_enter Try.func47, Try.ntmps47
  go_wp2_with (first
    | (go_at_call 30; refine hc.mono ?_; rintro e w' ⟨rfl, rfl⟩)
    | (go_at_call 31; refine (hm _).mono ?_; rintro e w2 ⟨rfl, hb⟩))
  go_ret2
  exact ⟨rfl, ((Below.refl _ _).alloc (Nat.le_refl _) _).trans (hb.mono (by simp))⟩
theorem sub_ok (a b : Int) (w : World) (h : (amtB a && amtB b) = true) (hs : amtB (a - b) = true) :
    Calls Try.prog 47 #[.int .i64 a, .int .i64 b] w fun e w' => e = .returned (.tuple #[.int .i64 (a - b), .int .i64 0]) ∧ Below w.heap.size w w' := by
  have hc := right2 a b w 2 true h
  have hm := fun w => may_ok (a - b) w hs
  obtain ⟨ha, hb⟩ := Bool.and_eq_true_iff.1 h
  obtain ⟨a1, a2⟩ := amtB_yes ha
  obtain ⟨b1, b2⟩ := amtB_yes hb
  clear h hs ha hb
  go_enter Try.func47, Try.ntmps47
  go_wp2_with (first
    | (go_at_call 30; refine hc.mono ?_; rintro e w' ⟨rfl, rfl⟩)
    | (go_at_call 31; refine (hm _).mono ?_; rintro e w2 ⟨rfl, hb⟩))
  go_ret2
  exact ⟨rfl, ((Below.refl _ _).alloc (Nat.le_refl _) _).trans (hb.mono (by simp))⟩

end Go.Proofs.Ytffihnbpjcgicaa
