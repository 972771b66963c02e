/- What the calls of money and frac answer on which codes lean: Sub and Scale. -/
import Derived.Test.YthknjpmhomjobaaGreatDoorFracE
import Derived.Test.YthknjpmhomjobaaGreatDoorStp
import Derived.Test.YthknjpmhomjobaaGreatDoorRight
import Derived.Test.YthknjpmhomjobaaGreatDoorPlainB
import Derived.WalkLawsBesides
import Derived.WalkSmall
import Derived.Deep.QuietTactic
import Derived.BigQuiet
namespace Go.Proofs.YthknjpmhomjobaaGreatDoor
open Go.RowKit

theorem may_badQ (x : Int) (w : World) (h : amtB x = false) :
    Calls Tryz.prog 50 #[.int .i64 x] w fun e w' => e = .returned (.tuple #[.int .i64 0, .int .i64 10]) ∧ Below w.heap.size w w' := by
  have hc := right1 x w 2 false h
  clear h
  go_enter Tryz.func50, Tryz.ntmps50
  go_wp2_with (go_at_call 26; refine hc.mono ?_; rintro e w' ⟨rfl, rfl⟩)
  go_ret2
  exact ⟨rfl, (Below.refl _ _).alloc (Nat.le_refl _) _⟩
theorem may_okQ (x : Int) (w : World) (h : amtB x = true) :
    Calls Tryz.prog 50 #[.int .i64 x] w fun e w' => e = .returned (.tuple #[.int .i64 x, .int .i64 0]) ∧ Below w.heap.size w w' := by
  have hc := right1 x w 2 true h
  clear h
  go_enter Tryz.func50, Tryz.ntmps50
  go_wp2_with (go_at_call 26; refine hc.mono ?_; rintro e w' ⟨rfl, rfl⟩)
  go_ret2
  exact ⟨rfl, (Below.refl _ _).alloc (Nat.le_refl _) _⟩

theorem sub_argsQ (a b : Int) (w : World) (h : (amtB a && amtB b) = false) :
    Calls Tryz.prog 38 #[.int .i64 a, .int .i64 b] w fun e w' => e = .returned (.tuple #[.int .i64 0, .int .i64 10]) ∧ Below w.heap.size w w' := by
  have hc := right2 a b w 2 false h
  clear h
  go_enter Tryz.func38, Tryz.ntmps38
  go_wp2_with (go_at_call 26; refine hc.mono ?_; rintro e w' ⟨rfl, rfl⟩)
  go_ret2
  exact ⟨rfl, (Below.refl _ _).alloc (Nat.le_refl _) _⟩
theorem sub_lessQ (a b : Int) (w : World) (h : (amtB a && amtB b) = true) (hs : amtB (a - b) = false) :
    Calls Tryz.prog 38 #[.int .i64 a, .int .i64 b] w fun e w' => e = .returned (.tuple #[.int .i64 0, .int .i64 10]) ∧ Below w.heap.size w w' := by
  have hc := right2 a b w 2 true h
  have hm := fun w => may_badQ (a - b) w hs
  obtain ⟨ha, hb⟩ := Bool.and_eq_true_iff.1 h
  obtain ⟨a1, a2⟩ := amtB_yes ha
  obtain ⟨b1, b2⟩ := amtB_yes hb
  clear h hs ha hb
  go_enter Tryz.func38, Tryz.ntmps38
  go_wp2_with (first
    | (go_at_call 26; refine hc.mono ?_; rintro e w' ⟨rfl, rfl⟩)
    | (go_at_call 50; refine (hm _).mono ?_; rintro e w2 ⟨rfl, hb⟩))
  go_ret2
  exact ⟨rfl, ((Below.refl _ _).alloc (Nat.le_refl _) _).trans (hb.mono (by simp))⟩
theorem sub_okQ (a b : Int) (w : World) (h : (amtB a && amtB b) = true) (hs : amtB (a - b) = true) :
    Calls Tryz.prog 38 #[.int .i64 a, .int .i64 b] w fun e w' => e = .returned (.tuple #[.int .i64 (a - b), .int .i64 0]) ∧ Below w.heap.size w w' := by
  have hc := right2 a b w 2 true h
  have hm := fun w => may_okQ (a - b) w hs
  obtain ⟨ha, hb⟩ := Bool.and_eq_true_iff.1 h
  obtain ⟨a1, a2⟩ := amtB_yes ha
  obtain ⟨b1, b2⟩ := amtB_yes hb
  clear h hs ha hb
  go_enter Tryz.func38, Tryz.ntmps38
  go_wp2_with (first
    | (go_at_call 26; refine hc.mono ?_; rintro e w' ⟨rfl, rfl⟩)
    | (go_at_call 50; refine (hm _).mono ?_; rintro e w2 ⟨rfl, hb⟩))
  go_ret2
  exact ⟨rfl, ((Below.refl _ _).alloc (Nat.le_refl _) _).trans (hb.mono (by simp))⟩

end Go.Proofs.YthknjpmhomjobaaGreatDoor
