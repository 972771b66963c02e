/- An amount to a multiple of another one, and in parts of another one: what money.Quantum and money.Parts answer. -/
import Derived.Test.YtjjeohnejhhacaaDoorCounts
import Derived.Laws.AppendOwn
import Derived.OwnWalk
namespace Go.Proofs.YtjjeohnejhhacaaDoor
open Go.RowKit
set_option linter.unusedVariables false
set_option linter.unusedSimpArgs false

set_option maxHeartbeats 1000000 in
theorem qu_bad (x u : Int) (up : Bool) (w : World) (h : (amtB x && amtB u) = false) :
    Calls Tryd.prog 30 #[.int .i64 x, .int .i64 u, .bool up] w fun e w' => e = .returned (.tuple #[.int .i64 0, .int .i64 10]) ∧ Below w.heap.size w w' := by
  have ri := fun w => right2 x u w 2 false h
  clear h
  go_enter Tryd.func30, Tryd.ntmps30
  go_wp2_with (fail)
  refine (ri _).mono ?_
  rintro e w' ⟨rfl, rfl⟩
  go_wp2
  go_ret2
  exact ⟨rfl, (Below.refl _ _).alloc (Nat.le_refl _) _⟩

set_option maxHeartbeats 1000000 in
theorem qu_range (x u : Int) (up : Bool) (w : World) (h : (amtB x && amtB u) = true) (hu : u ≤ 0) :
    Calls Tryd.prog 30 #[.int .i64 x, .int .i64 u, .bool up] w fun e w' => e = .returned (.tuple #[.int .i64 0, .int .i64 1]) ∧ Below w.heap.size w w' := by
  have ri := fun w => right2 x u w 2 true h
  clear h
  go_enter Tryd.func30, Tryd.ntmps30
  go_wp2_with (fail)
  refine (ri _).mono ?_
  rintro e w' ⟨rfl, rfl⟩
  go_wp2
  go_ret2
  exact ⟨rfl, (Below.refl _ _).alloc (Nat.le_refl _) _⟩

set_option maxHeartbeats 1000000 in
theorem qu_pz_true_true (x u Q : Int) (w : World) (h : (amtB x && amtB u) = true) (hu : 1 ≤ u) (hx : 0 ≤ x) (hr : x % u = 0) (hb1 : 0 ≤ x % u) (hb2 : x % u < u) (hQ : Q = x) (hm : amtB Q = true) :
    Calls Tryd.prog 30 #[.int .i64 x, .int .i64 u, .bool true] w fun e w' => e = .returned (.tuple #[.int .i64 Q, .int .i64 0]) ∧ Below w.heap.size w w' := by
  have ri := fun w => right2 x u w 2 true h
  obtain ⟨ha, hb⟩ := Bool.and_eq_true_iff.1 h
  obtain ⟨x1, x2⟩ := amtB_yes ha
  obtain ⟨u1, u2⟩ := amtB_yes hb
  have key : ∀ z : Int, z = x → amtB z = true := fun z e => by rw [e, ← hQ]; exact hm
  have KEY := Lib.hid key
  have HQ := Lib.hid hQ
  clear h ha hb key hQ hm
  clear hb1 hb2
  go_enter Tryd.func30, Tryd.ntmps30
  go_wp2_with (fail)
  refine (ri _).mono ?_
  rintro e w' ⟨rfl, rfl⟩
  go_wp2_with (fail)
  refine (may_ok _ _ (KEY.out _ ?_)).mono ?_
  · first | rfl | omega
  rintro e w2 ⟨rfl, b2⟩
  go_wp2
  go_ret2
  exact ⟨ret_ii (by have := HQ.out; omega) rfl, below_step ((Below.refl _ _).alloc (Nat.le_refl _) _) b2 (by simp)⟩

set_option maxHeartbeats 1000000 in
theorem qu_pz_true_false (x u Q : Int) (w : World) (h : (amtB x && amtB u) = true) (hu : 1 ≤ u) (hx : 0 ≤ x) (hr : x % u = 0) (hb1 : 0 ≤ x % u) (hb2 : x % u < u) (hQ : Q = x) (hm : amtB Q = false) :
    Calls Tryd.prog 30 #[.int .i64 x, .int .i64 u, .bool true] w fun e w' => e = .returned (.tuple #[.int .i64 0, .int .i64 10]) ∧ Below w.heap.size w w' := by
  have ri := fun w => right2 x u w 2 true h
  obtain ⟨ha, hb⟩ := Bool.and_eq_true_iff.1 h
  obtain ⟨x1, x2⟩ := amtB_yes ha
  obtain ⟨u1, u2⟩ := amtB_yes hb
  have key : ∀ z : Int, z = x → amtB z = false := fun z e => by rw [e, ← hQ]; exact hm
  have KEY := Lib.hid key
  have HQ := Lib.hid hQ
  clear h ha hb key hQ hm
  clear hb1 hb2
  go_enter Tryd.func30, Tryd.ntmps30
  go_wp2_with (fail)
  refine (ri _).mono ?_
  rintro e w' ⟨rfl, rfl⟩
  go_wp2_with (fail)
  refine (may_bad _ _ (KEY.out _ ?_)).mono ?_
  · first | rfl | omega
  rintro e w2 ⟨rfl, b2⟩
  go_wp2
  go_ret2
  exact ⟨rfl, below_step ((Below.refl _ _).alloc (Nat.le_refl _) _) b2 (by simp)⟩

set_option maxHeartbeats 1000000 in
theorem qu_pz_false_true (x u Q : Int) (w : World) (h : (amtB x && amtB u) = true) (hu : 1 ≤ u) (hx : 0 ≤ x) (hr : x % u = 0) (hb1 : 0 ≤ x % u) (hb2 : x % u < u) (hQ : Q = x) (hm : amtB Q = true) :
    Calls Tryd.prog 30 #[.int .i64 x, .int .i64 u, .bool false] w fun e w' => e = .returned (.tuple #[.int .i64 Q, .int .i64 0]) ∧ Below w.heap.size w w' := by
  have ri := fun w => right2 x u w 2 true h
  obtain ⟨ha, hb⟩ := Bool.and_eq_true_iff.1 h
  obtain ⟨x1, x2⟩ := amtB_yes ha
  obtain ⟨u1, u2⟩ := amtB_yes hb
  have key : ∀ z : Int, z = x → amtB z = true := fun z e => by rw [e, ← hQ]; exact hm
  have KEY := Lib.hid key
  have HQ := Lib.hid hQ
  clear h ha hb key hQ hm
  clear hb1 hb2
  go_enter Tryd.func30, Tryd.ntmps30
  go_wp2_with (fail)
  refine (ri _).mono ?_
  rintro e w' ⟨rfl, rfl⟩
  go_wp2_with (fail)
  refine (may_ok _ _ (KEY.out _ ?_)).mono ?_
  · first | rfl | omega
  rintro e w2 ⟨rfl, b2⟩
  go_wp2
  go_ret2
  exact ⟨ret_ii (by have := HQ.out; omega) rfl, below_step ((Below.refl _ _).alloc (Nat.le_refl _) _) b2 (by simp)⟩

set_option maxHeartbeats 1000000 in
theorem qu_pz_false_false (x u Q : Int) (w : World) (h : (amtB x && amtB u) = true) (hu : 1 ≤ u) (hx : 0 ≤ x) (hr : x % u = 0) (hb1 : 0 ≤ x % u) (hb2 : x % u < u) (hQ : Q = x) (hm : amtB Q = false) :
    Calls Tryd.prog 30 #[.int .i64 x, .int .i64 u, .bool false] w fun e w' => e = .returned (.tuple #[.int .i64 0, .int .i64 10]) ∧ Below w.heap.size w w' := by
  have ri := fun w => right2 x u w 2 true h
  obtain ⟨ha, hb⟩ := Bool.and_eq_true_iff.1 h
  obtain ⟨x1, x2⟩ := amtB_yes ha
  obtain ⟨u1, u2⟩ := amtB_yes hb
  have key : ∀ z : Int, z = x → amtB z = false := fun z e => by rw [e, ← hQ]; exact hm
  have KEY := Lib.hid key
  have HQ := Lib.hid hQ
  clear h ha hb key hQ hm
  clear hb1 hb2
  go_enter Tryd.func30, Tryd.ntmps30
  go_wp2_with (fail)
  refine (ri _).mono ?_
  rintro e w' ⟨rfl, rfl⟩
  go_wp2_with (fail)
  refine (may_bad _ _ (KEY.out _ ?_)).mono ?_
  · first | rfl | omega
  rintro e w2 ⟨rfl, b2⟩
  go_wp2
  go_ret2
  exact ⟨rfl, below_step ((Below.refl _ _).alloc (Nat.le_refl _) _) b2 (by simp)⟩

set_option maxHeartbeats 1000000 in
theorem qu_pn_true_true (x u Q : Int) (w : World) (h : (amtB x && amtB u) = true) (hu : 1 ≤ u) (hx : 0 ≤ x) (hr : 0 < x % u) (hb1 : 0 ≤ x % u) (hb2 : x % u < u) (hQ : Q = x - (x % u - u)) (hm : amtB Q = true) :
    Calls Tryd.prog 30 #[.int .i64 x, .int .i64 u, .bool true] w fun e w' => e = .returned (.tuple #[.int .i64 Q, .int .i64 0]) ∧ Below w.heap.size w w' := by
  have ri := fun w => right2 x u w 2 true h
  obtain ⟨ha, hb⟩ := Bool.and_eq_true_iff.1 h
  obtain ⟨x1, x2⟩ := amtB_yes ha
  obtain ⟨u1, u2⟩ := amtB_yes hb
  have key : ∀ z : Int, z = x - (x % u - u) → amtB z = true := fun z e => by rw [e, ← hQ]; exact hm
  have KEY := Lib.hid key
  have HQ := Lib.hid hQ
  clear h ha hb key hQ hm
  go_enter Tryd.func30, Tryd.ntmps30
  go_wp2_with (fail)
  refine (ri _).mono ?_
  rintro e w' ⟨rfl, rfl⟩
  go_wp2_with (fail)
  refine (may_ok _ _ (KEY.out _ ?_)).mono ?_
  · first | rfl | omega
  rintro e w2 ⟨rfl, b2⟩
  go_wp2
  go_ret2
  exact ⟨ret_ii (by have := HQ.out; omega) rfl, below_step ((Below.refl _ _).alloc (Nat.le_refl _) _) b2 (by simp)⟩

set_option maxHeartbeats 1000000 in
theorem qu_pn_true_false (x u Q : Int) (w : World) (h : (amtB x && amtB u) = true) (hu : 1 ≤ u) (hx : 0 ≤ x) (hr : 0 < x % u) (hb1 : 0 ≤ x % u) (hb2 : x % u < u) (hQ : Q = x - (x % u - u)) (hm : amtB Q = false) :
    Calls Tryd.prog 30 #[.int .i64 x, .int .i64 u, .bool true] w fun e w' => e = .returned (.tuple #[.int .i64 0, .int .i64 10]) ∧ Below w.heap.size w w' := by
  have ri := fun w => right2 x u w 2 true h
  obtain ⟨ha, hb⟩ := Bool.and_eq_true_iff.1 h
  obtain ⟨x1, x2⟩ := amtB_yes ha
  obtain ⟨u1, u2⟩ := amtB_yes hb
  have key : ∀ z : Int, z = x - (x % u - u) → amtB z = false := fun z e => by rw [e, ← hQ]; exact hm
  have KEY := Lib.hid key
  have HQ := Lib.hid hQ
  clear h ha hb key hQ hm
  go_enter Tryd.func30, Tryd.ntmps30
  go_wp2_with (fail)
  refine (ri _).mono ?_
  rintro e w' ⟨rfl, rfl⟩
  go_wp2_with (fail)
  refine (may_bad _ _ (KEY.out _ ?_)).mono ?_
  · first | rfl | omega
  rintro e w2 ⟨rfl, b2⟩
  go_wp2
  go_ret2
  exact ⟨rfl, below_step ((Below.refl _ _).alloc (Nat.le_refl _) _) b2 (by simp)⟩

set_option maxHeartbeats 1000000 in
theorem qu_pn_false_true (x u Q : Int) (w : World) (h : (amtB x && amtB u) = true) (hu : 1 ≤ u) (hx : 0 ≤ x) (hr : 0 < x % u) (hb1 : 0 ≤ x % u) (hb2 : x % u < u) (hQ : Q = x - x % u) (hm : amtB Q = true) :
    Calls Tryd.prog 30 #[.int .i64 x, .int .i64 u, .bool false] w fun e w' => e = .returned (.tuple #[.int .i64 Q, .int .i64 0]) ∧ Below w.heap.size w w' := by
  have ri := fun w => right2 x u w 2 true h
  obtain ⟨ha, hb⟩ := Bool.and_eq_true_iff.1 h
  obtain ⟨x1, x2⟩ := amtB_yes ha
  obtain ⟨u1, u2⟩ := amtB_yes hb
  have key : ∀ z : Int, z = x - x % u → amtB z = true := fun z e => by rw [e, ← hQ]; exact hm
  have KEY := Lib.hid key
  have HQ := Lib.hid hQ
  clear h ha hb key hQ hm
  go_enter Tryd.func30, Tryd.ntmps30
  go_wp2_with (fail)
  refine (ri _).mono ?_
  rintro e w' ⟨rfl, rfl⟩
  go_wp2_with (fail)
  refine (may_ok _ _ (KEY.out _ ?_)).mono ?_
  · first | rfl | omega
  rintro e w2 ⟨rfl, b2⟩
  go_wp2
  go_ret2
  exact ⟨ret_ii (by have := HQ.out; omega) rfl, below_step ((Below.refl _ _).alloc (Nat.le_refl _) _) b2 (by simp)⟩

set_option maxHeartbeats 1000000 in
theorem qu_pn_false_false (x u Q : Int) (w : World) (h : (amtB x && amtB u) = true) (hu : 1 ≤ u) (hx : 0 ≤ x) (hr : 0 < x % u) (hb1 : 0 ≤ x % u) (hb2 : x % u < u) (hQ : Q = x - x % u) (hm : amtB Q = false) :
    Calls Tryd.prog 30 #[.int .i64 x, .int .i64 u, .bool false] w fun e w' => e = .returned (.tuple #[.int .i64 0, .int .i64 10]) ∧ Below w.heap.size w w' := by
  have ri := fun w => right2 x u w 2 true h
  obtain ⟨ha, hb⟩ := Bool.and_eq_true_iff.1 h
  obtain ⟨x1, x2⟩ := amtB_yes ha
  obtain ⟨u1, u2⟩ := amtB_yes hb
  have key : ∀ z : Int, z = x - x % u → amtB z = false := fun z e => by rw [e, ← hQ]; exact hm
  have KEY := Lib.hid key
  have HQ := Lib.hid hQ
  clear h ha hb key hQ hm
  go_enter Tryd.func30, Tryd.ntmps30
  go_wp2_with (fail)
  refine (ri _).mono ?_
  rintro e w' ⟨rfl, rfl⟩
  go_wp2_with (fail)
  refine (may_bad _ _ (KEY.out _ ?_)).mono ?_
  · first | rfl | omega
  rintro e w2 ⟨rfl, b2⟩
  go_wp2
  go_ret2
  exact ⟨rfl, below_step ((Below.refl _ _).alloc (Nat.le_refl _) _) b2 (by simp)⟩

set_option maxHeartbeats 1000000 in
theorem qu_mz_true_true (x u Q : Int) (w : World) (h : (amtB x && amtB u) = true) (hu : 1 ≤ u) (hx : x < 0) (hr : x.tmod u = 0) (hb1 : -u < x.tmod u) (hb2 : x.tmod u ≤ 0) (hQ : Q = x) (hm : amtB Q = true) :
    Calls Tryd.prog 30 #[.int .i64 x, .int .i64 u, .bool true] w fun e w' => e = .returned (.tuple #[.int .i64 Q, .int .i64 0]) ∧ Below w.heap.size w w' := by
  have ri := fun w => right2 x u w 2 true h
  obtain ⟨ha, hb⟩ := Bool.and_eq_true_iff.1 h
  obtain ⟨x1, x2⟩ := amtB_yes ha
  obtain ⟨u1, u2⟩ := amtB_yes hb
  have key : ∀ z : Int, z = x → amtB z = true := fun z e => by rw [e, ← hQ]; exact hm
  have KEY := Lib.hid key
  have HQ := Lib.hid hQ
  clear h ha hb key hQ hm
  clear hb1 hb2
  go_enter Tryd.func30, Tryd.ntmps30
  go_wp2_with (fail)
  refine (ri _).mono ?_
  rintro e w' ⟨rfl, rfl⟩
  go_wp2_with (fail)
  refine (may_ok _ _ (KEY.out _ ?_)).mono ?_
  · first | rfl | omega
  rintro e w2 ⟨rfl, b2⟩
  go_wp2
  go_ret2
  exact ⟨ret_ii (by have := HQ.out; omega) rfl, below_step ((Below.refl _ _).alloc (Nat.le_refl _) _) b2 (by simp)⟩

set_option maxHeartbeats 1000000 in
theorem qu_mz_true_false (x u Q : Int) (w : World) (h : (amtB x && amtB u) = true) (hu : 1 ≤ u) (hx : x < 0) (hr : x.tmod u = 0) (hb1 : -u < x.tmod u) (hb2 : x.tmod u ≤ 0) (hQ : Q = x) (hm : amtB Q = false) :
    Calls Tryd.prog 30 #[.int .i64 x, .int .i64 u, .bool true] w fun e w' => e = .returned (.tuple #[.int .i64 0, .int .i64 10]) ∧ Below w.heap.size w w' := by
  have ri := fun w => right2 x u w 2 true h
  obtain ⟨ha, hb⟩ := Bool.and_eq_true_iff.1 h
  obtain ⟨x1, x2⟩ := amtB_yes ha
  obtain ⟨u1, u2⟩ := amtB_yes hb
  have key : ∀ z : Int, z = x → amtB z = false := fun z e => by rw [e, ← hQ]; exact hm
  have KEY := Lib.hid key
  have HQ := Lib.hid hQ
  clear h ha hb key hQ hm
  clear hb1 hb2
  go_enter Tryd.func30, Tryd.ntmps30
  go_wp2_with (fail)
  refine (ri _).mono ?_
  rintro e w' ⟨rfl, rfl⟩
  go_wp2_with (fail)
  refine (may_bad _ _ (KEY.out _ ?_)).mono ?_
  · first | rfl | omega
  rintro e w2 ⟨rfl, b2⟩
  go_wp2
  go_ret2
  exact ⟨rfl, below_step ((Below.refl _ _).alloc (Nat.le_refl _) _) b2 (by simp)⟩

set_option maxHeartbeats 1000000 in
theorem qu_mz_false_true (x u Q : Int) (w : World) (h : (amtB x && amtB u) = true) (hu : 1 ≤ u) (hx : x < 0) (hr : x.tmod u = 0) (hb1 : -u < x.tmod u) (hb2 : x.tmod u ≤ 0) (hQ : Q = x) (hm : amtB Q = true) :
    Calls Tryd.prog 30 #[.int .i64 x, .int .i64 u, .bool false] w fun e w' => e = .returned (.tuple #[.int .i64 Q, .int .i64 0]) ∧ Below w.heap.size w w' := by
  have ri := fun w => right2 x u w 2 true h
  obtain ⟨ha, hb⟩ := Bool.and_eq_true_iff.1 h
  obtain ⟨x1, x2⟩ := amtB_yes ha
  obtain ⟨u1, u2⟩ := amtB_yes hb
  have key : ∀ z : Int, z = x → amtB z = true := fun z e => by rw [e, ← hQ]; exact hm
  have KEY := Lib.hid key
  have HQ := Lib.hid hQ
  clear h ha hb key hQ hm
  clear hb1 hb2
  go_enter Tryd.func30, Tryd.ntmps30
  go_wp2_with (fail)
  refine (ri _).mono ?_
  rintro e w' ⟨rfl, rfl⟩
  go_wp2_with (fail)
  refine (may_ok _ _ (KEY.out _ ?_)).mono ?_
  · first | rfl | omega
  rintro e w2 ⟨rfl, b2⟩
  go_wp2
  go_ret2
  exact ⟨ret_ii (by have := HQ.out; omega) rfl, below_step ((Below.refl _ _).alloc (Nat.le_refl _) _) b2 (by simp)⟩

set_option maxHeartbeats 1000000 in
theorem qu_mz_false_false (x u Q : Int) (w : World) (h : (amtB x && amtB u) = true) (hu : 1 ≤ u) (hx : x < 0) (hr : x.tmod u = 0) (hb1 : -u < x.tmod u) (hb2 : x.tmod u ≤ 0) (hQ : Q = x) (hm : amtB Q = false) :
    Calls Tryd.prog 30 #[.int .i64 x, .int .i64 u, .bool false] w fun e w' => e = .returned (.tuple #[.int .i64 0, .int .i64 10]) ∧ Below w.heap.size w w' := by
  have ri := fun w => right2 x u w 2 true h
  obtain ⟨ha, hb⟩ := Bool.and_eq_true_iff.1 h
  obtain ⟨x1, x2⟩ := amtB_yes ha
  obtain ⟨u1, u2⟩ := amtB_yes hb
  have key : ∀ z : Int, z = x → amtB z = false := fun z e => by rw [e, ← hQ]; exact hm
  have KEY := Lib.hid key
  have HQ := Lib.hid hQ
  clear h ha hb key hQ hm
  clear hb1 hb2
  go_enter Tryd.func30, Tryd.ntmps30
  go_wp2_with (fail)
  refine (ri _).mono ?_
  rintro e w' ⟨rfl, rfl⟩
  go_wp2_with (fail)
  refine (may_bad _ _ (KEY.out _ ?_)).mono ?_
  · first | rfl | omega
  rintro e w2 ⟨rfl, b2⟩
  go_wp2
  go_ret2
  exact ⟨rfl, below_step ((Below.refl _ _).alloc (Nat.le_refl _) _) b2 (by simp)⟩

set_option maxHeartbeats 1000000 in
theorem qu_mn_true_true (x u Q : Int) (w : World) (h : (amtB x && amtB u) = true) (hu : 1 ≤ u) (hx : x < 0) (hr : x.tmod u < 0) (hb1 : -u < x.tmod u) (hb2 : x.tmod u ≤ 0) (hQ : Q = x - (x.tmod u + u - u)) (hm : amtB Q = true) :
    Calls Tryd.prog 30 #[.int .i64 x, .int .i64 u, .bool true] w fun e w' => e = .returned (.tuple #[.int .i64 Q, .int .i64 0]) ∧ Below w.heap.size w w' := by
  have ri := fun w => right2 x u w 2 true h
  obtain ⟨ha, hb⟩ := Bool.and_eq_true_iff.1 h
  obtain ⟨x1, x2⟩ := amtB_yes ha
  obtain ⟨u1, u2⟩ := amtB_yes hb
  have key : ∀ z : Int, z = x - (x.tmod u + u - u) → amtB z = true := fun z e => by rw [e, ← hQ]; exact hm
  have KEY := Lib.hid key
  have HQ := Lib.hid hQ
  clear h ha hb key hQ hm
  go_enter Tryd.func30, Tryd.ntmps30
  go_wp2_with (fail)
  refine (ri _).mono ?_
  rintro e w' ⟨rfl, rfl⟩
  go_wp2_with (fail)
  refine (may_ok _ _ (KEY.out _ ?_)).mono ?_
  · first | rfl | omega
  rintro e w2 ⟨rfl, b2⟩
  go_wp2
  go_ret2
  exact ⟨ret_ii (by have := HQ.out; omega) rfl, below_step ((Below.refl _ _).alloc (Nat.le_refl _) _) b2 (by simp)⟩

set_option maxHeartbeats 1000000 in
theorem qu_mn_true_false (x u Q : Int) (w : World) (h : (amtB x && amtB u) = true) (hu : 1 ≤ u) (hx : x < 0) (hr : x.tmod u < 0) (hb1 : -u < x.tmod u) (hb2 : x.tmod u ≤ 0) (hQ : Q = x - (x.tmod u + u - u)) (hm : amtB Q = false) :
    Calls Tryd.prog 30 #[.int .i64 x, .int .i64 u, .bool true] w fun e w' => e = .returned (.tuple #[.int .i64 0, .int .i64 10]) ∧ Below w.heap.size w w' := by
  have ri := fun w => right2 x u w 2 true h
  obtain ⟨ha, hb⟩ := Bool.and_eq_true_iff.1 h
  obtain ⟨x1, x2⟩ := amtB_yes ha
  obtain ⟨u1, u2⟩ := amtB_yes hb
  have key : ∀ z : Int, z = x - (x.tmod u + u - u) → amtB z = false := fun z e => by rw [e, ← hQ]; exact hm
  have KEY := Lib.hid key
  have HQ := Lib.hid hQ
  clear h ha hb key hQ hm
  go_enter Tryd.func30, Tryd.ntmps30
  go_wp2_with (fail)
  refine (ri _).mono ?_
  rintro e w' ⟨rfl, rfl⟩
  go_wp2_with (fail)
  refine (may_bad _ _ (KEY.out _ ?_)).mono ?_
  · first | rfl | omega
  rintro e w2 ⟨rfl, b2⟩
  go_wp2
  go_ret2
  exact ⟨rfl, below_step ((Below.refl _ _).alloc (Nat.le_refl _) _) b2 (by simp)⟩

set_option maxHeartbeats 1000000 in
theorem qu_mn_false_true (x u Q : Int) (w : World) (h : (amtB x && amtB u) = true) (hu : 1 ≤ u) (hx : x < 0) (hr : x.tmod u < 0) (hb1 : -u < x.tmod u) (hb2 : x.tmod u ≤ 0) (hQ : Q = x - (x.tmod u + u)) (hm : amtB Q = true) :
    Calls Tryd.prog 30 #[.int .i64 x, .int .i64 u, .bool false] w fun e w' => e = .returned (.tuple #[.int .i64 Q, .int .i64 0]) ∧ Below w.heap.size w w' := by
  have ri := fun w => right2 x u w 2 true h
  obtain ⟨ha, hb⟩ := Bool.and_eq_true_iff.1 h
  obtain ⟨x1, x2⟩ := amtB_yes ha
  obtain ⟨u1, u2⟩ := amtB_yes hb
  have key : ∀ z : Int, z = x - (x.tmod u + u) → amtB z = true := fun z e => by rw [e, ← hQ]; exact hm
  have KEY := Lib.hid key
  have HQ := Lib.hid hQ
  clear h ha hb key hQ hm
  go_enter Tryd.func30, Tryd.ntmps30
  go_wp2_with (fail)
  refine (ri _).mono ?_
  rintro e w' ⟨rfl, rfl⟩
  go_wp2_with (fail)
  refine (may_ok _ _ (KEY.out _ ?_)).mono ?_
  · first | rfl | omega
  rintro e w2 ⟨rfl, b2⟩
  go_wp2
  go_ret2
  exact ⟨ret_ii (by have := HQ.out; omega) rfl, below_step ((Below.refl _ _).alloc (Nat.le_refl _) _) b2 (by simp)⟩

set_option maxHeartbeats 1000000 in
theorem qu_mn_false_false (x u Q : Int) (w : World) (h : (amtB x && amtB u) = true) (hu : 1 ≤ u) (hx : x < 0) (hr : x.tmod u < 0) (hb1 : -u < x.tmod u) (hb2 : x.tmod u ≤ 0) (hQ : Q = x - (x.tmod u + u)) (hm : amtB Q = false) :
    Calls Tryd.prog 30 #[.int .i64 x, .int .i64 u, .bool false] w fun e w' => e = .returned (.tuple #[.int .i64 0, .int .i64 10]) ∧ Below w.heap.size w w' := by
  have ri := fun w => right2 x u w 2 true h
  obtain ⟨ha, hb⟩ := Bool.and_eq_true_iff.1 h
  obtain ⟨x1, x2⟩ := amtB_yes ha
  obtain ⟨u1, u2⟩ := amtB_yes hb
  have key : ∀ z : Int, z = x - (x.tmod u + u) → amtB z = false := fun z e => by rw [e, ← hQ]; exact hm
  have KEY := Lib.hid key
  have HQ := Lib.hid hQ
  clear h ha hb key hQ hm
  go_enter Tryd.func30, Tryd.ntmps30
  go_wp2_with (fail)
  refine (ri _).mono ?_
  rintro e w' ⟨rfl, rfl⟩
  go_wp2_with (fail)
  refine (may_bad _ _ (KEY.out _ ?_)).mono ?_
  · first | rfl | omega
  rintro e w2 ⟨rfl, b2⟩
  go_wp2
  go_ret2
  exact ⟨rfl, below_step ((Below.refl _ _).alloc (Nat.le_refl _) _) b2 (by simp)⟩

theorem mult_dvd {u k Q : Int} (h : Q = u * k) : Q % u = 0 ∧ Q.tmod u = 0 := by
  subst h
  exact ⟨Int.mul_emod_right _ _, Int.mul_tmod_right _ _⟩
/-- what an amount comes to, as a multiple of another one -/
def QuOk (x u : Int) (up : Bool) (Q : Int) : Prop := Q % u = 0 ∧ Q.tmod u = 0 ∧ (if up = true then x ≤ Q ∧ Q < x + u else x - u < Q ∧ Q ≤ x)
theorem quant_any (x u : Int) (up : Bool) (h : (amtB x && amtB u) = true) (hu : 1 ≤ u) :
    ∃ Q : Int, QuOk x u up Q ∧ ∀ w : World, Calls Tryd.prog 30 #[.int .i64 x, .int .i64 u, .bool up] w fun e w' => e = .returned (.tuple #[.int .i64 (if amtB Q = true then Q else 0), .int .i64 (if amtB Q = true then 0 else 10)]) ∧ Below w.heap.size w w' := by
  have hd := Int.mul_tdiv_add_tmod x u
  by_cases hx : 0 ≤ x
  · have et : x.tmod u = x % u := Int.tmod_eq_emod_of_nonneg hx
    have b1 := Int.emod_nonneg x (show u ≠ 0 by omega)
    have b2 := Int.emod_lt_of_pos x (show 0 < u by omega)
    rw [et] at hd
    by_cases hr : x % u = 0
    · refine ⟨x, ⟨(mult_dvd (k := x.tdiv u) (by omega)).1, (mult_dvd (k := x.tdiv u) (by omega)).2, by cases up <;> simp <;> omega⟩, fun w => ?_⟩
      cases hm : amtB x
      · simp only [Bool.and_eq_true] at h; rw [h.1] at hm; cases hm
      · cases up
        · exact qu_pz_false_true x u x w h hu hx hr b1 b2 rfl hm
        · exact qu_pz_true_true x u x w h hu hx hr b1 b2 rfl hm
    · cases up
      · refine ⟨x - x % u, ⟨(mult_dvd (k := x.tdiv u) (by omega)).1, (mult_dvd (k := x.tdiv u) (by omega)).2, by simp; omega⟩, fun w => ?_⟩
        cases hm : amtB (x - x % u)
        · exact qu_pn_false_false x u _ w h hu hx (by omega) b1 b2 rfl hm
        · exact qu_pn_false_true x u _ w h hu hx (by omega) b1 b2 rfl hm
      · have e : x - (x % u - u) = u * (x.tdiv u + 1) := by rw [Int.mul_add, Int.mul_one]; omega
        refine ⟨x - (x % u - u), ⟨(mult_dvd e).1, (mult_dvd e).2, by simp; omega⟩, fun w => ?_⟩
        cases hm : amtB (x - (x % u - u))
        · exact qu_pn_true_false x u _ w h hu hx (by omega) b1 b2 rfl hm
        · exact qu_pn_true_true x u _ w h hu hx (by omega) b1 b2 rfl hm
  · have et : x.tmod u = -((-x) % u) := by
      have := Int.neg_tmod (-x) u
      rw [Int.neg_neg] at this
      rw [this, Int.tmod_eq_emod_of_nonneg (by omega)]
    have c1 := Int.emod_nonneg (-x) (show u ≠ 0 by omega)
    have c2 := Int.emod_lt_of_pos (-x) (show 0 < u by omega)
    have b1 : -u < x.tmod u := by rw [et]; omega
    have b2 : x.tmod u ≤ 0 := by rw [et]; omega
    clear et c1 c2
    by_cases hr : x.tmod u = 0
    · refine ⟨x, ⟨(mult_dvd (k := x.tdiv u) (by omega)).1, (mult_dvd (k := x.tdiv u) (by omega)).2, by cases up <;> simp <;> omega⟩, fun w => ?_⟩
      cases hm : amtB x
      · simp only [Bool.and_eq_true] at h; rw [h.1] at hm; cases hm
      · cases up
        · exact qu_mz_false_true x u x w h hu (by omega) hr b1 b2 rfl hm
        · exact qu_mz_true_true x u x w h hu (by omega) hr b1 b2 rfl hm
    · cases up
      · have e : x - (x.tmod u + u) = u * (x.tdiv u - 1) := by rw [Int.mul_sub, Int.mul_one]; omega
        refine ⟨x - (x.tmod u + u), ⟨(mult_dvd e).1, (mult_dvd e).2, by simp; omega⟩, fun w => ?_⟩
        cases hm : amtB (x - (x.tmod u + u))
        · exact qu_mn_false_false x u _ w h hu (by omega) (by omega) b1 b2 rfl hm
        · exact qu_mn_false_true x u _ w h hu (by omega) (by omega) b1 b2 rfl hm
      · have e : x - (x.tmod u + u - u) = u * x.tdiv u := by omega
        refine ⟨x - (x.tmod u + u - u), ⟨(mult_dvd e).1, (mult_dvd e).2, by simp; omega⟩, fun w => ?_⟩
        cases hm : amtB (x - (x.tmod u + u - u))
        · exact qu_mn_true_false x u _ w h hu (by omega) (by omega) b1 b2 rfl hm
        · exact qu_mn_true_true x u _ w h hu (by omega) (by omega) b1 b2 rfl hm
end Go.Proofs.YtjjeohnejhhacaaDoor
