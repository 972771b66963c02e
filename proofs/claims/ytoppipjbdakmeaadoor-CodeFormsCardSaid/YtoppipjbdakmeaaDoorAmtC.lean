/- What the calls of money and frac answer on which codes lean: Sub and Scale. -/
import Derived.Test.YtoppipjbdakmeaaDoorRight
import Derived.Test.YtoppipjbdakmeaaDoorPlainB
import Derived.WalkLawsBesides
import Derived.WalkSmall
import Derived.Deep.QuietTactic
import Derived.BigQuiet
namespace Go.Proofs.YtoppipjbdakmeaaDoor
open Go.RowKit

theorem below_step {B : Nat} {a b c : World} (h : Below B a b) (h2 : Below b.heap.size b c) (hB : B ≤ b.heap.size) : Below B a c := h.trans (h2.mono hB)
theorem may_bad (x : Int) (w : World) (h : amtB x = false) :
    Calls Tryd.prog 92 #[.int .i64 x] w fun e w' => e = .returned (.tuple #[.int .i64 0, .int .i64 10]) ∧ Below w.heap.size w w' := by
  have hc := right1 x w 2 false h
  clear h
  go_enter Tryd.func92, Tryd.ntmps92
  go_wp2_with (go_at_call 68; refine hc.mono ?_; rintro e w' ⟨rfl, rfl⟩)
  go_ret2
  exact ⟨rfl, (Below.refl _ _).alloc (Nat.le_refl _) _⟩
theorem may_ok (x : Int) (w : World) (h : amtB x = true) :
    Calls Tryd.prog 92 #[.int .i64 x] w fun e w' => e = .returned (.tuple #[.int .i64 x, .int .i64 0]) ∧ Below w.heap.size w w' := by
  have hc := right1 x w 2 true h
  clear h
  go_enter Tryd.func92, Tryd.ntmps92
  go_wp2_with (go_at_call 68; refine hc.mono ?_; rintro e w' ⟨rfl, rfl⟩)
  go_ret2
  exact ⟨rfl, (Below.refl _ _).alloc (Nat.le_refl _) _⟩

theorem sub_args (a b : Int) (w : World) (h : (amtB a && amtB b) = false) :
    Calls Tryd.prog 69 #[.int .i64 a, .int .i64 b] w fun e w' => e = .returned (.tuple #[.int .i64 0, .int .i64 10]) ∧ Below w.heap.size w w' := by
  have hc := right2 a b w 2 false h
  clear h
  go_enter Tryd.func69, Tryd.ntmps69
  go_wp2_with (go_at_call 68; refine hc.mono ?_; rintro e w' ⟨rfl, rfl⟩)
  go_ret2
  exact ⟨rfl, (Below.refl _ _).alloc (Nat.le_refl _) _⟩
theorem sub_less (a b : Int) (w : World) (h : (amtB a && amtB b) = true) (hs : amtB (a - b) = false) :
    Calls Tryd.prog 69 #[.int .i64 a, .int .i64 b] w fun e w' => e = .returned (.tuple #[.int .i64 0, .int .i64 10]) ∧ Below w.heap.size w w' := by
  have hc := right2 a b w 2 true h
  have hm := fun w => may_bad (a - b) w hs
  obtain ⟨ha, hb⟩ := Bool.and_eq_true_iff.1 h
  obtain ⟨a1, a2⟩ := amtB_yes ha
  obtain ⟨b1, b2⟩ := amtB_yes hb
  clear h hs ha hb
  go_enter Tryd.func69, Tryd.ntmps69
  go_wp2_with (first
    | (go_at_call 68; refine hc.mono ?_; rintro e w' ⟨rfl, rfl⟩)
    | (go_at_call 92; refine (hm _).mono ?_; rintro e w2 ⟨rfl, hb⟩))
  go_ret2
  exact ⟨rfl, ((Below.refl _ _).alloc (Nat.le_refl _) _).trans (hb.mono (by simp))⟩
theorem sub_ok (a b : Int) (w : World) (h : (amtB a && amtB b) = true) (hs : amtB (a - b) = true) :
    Calls Tryd.prog 69 #[.int .i64 a, .int .i64 b] w fun e w' => e = .returned (.tuple #[.int .i64 (a - b), .int .i64 0]) ∧ Below w.heap.size w w' := by
  have hc := right2 a b w 2 true h
  have hm := fun w => may_ok (a - b) w hs
  obtain ⟨ha, hb⟩ := Bool.and_eq_true_iff.1 h
  obtain ⟨a1, a2⟩ := amtB_yes ha
  obtain ⟨b1, b2⟩ := amtB_yes hb
  clear h hs ha hb
  go_enter Tryd.func69, Tryd.ntmps69
  go_wp2_with (first
    | (go_at_call 68; refine hc.mono ?_; rintro e w' ⟨rfl, rfl⟩)
    | (go_at_call 92; refine (hm _).mono ?_; rintro e w2 ⟨rfl, hb⟩))
  go_ret2
  exact ⟨rfl, ((Below.refl _ _).alloc (Nat.le_refl _) _).trans (hb.mono (by simp))⟩

set_option maxHeartbeats 400000 in
theorem split_any (n d : Int) (w : World) (hn : -9223372036854775808 ≤ n) (hn' : n ≤ 9223372036854775807) (hd : 1 ≤ d) (hd' : d ≤ 9223372036854775807) :
    Calls Tryd.prog 76 #[.int .i64 n, .int .i64 d] w fun e w' => e = .returned (.tuple #[.int .i64 (n / d), .int .i64 (n % d)]) ∧ ∃ k, w' = w.drewN k := by
  by_cases h : n.tmod d < 0
  · have e := floor_neg hd h
    have b := ediv_bd hd _ _ hn hn' (by omega) (by omega)
    have c := Int.emod_nonneg n (show d ≠ 0 by omega)
    have c' := Int.emod_lt_of_pos n (show 0 < d by omega)
    have E := Lib.hid e
    clear e
    go_enter Tryd.func76, Tryd.ntmps76
    go_wp2
    go_quiet (fail)
    go_wp2
    go_ret2
    exact ⟨ret_ii (by rw [E.out.1]; exact IntWalk.wrap64_in _ (by omega)) (by rw [E.out.2]; exact IntWalk.wrap64_in _ (by omega)), _, rfl⟩
  · have e := floor_pos hd (Int.not_lt.1 h)
    have E := Lib.hid e
    clear e
    go_enter Tryd.func76, Tryd.ntmps76
    go_wp2
    go_quiet (fail)
    go_wp2
    go_ret2
    exact ⟨ret_ii E.out.1 E.out.2, _, rfl⟩

theorem scale_amt (x n d : Int) (w : World) (h : amtB x = false) :
    Calls Tryd.prog 57 #[.int .i64 x, .int .i64 n, .int .i64 d] w fun e w' => e = .returned (.tuple #[.int .i64 0, .int .i64 10]) ∧ Below w.heap.size w w' := by
  have hc := right1 x w 2 false h
  clear h
  go_enter Tryd.func57, Tryd.ntmps57
  go_wp2_with (go_at_call 68; refine hc.mono ?_; rintro e w' ⟨rfl, rfl⟩)
  go_ret2
  exact ⟨rfl, (Below.refl _ _).alloc (Nat.le_refl _) _⟩
theorem scale_range (x n d : Int) (w : World) (h : amtB x = true) (hr : n < 0 ∨ 1048576 < n ∨ d < 1 ∨ 1048576 < d) :
    Calls Tryd.prog 57 #[.int .i64 x, .int .i64 n, .int .i64 d] w fun e w' => e = .returned (.tuple #[.int .i64 0, .int .i64 1]) ∧ Below w.heap.size w w' := by
  have hc := right1 x w 2 true h
  clear h
  by_cases h1 : n < 0
  · clear hr
    go_enter Tryd.func57, Tryd.ntmps57
    go_wp2_with (go_at_call 68; refine hc.mono ?_; rintro e w' ⟨rfl, rfl⟩)
    go_ret2
    exact ⟨rfl, (Below.refl _ _).alloc (Nat.le_refl _) _⟩
  · by_cases h2 : 1048576 < n
    · clear hr
      go_enter Tryd.func57, Tryd.ntmps57
      go_wp2_with (go_at_call 68; refine hc.mono ?_; rintro e w' ⟨rfl, rfl⟩)
      go_ret2
      exact ⟨rfl, (Below.refl _ _).alloc (Nat.le_refl _) _⟩
    · by_cases h3 : d < 1
      · clear hr
        go_enter Tryd.func57, Tryd.ntmps57
        go_wp2_with (go_at_call 68; refine hc.mono ?_; rintro e w' ⟨rfl, rfl⟩)
        go_ret2
        exact ⟨rfl, (Below.refl _ _).alloc (Nat.le_refl _) _⟩
      · have h4 : 1048576 < d := by omega
        clear hr
        go_enter Tryd.func57, Tryd.ntmps57
        go_wp2_with (go_at_call 68; refine hc.mono ?_; rintro e w' ⟨rfl, rfl⟩)
        go_ret2
        exact ⟨rfl, (Below.refl _ _).alloc (Nat.le_refl _) _⟩
theorem scale_ok (x n d : Int) (w : World) (h : amtB x = true) (h1 : 0 ≤ n) (h2 : n ≤ 1048576) (h3 : 1 ≤ d) (h4 : d ≤ 1048576) (b : Bool) (hb : amtB (x * n / d) = b) :
    Calls Tryd.prog 57 #[.int .i64 x, .int .i64 n, .int .i64 d] w fun e w' => e = .returned (.tuple #[.int .i64 (if b = true then x * n / d else 0), .int .i64 (if b = true then 0 else 10)]) ∧ Below w.heap.size w w' := by
  have hc := right1 x w 2 true h
  have ha := amtB_yes h
  have hm := mul_bd 1048576 ha.1 ha.2 h1 h2
  have l1 : -9223372036854775808 ≤ x * n := by omega
  have l2 : x * n ≤ 9223372036854775807 := by omega
  have sp := fun w => split_any (x * n) d w l1 l2 h3 (by omega)
  clear h ha hm
  generalize x * n / d = q at *
  generalize x * n % d = r at *
  cases b
  · go_enter Tryd.func57, Tryd.ntmps57
    go_wp2_with (fail)
    refine hc.mono ?_
    rintro e w' ⟨rfl, rfl⟩
    go_wp2_with (fail)
    refine (sp _).mono ?_
    rintro e w' ⟨rfl, k, rfl⟩
    go_wp2_with (fail)
    refine (right_at q _ _ _ false hb ?_).mono ?_
    · simp [go_sem]
    rintro e w' ⟨rfl, rfl⟩
    go_wp2
    go_ret2
    exact ⟨rfl, below_drewN (((Below.refl _ _).alloc (Nat.le_refl _) _).alloc (by simp) _) _⟩
  · go_enter Tryd.func57, Tryd.ntmps57
    go_wp2_with (fail)
    refine hc.mono ?_
    rintro e w' ⟨rfl, rfl⟩
    go_wp2_with (fail)
    refine (sp _).mono ?_
    rintro e w' ⟨rfl, k, rfl⟩
    go_wp2_with (fail)
    refine (right_at q _ _ _ true hb ?_).mono ?_
    · simp [go_sem]
    rintro e w' ⟨rfl, rfl⟩
    go_wp2
    go_ret2
    exact ⟨rfl, below_drewN (((Below.refl _ _).alloc (Nat.le_refl _) _).alloc (by simp) _) _⟩
end Go.Proofs.YtoppipjbdakmeaaDoor
