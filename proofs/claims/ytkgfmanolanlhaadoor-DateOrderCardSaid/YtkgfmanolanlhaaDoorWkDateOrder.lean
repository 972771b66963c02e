/- The walk of DateOrder. -/
import Derived.Test.YtkgfmanolanlhaaDoorWkDateCounts
import Derived.Test.YtkgfmanolanlhaaDoorRefDateA
import Derived.Test.YtkgfmanolanlhaaDoorTxtOrd
namespace Go.Proofs.YtkgfmanolanlhaaDoor
open Go.RowKit
set_option linter.unusedVariables false
set_option linter.unusedSimpArgs false
theorem hd_box2 {w : World} (D : Door w) (y m d y' m' d' : Int) (t t' : TypeId) : HD w [(w.heap.size + 1, y', m', d'), (w.heap.size, y, m, d)] ((w.alloc (.cells #[.int .i64 y, .int .i64 m, .int .i64 d] t)).alloc (.cells #[.int .i64 y', .int .i64 m', .int .i64 d'] t')) := by
  have := ((HD.nil D).add y m d t).add y' m' d' t'
  rwa [show (w.alloc (.cells #[.int .i64 y, .int .i64 m, .int .i64 d] t)).heap.size = w.heap.size + 1 by simp] at this
def H2 (w : World) (p q : Nat) (a b c a' b' c' : Int) (W : World) : Prop := W.cell? ⟨p, 0, none⟩ = some (.int .i64 a) ∧ W.cell? ⟨p, 1, none⟩ = some (.int .i64 b) ∧ W.cell? ⟨p, 2, none⟩ = some (.int .i64 c) ∧ W.cell? ⟨q, 0, none⟩ = some (.int .i64 a') ∧ W.cell? ⟨q, 1, none⟩ = some (.int .i64 b') ∧ W.cell? ⟨q, 2, none⟩ = some (.int .i64 c') ∧ HD w [(q, a', b', c'), (p, a, b, c)] W
theorem h2_of {w W : World} {p q : Nat} {a b c a' b' c' : Int} (K : HD w [(q, a', b', c'), (p, a, b, c)] W) : H2 w p q a b c a' b' c' W := by
  obtain ⟨x, y, z⟩ := (K.2.2 (p, a, b, c) (by simp)).1
  obtain ⟨x', y', z'⟩ := (K.2.2 (q, a', b', c') (by simp)).1
  exact ⟨x, y, z, x', y', z', K⟩
theorem h2_step {w W W' : World} {p q : Nat} {a b c a' b' c' : Int} (hb : Below W.heap.size W W') (h : H2 w p q a b c a' b' c' W) : H2 w p q a b c a' b' c' W' := h2_of (h.2.2.2.2.2.2.step hb)
theorem h2_door {w W : World} {p q : Nat} {a b c a' b' c' : Int} (h : W.cell? ⟨p, 0, none⟩ = some (.int .i64 a) ∧ W.cell? ⟨p, 1, none⟩ = some (.int .i64 b) ∧ W.cell? ⟨p, 2, none⟩ = some (.int .i64 c) ∧ W.cell? ⟨q, 0, none⟩ = some (.int .i64 a') ∧ W.cell? ⟨q, 1, none⟩ = some (.int .i64 b') ∧ W.cell? ⟨q, 2, none⟩ = some (.int .i64 c') ∧ HD w [(q, a', b', c'), (p, a, b, c)] W) : Door W := h.2.2.2.2.2.2.1
set_option maxHeartbeats 1000000 in
theorem ord_y1 (y m d y' m' d' k c : Int) (hc : ∀ w, Calls Tryd.prog 27 #[.agg #[.int .i64 y, .int .i64 m, .int .i64 d], .agg #[.int .i64 y', .int .i64 m', .int .i64 d']] w fun e w' => e = .returned (.int .i64 c) ∧ Below w.heap.size w w') (hc' : ∀ w, Calls Tryd.prog 27 #[.agg #[.int .i64 y', .int .i64 m', .int .i64 d'], .agg #[.int .i64 y, .int .i64 m, .int .i64 d]] w fun e w' => e = .returned (.int .i64 (-c)) ∧ Below w.heap.size w w') (c1 : -1 ≤ c) (c2 : c ≤ 1) (E LT : Bool) (he : (c == 0) = E) (hlt : decide (c < 0) = LT) (hq : ∀ W, (binOp .eql 23 (.agg #[.int .i64 y, .int .i64 m, .int .i64 d]) (.agg #[.int .i64 y', .int .i64 m', .int .i64 d'])).run Tryd.prog W = .ok (.bool E) W) (n : Int) (hbt : ∀ w, Calls Tryd.prog 22 #[.agg #[.int .i64 y, .int .i64 m, .int .i64 d], .agg #[.int .i64 y', .int .i64 m', .int .i64 d']] w fun e w' => e = .returned (.tuple #[.int .i64 n, .int .i64 0]) ∧ Below w.heap.size w w') (hn0 : decide (0 < n) = LT) (hn1 : (n == 0) = E) (T T' : ByteArray) (ht : ∀ w, Door w → Calls Tryd.prog 18 #[.agg #[.int .i64 y, .int .i64 m, .int .i64 d]] w fun e w' => e = .returned (.string T) ∧ Below w.heap.size w w') (ht' : ∀ w, Door w → Calls Tryd.prog 18 #[.agg #[.int .i64 y', .int .i64 m', .int .i64 d']] w fun e w' => e = .returned (.string T') ∧ Below w.heap.size w w') (hbl : Op.bytesLess T.toList T'.toList = LT) (hy1 : decide (0 < k) = false) (w : World) (D : Door w) : Calls Tryd.prog 8 #[.agg #[.int .i64 y, .int .i64 m, .int .i64 d], .agg #[.int .i64 y', .int .i64 m', .int .i64 d'], .int .i64 k] w fun e w' => e = .returned (.bool true) ∧ Below w.heap.size w w' := by
  have K0 := hd_box2 D y m d y' m' d' 23 23
  go_enter Tryd.func8, Tryd.ntmps8
  go_wp2_with (fail)
  refine (days_any _ K0.1).mono ?_
  rintro e w1 ⟨rfl, hb⟩
  have K1 := K0.step hb
  clear hb K0
  obtain ⟨y0, z0, x0⟩ := (K1.2.2 (w.heap.size, y, m, d) (by simp)).1
  obtain ⟨y1, z1, x1⟩ := (K1.2.2 (w.heap.size + 1, y', m', d') (by simp)).1
  go_wp2_with (fail)
  refine (hc _).mono ?_
  rintro e w2 ⟨rfl, hb⟩
  have K2 := K1.step hb
  clear hb K1
  clear y0 z0 x0 y1 z1 x1
  obtain ⟨y2, z2, x2⟩ := (K2.2.2 (w.heap.size, y, m, d) (by simp)).1
  obtain ⟨y3, z3, x3⟩ := (K2.2.2 (w.heap.size + 1, y', m', d') (by simp)).1
  go_wp2_with (fail)
  refine (hc' _).mono ?_
  rintro e w3 ⟨rfl, hb⟩
  have K3 := K2.step hb
  clear hb K2
  clear y2 z2 x2 y3 z3 x3
  obtain ⟨y4, z4, x4⟩ := (K3.2.2 (w.heap.size, y, m, d) (by simp)).1
  obtain ⟨y5, z5, x5⟩ := (K3.2.2 (w.heap.size + 1, y', m', d') (by simp)).1
  go_wp2_with (fail)
  refine (hbt _).mono ?_
  rintro e w6 ⟨rfl, hb⟩
  have K4 := K3.step hb
  clear hb K3
  clear y4 z4 x4 y5 z5 x5
  obtain ⟨y6, z6, x6⟩ := (K4.2.2 (w.heap.size, y, m, d) (by simp)).1
  obtain ⟨y7, z7, x7⟩ := (K4.2.2 (w.heap.size + 1, y', m', d') (by simp)).1
  go_wp2
  have Z0 := h2_of K4.drew
  have ZD := h2_door Z0
  go_region_held3 (fun W => W.cell? ⟨w.heap.size, 0, none⟩ = some (.int .i64 y) ∧ W.cell? ⟨w.heap.size, 1, none⟩ = some (.int .i64 m) ∧ W.cell? ⟨w.heap.size, 2, none⟩ = some (.int .i64 d) ∧ W.cell? ⟨w.heap.size + 1, 0, none⟩ = some (.int .i64 y') ∧ W.cell? ⟨w.heap.size + 1, 1, none⟩ = some (.int .i64 m') ∧ W.cell? ⟨w.heap.size + 1, 2, none⟩ = some (.int .i64 d') ∧ HD w [(w.heap.size + 1, y', m', d'), (w.heap.size, y, m, d)] W)
    ((first | exact Z0 | exact h2_step hb (by assumption)))
    (first
      | (go_at_call 18; (with_reducible refine Calls.mono (ht _ (by first | exact ZD | exact h2_door (w := w) (p := w.heap.size) (q := w.heap.size + 1) (a := y) (b := m) (c := d) (a' := y') (b' := m') (c' := d') (by assumption))) ?_); rintro e w20 ⟨rfl, hb⟩)
      | (go_at_call 18; (with_reducible refine Calls.mono (ht' _ (by first | exact ZD | exact h2_door (w := w) (p := w.heap.size) (q := w.heap.size + 1) (a := y) (b := m) (c := d) (a' := y') (b' := m') (c' := d') (by assumption))) ?_); rintro e w20 ⟨rfl, hb⟩))
  all_goals
    rename_i hH
    have BE := (show H2 w w.heap.size (w.heap.size + 1) y m d y' m' d' _ from hH).2.2.2.2.2.2.2.1
    clear hH hb Z0 ZD K4
    go_wp2
    go_ret
    exact ⟨rfl, BE⟩
set_option maxHeartbeats 1000000 in
theorem ord_na1 (y m d y' m' d' k c : Int) (hc : ∀ w, Calls Tryd.prog 27 #[.agg #[.int .i64 y, .int .i64 m, .int .i64 d], .agg #[.int .i64 y', .int .i64 m', .int .i64 d']] w fun e w' => e = .returned (.int .i64 c) ∧ Below w.heap.size w w') (hc' : ∀ w, Calls Tryd.prog 27 #[.agg #[.int .i64 y', .int .i64 m', .int .i64 d'], .agg #[.int .i64 y, .int .i64 m, .int .i64 d]] w fun e w' => e = .returned (.int .i64 (-c)) ∧ Below w.heap.size w w') (c1 : -1 ≤ c) (c2 : c ≤ 1) (E LT : Bool) (he : (c == 0) = E) (hlt : decide (c < 0) = LT) (hq : ∀ W, (binOp .eql 23 (.agg #[.int .i64 y, .int .i64 m, .int .i64 d]) (.agg #[.int .i64 y', .int .i64 m', .int .i64 d'])).run Tryd.prog W = .ok (.bool E) W) (hbt : ∀ w, Calls Tryd.prog 22 #[.agg #[.int .i64 y, .int .i64 m, .int .i64 d], .agg #[.int .i64 y', .int .i64 m', .int .i64 d']] w fun e w' => e = .returned (.tuple #[.int .i64 0, .int .i64 30]) ∧ Below w.heap.size w w') (hr : ∀ w, Calls Tryd.prog 26 #[.agg #[.int .i64 y, .int .i64 m, .int .i64 d]] w fun e w' => e = .returned (.bool false) ∧ Below w.heap.size w w') (hy1 : decide (0 < k) = false) (w : World) (D : Door w) : Calls Tryd.prog 8 #[.agg #[.int .i64 y, .int .i64 m, .int .i64 d], .agg #[.int .i64 y', .int .i64 m', .int .i64 d'], .int .i64 k] w fun e w' => e = .returned (.bool true) ∧ Below w.heap.size w w' := by
  have K0 := hd_box2 D y m d y' m' d' 23 23
  go_enter Tryd.func8, Tryd.ntmps8
  go_wp2_with (fail)
  refine (days_any _ K0.1).mono ?_
  rintro e w1 ⟨rfl, hb⟩
  have K1 := K0.step hb
  clear hb K0
  obtain ⟨y0, z0, x0⟩ := (K1.2.2 (w.heap.size, y, m, d) (by simp)).1
  obtain ⟨y1, z1, x1⟩ := (K1.2.2 (w.heap.size + 1, y', m', d') (by simp)).1
  go_wp2_with (fail)
  refine (hc _).mono ?_
  rintro e w2 ⟨rfl, hb⟩
  have K2 := K1.step hb
  clear hb K1
  clear y0 z0 x0 y1 z1 x1
  obtain ⟨y2, z2, x2⟩ := (K2.2.2 (w.heap.size, y, m, d) (by simp)).1
  obtain ⟨y3, z3, x3⟩ := (K2.2.2 (w.heap.size + 1, y', m', d') (by simp)).1
  go_wp2_with (fail)
  refine (hc' _).mono ?_
  rintro e w3 ⟨rfl, hb⟩
  have K3 := K2.step hb
  clear hb K2
  clear y2 z2 x2 y3 z3 x3
  obtain ⟨y4, z4, x4⟩ := (K3.2.2 (w.heap.size, y, m, d) (by simp)).1
  obtain ⟨y5, z5, x5⟩ := (K3.2.2 (w.heap.size + 1, y', m', d') (by simp)).1
  go_wp2_with (fail)
  refine (hbt _).mono ?_
  rintro e w6 ⟨rfl, hb⟩
  have K4 := K3.step hb
  clear hb K3
  clear y4 z4 x4 y5 z5 x5
  obtain ⟨y6, z6, x6⟩ := (K4.2.2 (w.heap.size, y, m, d) (by simp)).1
  go_wp2_with (fail)
  refine (hr _).mono ?_
  rintro e w7 ⟨rfl, hb⟩
  have K5 := K4.step hb
  clear hb K4
  clear y6 z6 x6
  have BE := K5.2.1
  go_wp2
  go_ret
  exact ⟨rfl, BE⟩
set_option maxHeartbeats 1000000 in
theorem ord_nb1 (y m d y' m' d' k c : Int) (hc : ∀ w, Calls Tryd.prog 27 #[.agg #[.int .i64 y, .int .i64 m, .int .i64 d], .agg #[.int .i64 y', .int .i64 m', .int .i64 d']] w fun e w' => e = .returned (.int .i64 c) ∧ Below w.heap.size w w') (hc' : ∀ w, Calls Tryd.prog 27 #[.agg #[.int .i64 y', .int .i64 m', .int .i64 d'], .agg #[.int .i64 y, .int .i64 m, .int .i64 d]] w fun e w' => e = .returned (.int .i64 (-c)) ∧ Below w.heap.size w w') (c1 : -1 ≤ c) (c2 : c ≤ 1) (E LT : Bool) (he : (c == 0) = E) (hlt : decide (c < 0) = LT) (hq : ∀ W, (binOp .eql 23 (.agg #[.int .i64 y, .int .i64 m, .int .i64 d]) (.agg #[.int .i64 y', .int .i64 m', .int .i64 d'])).run Tryd.prog W = .ok (.bool E) W) (hbt : ∀ w, Calls Tryd.prog 22 #[.agg #[.int .i64 y, .int .i64 m, .int .i64 d], .agg #[.int .i64 y', .int .i64 m', .int .i64 d']] w fun e w' => e = .returned (.tuple #[.int .i64 0, .int .i64 30]) ∧ Below w.heap.size w w') (hr : ∀ w, Calls Tryd.prog 26 #[.agg #[.int .i64 y, .int .i64 m, .int .i64 d]] w fun e w' => e = .returned (.bool true) ∧ Below w.heap.size w w') (hr' : ∀ w, Calls Tryd.prog 26 #[.agg #[.int .i64 y', .int .i64 m', .int .i64 d']] w fun e w' => e = .returned (.bool false) ∧ Below w.heap.size w w') (hy1 : decide (0 < k) = false) (w : World) (D : Door w) : Calls Tryd.prog 8 #[.agg #[.int .i64 y, .int .i64 m, .int .i64 d], .agg #[.int .i64 y', .int .i64 m', .int .i64 d'], .int .i64 k] w fun e w' => e = .returned (.bool true) ∧ Below w.heap.size w w' := by
  have K0 := hd_box2 D y m d y' m' d' 23 23
  go_enter Tryd.func8, Tryd.ntmps8
  go_wp2_with (fail)
  refine (days_any _ K0.1).mono ?_
  rintro e w1 ⟨rfl, hb⟩
  have K1 := K0.step hb
  clear hb K0
  obtain ⟨y0, z0, x0⟩ := (K1.2.2 (w.heap.size, y, m, d) (by simp)).1
  obtain ⟨y1, z1, x1⟩ := (K1.2.2 (w.heap.size + 1, y', m', d') (by simp)).1
  go_wp2_with (fail)
  refine (hc _).mono ?_
  rintro e w2 ⟨rfl, hb⟩
  have K2 := K1.step hb
  clear hb K1
  clear y0 z0 x0 y1 z1 x1
  obtain ⟨y2, z2, x2⟩ := (K2.2.2 (w.heap.size, y, m, d) (by simp)).1
  obtain ⟨y3, z3, x3⟩ := (K2.2.2 (w.heap.size + 1, y', m', d') (by simp)).1
  go_wp2_with (fail)
  refine (hc' _).mono ?_
  rintro e w3 ⟨rfl, hb⟩
  have K3 := K2.step hb
  clear hb K2
  clear y2 z2 x2 y3 z3 x3
  obtain ⟨y4, z4, x4⟩ := (K3.2.2 (w.heap.size, y, m, d) (by simp)).1
  obtain ⟨y5, z5, x5⟩ := (K3.2.2 (w.heap.size + 1, y', m', d') (by simp)).1
  go_wp2_with (fail)
  refine (hbt _).mono ?_
  rintro e w6 ⟨rfl, hb⟩
  have K4 := K3.step hb
  clear hb K3
  clear y4 z4 x4 y5 z5 x5
  obtain ⟨y6, z6, x6⟩ := (K4.2.2 (w.heap.size, y, m, d) (by simp)).1
  go_wp2_with (fail)
  refine (hr _).mono ?_
  rintro e w7 ⟨rfl, hb⟩
  have K5 := K4.step hb
  clear hb K4
  clear y6 z6 x6
  obtain ⟨y7, z7, x7⟩ := (K5.2.2 (w.heap.size + 1, y', m', d') (by simp)).1
  go_wp2_with (fail)
  refine (hr' _).mono ?_
  rintro e w8 ⟨rfl, hb⟩
  have K6 := K5.step hb
  clear hb K5
  clear y7 z7 x7
  have BE := K6.2.1
  go_wp2
  go_ret
  exact ⟨rfl, BE⟩
set_option maxHeartbeats 1000000 in
theorem ord_y2 (y m d y' m' d' k c : Int) (hc : ∀ w, Calls Tryd.prog 27 #[.agg #[.int .i64 y, .int .i64 m, .int .i64 d], .agg #[.int .i64 y', .int .i64 m', .int .i64 d']] w fun e w' => e = .returned (.int .i64 c) ∧ Below w.heap.size w w') (hc' : ∀ w, Calls Tryd.prog 27 #[.agg #[.int .i64 y', .int .i64 m', .int .i64 d'], .agg #[.int .i64 y, .int .i64 m, .int .i64 d]] w fun e w' => e = .returned (.int .i64 (-c)) ∧ Below w.heap.size w w') (c1 : -1 ≤ c) (c2 : c ≤ 1) (E LT : Bool) (he : (c == 0) = E) (hlt : decide (c < 0) = LT) (hq : ∀ W, (binOp .eql 23 (.agg #[.int .i64 y, .int .i64 m, .int .i64 d]) (.agg #[.int .i64 y', .int .i64 m', .int .i64 d'])).run Tryd.prog W = .ok (.bool E) W) (n : Int) (hbt : ∀ w, Calls Tryd.prog 22 #[.agg #[.int .i64 y, .int .i64 m, .int .i64 d], .agg #[.int .i64 y', .int .i64 m', .int .i64 d']] w fun e w' => e = .returned (.tuple #[.int .i64 n, .int .i64 0]) ∧ Below w.heap.size w w') (hn0 : decide (0 < n) = LT) (hn1 : (n == 0) = E) (T T' : ByteArray) (ht : ∀ w, Door w → Calls Tryd.prog 18 #[.agg #[.int .i64 y, .int .i64 m, .int .i64 d]] w fun e w' => e = .returned (.string T) ∧ Below w.heap.size w w') (ht' : ∀ w, Door w → Calls Tryd.prog 18 #[.agg #[.int .i64 y', .int .i64 m', .int .i64 d']] w fun e w' => e = .returned (.string T') ∧ Below w.heap.size w w') (hbl : Op.bytesLess T.toList T'.toList = LT) (hy1 : decide (0 < k) = true) (hy2 : decide (k < 10000) = false) (w : World) (D : Door w) : Calls Tryd.prog 8 #[.agg #[.int .i64 y, .int .i64 m, .int .i64 d], .agg #[.int .i64 y', .int .i64 m', .int .i64 d'], .int .i64 k] w fun e w' => e = .returned (.bool true) ∧ Below w.heap.size w w' := by
  have K0 := hd_box2 D y m d y' m' d' 23 23
  go_enter Tryd.func8, Tryd.ntmps8
  go_wp2_with (fail)
  refine (days_any _ K0.1).mono ?_
  rintro e w1 ⟨rfl, hb⟩
  have K1 := K0.step hb
  clear hb K0
  obtain ⟨y0, z0, x0⟩ := (K1.2.2 (w.heap.size, y, m, d) (by simp)).1
  obtain ⟨y1, z1, x1⟩ := (K1.2.2 (w.heap.size + 1, y', m', d') (by simp)).1
  go_wp2_with (fail)
  refine (hc _).mono ?_
  rintro e w2 ⟨rfl, hb⟩
  have K2 := K1.step hb
  clear hb K1
  clear y0 z0 x0 y1 z1 x1
  obtain ⟨y2, z2, x2⟩ := (K2.2.2 (w.heap.size, y, m, d) (by simp)).1
  obtain ⟨y3, z3, x3⟩ := (K2.2.2 (w.heap.size + 1, y', m', d') (by simp)).1
  go_wp2_with (fail)
  refine (hc' _).mono ?_
  rintro e w3 ⟨rfl, hb⟩
  have K3 := K2.step hb
  clear hb K2
  clear y2 z2 x2 y3 z3 x3
  obtain ⟨y4, z4, x4⟩ := (K3.2.2 (w.heap.size, y, m, d) (by simp)).1
  obtain ⟨y5, z5, x5⟩ := (K3.2.2 (w.heap.size + 1, y', m', d') (by simp)).1
  go_wp2_with (fail)
  refine (hbt _).mono ?_
  rintro e w6 ⟨rfl, hb⟩
  have K4 := K3.step hb
  clear hb K3
  clear y4 z4 x4 y5 z5 x5
  obtain ⟨y6, z6, x6⟩ := (K4.2.2 (w.heap.size, y, m, d) (by simp)).1
  obtain ⟨y7, z7, x7⟩ := (K4.2.2 (w.heap.size + 1, y', m', d') (by simp)).1
  go_wp2
  have Z0 := h2_of K4.drew
  have ZD := h2_door Z0
  go_region_held3 (fun W => W.cell? ⟨w.heap.size, 0, none⟩ = some (.int .i64 y) ∧ W.cell? ⟨w.heap.size, 1, none⟩ = some (.int .i64 m) ∧ W.cell? ⟨w.heap.size, 2, none⟩ = some (.int .i64 d) ∧ W.cell? ⟨w.heap.size + 1, 0, none⟩ = some (.int .i64 y') ∧ W.cell? ⟨w.heap.size + 1, 1, none⟩ = some (.int .i64 m') ∧ W.cell? ⟨w.heap.size + 1, 2, none⟩ = some (.int .i64 d') ∧ HD w [(w.heap.size + 1, y', m', d'), (w.heap.size, y, m, d)] W)
    ((first | exact Z0 | exact h2_step hb (by assumption)))
    (first
      | (go_at_call 18; (with_reducible refine Calls.mono (ht _ (by first | exact ZD | exact h2_door (w := w) (p := w.heap.size) (q := w.heap.size + 1) (a := y) (b := m) (c := d) (a' := y') (b' := m') (c' := d') (by assumption))) ?_); rintro e w20 ⟨rfl, hb⟩)
      | (go_at_call 18; (with_reducible refine Calls.mono (ht' _ (by first | exact ZD | exact h2_door (w := w) (p := w.heap.size) (q := w.heap.size + 1) (a := y) (b := m) (c := d) (a' := y') (b' := m') (c' := d') (by assumption))) ?_); rintro e w20 ⟨rfl, hb⟩))
  all_goals
    rename_i hH
    have BE := (show H2 w w.heap.size (w.heap.size + 1) y m d y' m' d' _ from hH).2.2.2.2.2.2.2.1
    clear hH hb Z0 ZD K4
    go_wp2
    go_ret
    exact ⟨rfl, BE⟩
set_option maxHeartbeats 1000000 in
theorem ord_na2 (y m d y' m' d' k c : Int) (hc : ∀ w, Calls Tryd.prog 27 #[.agg #[.int .i64 y, .int .i64 m, .int .i64 d], .agg #[.int .i64 y', .int .i64 m', .int .i64 d']] w fun e w' => e = .returned (.int .i64 c) ∧ Below w.heap.size w w') (hc' : ∀ w, Calls Tryd.prog 27 #[.agg #[.int .i64 y', .int .i64 m', .int .i64 d'], .agg #[.int .i64 y, .int .i64 m, .int .i64 d]] w fun e w' => e = .returned (.int .i64 (-c)) ∧ Below w.heap.size w w') (c1 : -1 ≤ c) (c2 : c ≤ 1) (E LT : Bool) (he : (c == 0) = E) (hlt : decide (c < 0) = LT) (hq : ∀ W, (binOp .eql 23 (.agg #[.int .i64 y, .int .i64 m, .int .i64 d]) (.agg #[.int .i64 y', .int .i64 m', .int .i64 d'])).run Tryd.prog W = .ok (.bool E) W) (hbt : ∀ w, Calls Tryd.prog 22 #[.agg #[.int .i64 y, .int .i64 m, .int .i64 d], .agg #[.int .i64 y', .int .i64 m', .int .i64 d']] w fun e w' => e = .returned (.tuple #[.int .i64 0, .int .i64 30]) ∧ Below w.heap.size w w') (hr : ∀ w, Calls Tryd.prog 26 #[.agg #[.int .i64 y, .int .i64 m, .int .i64 d]] w fun e w' => e = .returned (.bool false) ∧ Below w.heap.size w w') (hy1 : decide (0 < k) = true) (hy2 : decide (k < 10000) = false) (w : World) (D : Door w) : Calls Tryd.prog 8 #[.agg #[.int .i64 y, .int .i64 m, .int .i64 d], .agg #[.int .i64 y', .int .i64 m', .int .i64 d'], .int .i64 k] w fun e w' => e = .returned (.bool true) ∧ Below w.heap.size w w' := by
  have K0 := hd_box2 D y m d y' m' d' 23 23
  go_enter Tryd.func8, Tryd.ntmps8
  go_wp2_with (fail)
  refine (days_any _ K0.1).mono ?_
  rintro e w1 ⟨rfl, hb⟩
  have K1 := K0.step hb
  clear hb K0
  obtain ⟨y0, z0, x0⟩ := (K1.2.2 (w.heap.size, y, m, d) (by simp)).1
  obtain ⟨y1, z1, x1⟩ := (K1.2.2 (w.heap.size + 1, y', m', d') (by simp)).1
  go_wp2_with (fail)
  refine (hc _).mono ?_
  rintro e w2 ⟨rfl, hb⟩
  have K2 := K1.step hb
  clear hb K1
  clear y0 z0 x0 y1 z1 x1
  obtain ⟨y2, z2, x2⟩ := (K2.2.2 (w.heap.size, y, m, d) (by simp)).1
  obtain ⟨y3, z3, x3⟩ := (K2.2.2 (w.heap.size + 1, y', m', d') (by simp)).1
  go_wp2_with (fail)
  refine (hc' _).mono ?_
  rintro e w3 ⟨rfl, hb⟩
  have K3 := K2.step hb
  clear hb K2
  clear y2 z2 x2 y3 z3 x3
  obtain ⟨y4, z4, x4⟩ := (K3.2.2 (w.heap.size, y, m, d) (by simp)).1
  obtain ⟨y5, z5, x5⟩ := (K3.2.2 (w.heap.size + 1, y', m', d') (by simp)).1
  go_wp2_with (fail)
  refine (hbt _).mono ?_
  rintro e w6 ⟨rfl, hb⟩
  have K4 := K3.step hb
  clear hb K3
  clear y4 z4 x4 y5 z5 x5
  obtain ⟨y6, z6, x6⟩ := (K4.2.2 (w.heap.size, y, m, d) (by simp)).1
  go_wp2_with (fail)
  refine (hr _).mono ?_
  rintro e w7 ⟨rfl, hb⟩
  have K5 := K4.step hb
  clear hb K4
  clear y6 z6 x6
  have BE := K5.2.1
  go_wp2
  go_ret
  exact ⟨rfl, BE⟩
set_option maxHeartbeats 1000000 in
theorem ord_nb2 (y m d y' m' d' k c : Int) (hc : ∀ w, Calls Tryd.prog 27 #[.agg #[.int .i64 y, .int .i64 m, .int .i64 d], .agg #[.int .i64 y', .int .i64 m', .int .i64 d']] w fun e w' => e = .returned (.int .i64 c) ∧ Below w.heap.size w w') (hc' : ∀ w, Calls Tryd.prog 27 #[.agg #[.int .i64 y', .int .i64 m', .int .i64 d'], .agg #[.int .i64 y, .int .i64 m, .int .i64 d]] w fun e w' => e = .returned (.int .i64 (-c)) ∧ Below w.heap.size w w') (c1 : -1 ≤ c) (c2 : c ≤ 1) (E LT : Bool) (he : (c == 0) = E) (hlt : decide (c < 0) = LT) (hq : ∀ W, (binOp .eql 23 (.agg #[.int .i64 y, .int .i64 m, .int .i64 d]) (.agg #[.int .i64 y', .int .i64 m', .int .i64 d'])).run Tryd.prog W = .ok (.bool E) W) (hbt : ∀ w, Calls Tryd.prog 22 #[.agg #[.int .i64 y, .int .i64 m, .int .i64 d], .agg #[.int .i64 y', .int .i64 m', .int .i64 d']] w fun e w' => e = .returned (.tuple #[.int .i64 0, .int .i64 30]) ∧ Below w.heap.size w w') (hr : ∀ w, Calls Tryd.prog 26 #[.agg #[.int .i64 y, .int .i64 m, .int .i64 d]] w fun e w' => e = .returned (.bool true) ∧ Below w.heap.size w w') (hr' : ∀ w, Calls Tryd.prog 26 #[.agg #[.int .i64 y', .int .i64 m', .int .i64 d']] w fun e w' => e = .returned (.bool false) ∧ Below w.heap.size w w') (hy1 : decide (0 < k) = true) (hy2 : decide (k < 10000) = false) (w : World) (D : Door w) : Calls Tryd.prog 8 #[.agg #[.int .i64 y, .int .i64 m, .int .i64 d], .agg #[.int .i64 y', .int .i64 m', .int .i64 d'], .int .i64 k] w fun e w' => e = .returned (.bool true) ∧ Below w.heap.size w w' := by
  have K0 := hd_box2 D y m d y' m' d' 23 23
  go_enter Tryd.func8, Tryd.ntmps8
  go_wp2_with (fail)
  refine (days_any _ K0.1).mono ?_
  rintro e w1 ⟨rfl, hb⟩
  have K1 := K0.step hb
  clear hb K0
  obtain ⟨y0, z0, x0⟩ := (K1.2.2 (w.heap.size, y, m, d) (by simp)).1
  obtain ⟨y1, z1, x1⟩ := (K1.2.2 (w.heap.size + 1, y', m', d') (by simp)).1
  go_wp2_with (fail)
  refine (hc _).mono ?_
  rintro e w2 ⟨rfl, hb⟩
  have K2 := K1.step hb
  clear hb K1
  clear y0 z0 x0 y1 z1 x1
  obtain ⟨y2, z2, x2⟩ := (K2.2.2 (w.heap.size, y, m, d) (by simp)).1
  obtain ⟨y3, z3, x3⟩ := (K2.2.2 (w.heap.size + 1, y', m', d') (by simp)).1
  go_wp2_with (fail)
  refine (hc' _).mono ?_
  rintro e w3 ⟨rfl, hb⟩
  have K3 := K2.step hb
  clear hb K2
  clear y2 z2 x2 y3 z3 x3
  obtain ⟨y4, z4, x4⟩ := (K3.2.2 (w.heap.size, y, m, d) (by simp)).1
  obtain ⟨y5, z5, x5⟩ := (K3.2.2 (w.heap.size + 1, y', m', d') (by simp)).1
  go_wp2_with (fail)
  refine (hbt _).mono ?_
  rintro e w6 ⟨rfl, hb⟩
  have K4 := K3.step hb
  clear hb K3
  clear y4 z4 x4 y5 z5 x5
  obtain ⟨y6, z6, x6⟩ := (K4.2.2 (w.heap.size, y, m, d) (by simp)).1
  go_wp2_with (fail)
  refine (hr _).mono ?_
  rintro e w7 ⟨rfl, hb⟩
  have K5 := K4.step hb
  clear hb K4
  clear y6 z6 x6
  obtain ⟨y7, z7, x7⟩ := (K5.2.2 (w.heap.size + 1, y', m', d') (by simp)).1
  go_wp2_with (fail)
  refine (hr' _).mono ?_
  rintro e w8 ⟨rfl, hb⟩
  have K6 := K5.step hb
  clear hb K5
  clear y7 z7 x7
  have BE := K6.2.1
  go_wp2
  go_ret
  exact ⟨rfl, BE⟩
set_option maxHeartbeats 1000000 in
theorem ord_y3 (y m d y' m' d' k c : Int) (hc : ∀ w, Calls Tryd.prog 27 #[.agg #[.int .i64 y, .int .i64 m, .int .i64 d], .agg #[.int .i64 y', .int .i64 m', .int .i64 d']] w fun e w' => e = .returned (.int .i64 c) ∧ Below w.heap.size w w') (hc' : ∀ w, Calls Tryd.prog 27 #[.agg #[.int .i64 y', .int .i64 m', .int .i64 d'], .agg #[.int .i64 y, .int .i64 m, .int .i64 d]] w fun e w' => e = .returned (.int .i64 (-c)) ∧ Below w.heap.size w w') (c1 : -1 ≤ c) (c2 : c ≤ 1) (E LT : Bool) (he : (c == 0) = E) (hlt : decide (c < 0) = LT) (hq : ∀ W, (binOp .eql 23 (.agg #[.int .i64 y, .int .i64 m, .int .i64 d]) (.agg #[.int .i64 y', .int .i64 m', .int .i64 d'])).run Tryd.prog W = .ok (.bool E) W) (n : Int) (hbt : ∀ w, Calls Tryd.prog 22 #[.agg #[.int .i64 y, .int .i64 m, .int .i64 d], .agg #[.int .i64 y', .int .i64 m', .int .i64 d']] w fun e w' => e = .returned (.tuple #[.int .i64 n, .int .i64 0]) ∧ Below w.heap.size w w') (hn0 : decide (0 < n) = LT) (hn1 : (n == 0) = E) (T T' : ByteArray) (ht : ∀ w, Door w → Calls Tryd.prog 18 #[.agg #[.int .i64 y, .int .i64 m, .int .i64 d]] w fun e w' => e = .returned (.string T) ∧ Below w.heap.size w w') (ht' : ∀ w, Door w → Calls Tryd.prog 18 #[.agg #[.int .i64 y', .int .i64 m', .int .i64 d']] w fun e w' => e = .returned (.string T') ∧ Below w.heap.size w w') (hbl : Op.bytesLess T.toList T'.toList = LT) (hy1 : decide (0 < k) = true) (hy2 : decide (k < 10000) = true) (B : Bool) (lo : Int) (hle : ∀ w, Calls Tryd.prog 28 #[.int .i64 k] w fun e w' => e = .returned (.bool B) ∧ w = w') (hlo : ∀ w, Calls Tryd.prog 29 #[.int .i64 k] w fun e w' => e = .returned (.int .i64 lo) ∧ w = w') (hlb : (lo == 366) = B) (w : World) (D : Door w) : Calls Tryd.prog 8 #[.agg #[.int .i64 y, .int .i64 m, .int .i64 d], .agg #[.int .i64 y', .int .i64 m', .int .i64 d'], .int .i64 k] w fun e w' => e = .returned (.bool true) ∧ Below w.heap.size w w' := by
  have K0 := hd_box2 D y m d y' m' d' 23 23
  go_enter Tryd.func8, Tryd.ntmps8
  go_wp2_with (fail)
  refine (days_any _ K0.1).mono ?_
  rintro e w1 ⟨rfl, hb⟩
  have K1 := K0.step hb
  clear hb K0
  obtain ⟨y0, z0, x0⟩ := (K1.2.2 (w.heap.size, y, m, d) (by simp)).1
  obtain ⟨y1, z1, x1⟩ := (K1.2.2 (w.heap.size + 1, y', m', d') (by simp)).1
  go_wp2_with (fail)
  refine (hc _).mono ?_
  rintro e w2 ⟨rfl, hb⟩
  have K2 := K1.step hb
  clear hb K1
  clear y0 z0 x0 y1 z1 x1
  obtain ⟨y2, z2, x2⟩ := (K2.2.2 (w.heap.size, y, m, d) (by simp)).1
  obtain ⟨y3, z3, x3⟩ := (K2.2.2 (w.heap.size + 1, y', m', d') (by simp)).1
  go_wp2_with (fail)
  refine (hc' _).mono ?_
  rintro e w3 ⟨rfl, hb⟩
  have K3 := K2.step hb
  clear hb K2
  clear y2 z2 x2 y3 z3 x3
  obtain ⟨y4, z4, x4⟩ := (K3.2.2 (w.heap.size, y, m, d) (by simp)).1
  obtain ⟨y5, z5, x5⟩ := (K3.2.2 (w.heap.size + 1, y', m', d') (by simp)).1
  go_wp2_with (fail)
  refine (hle _).mono ?_
  rintro e w4 ⟨rfl, rfl⟩
  go_wp2_with (fail)
  refine (hlo _).mono ?_
  rintro e w5 ⟨rfl, rfl⟩
  go_wp2_with (fail)
  refine (hbt _).mono ?_
  rintro e w6 ⟨rfl, hb⟩
  have K4 := K3.step hb
  clear hb K3
  clear y4 z4 x4 y5 z5 x5
  obtain ⟨y6, z6, x6⟩ := (K4.2.2 (w.heap.size, y, m, d) (by simp)).1
  obtain ⟨y7, z7, x7⟩ := (K4.2.2 (w.heap.size + 1, y', m', d') (by simp)).1
  go_wp2
  have Z0 := h2_of K4.drew
  have ZD := h2_door Z0
  go_region_held3 (fun W => W.cell? ⟨w.heap.size, 0, none⟩ = some (.int .i64 y) ∧ W.cell? ⟨w.heap.size, 1, none⟩ = some (.int .i64 m) ∧ W.cell? ⟨w.heap.size, 2, none⟩ = some (.int .i64 d) ∧ W.cell? ⟨w.heap.size + 1, 0, none⟩ = some (.int .i64 y') ∧ W.cell? ⟨w.heap.size + 1, 1, none⟩ = some (.int .i64 m') ∧ W.cell? ⟨w.heap.size + 1, 2, none⟩ = some (.int .i64 d') ∧ HD w [(w.heap.size + 1, y', m', d'), (w.heap.size, y, m, d)] W)
    ((first | exact Z0 | exact h2_step hb (by assumption)))
    (first
      | (go_at_call 18; (with_reducible refine Calls.mono (ht _ (by first | exact ZD | exact h2_door (w := w) (p := w.heap.size) (q := w.heap.size + 1) (a := y) (b := m) (c := d) (a' := y') (b' := m') (c' := d') (by assumption))) ?_); rintro e w20 ⟨rfl, hb⟩)
      | (go_at_call 18; (with_reducible refine Calls.mono (ht' _ (by first | exact ZD | exact h2_door (w := w) (p := w.heap.size) (q := w.heap.size + 1) (a := y) (b := m) (c := d) (a' := y') (b' := m') (c' := d') (by assumption))) ?_); rintro e w20 ⟨rfl, hb⟩))
  all_goals
    rename_i hH
    have BE := (show H2 w w.heap.size (w.heap.size + 1) y m d y' m' d' _ from hH).2.2.2.2.2.2.2.1
    clear hH hb Z0 ZD K4
    go_wp2
    go_ret
    exact ⟨rfl, BE⟩
set_option maxHeartbeats 1000000 in
theorem ord_na3 (y m d y' m' d' k c : Int) (hc : ∀ w, Calls Tryd.prog 27 #[.agg #[.int .i64 y, .int .i64 m, .int .i64 d], .agg #[.int .i64 y', .int .i64 m', .int .i64 d']] w fun e w' => e = .returned (.int .i64 c) ∧ Below w.heap.size w w') (hc' : ∀ w, Calls Tryd.prog 27 #[.agg #[.int .i64 y', .int .i64 m', .int .i64 d'], .agg #[.int .i64 y, .int .i64 m, .int .i64 d]] w fun e w' => e = .returned (.int .i64 (-c)) ∧ Below w.heap.size w w') (c1 : -1 ≤ c) (c2 : c ≤ 1) (E LT : Bool) (he : (c == 0) = E) (hlt : decide (c < 0) = LT) (hq : ∀ W, (binOp .eql 23 (.agg #[.int .i64 y, .int .i64 m, .int .i64 d]) (.agg #[.int .i64 y', .int .i64 m', .int .i64 d'])).run Tryd.prog W = .ok (.bool E) W) (hbt : ∀ w, Calls Tryd.prog 22 #[.agg #[.int .i64 y, .int .i64 m, .int .i64 d], .agg #[.int .i64 y', .int .i64 m', .int .i64 d']] w fun e w' => e = .returned (.tuple #[.int .i64 0, .int .i64 30]) ∧ Below w.heap.size w w') (hr : ∀ w, Calls Tryd.prog 26 #[.agg #[.int .i64 y, .int .i64 m, .int .i64 d]] w fun e w' => e = .returned (.bool false) ∧ Below w.heap.size w w') (hy1 : decide (0 < k) = true) (hy2 : decide (k < 10000) = true) (B : Bool) (lo : Int) (hle : ∀ w, Calls Tryd.prog 28 #[.int .i64 k] w fun e w' => e = .returned (.bool B) ∧ w = w') (hlo : ∀ w, Calls Tryd.prog 29 #[.int .i64 k] w fun e w' => e = .returned (.int .i64 lo) ∧ w = w') (hlb : (lo == 366) = B) (w : World) (D : Door w) : Calls Tryd.prog 8 #[.agg #[.int .i64 y, .int .i64 m, .int .i64 d], .agg #[.int .i64 y', .int .i64 m', .int .i64 d'], .int .i64 k] w fun e w' => e = .returned (.bool true) ∧ Below w.heap.size w w' := by
  have K0 := hd_box2 D y m d y' m' d' 23 23
  go_enter Tryd.func8, Tryd.ntmps8
  go_wp2_with (fail)
  refine (days_any _ K0.1).mono ?_
  rintro e w1 ⟨rfl, hb⟩
  have K1 := K0.step hb
  clear hb K0
  obtain ⟨y0, z0, x0⟩ := (K1.2.2 (w.heap.size, y, m, d) (by simp)).1
  obtain ⟨y1, z1, x1⟩ := (K1.2.2 (w.heap.size + 1, y', m', d') (by simp)).1
  go_wp2_with (fail)
  refine (hc _).mono ?_
  rintro e w2 ⟨rfl, hb⟩
  have K2 := K1.step hb
  clear hb K1
  clear y0 z0 x0 y1 z1 x1
  obtain ⟨y2, z2, x2⟩ := (K2.2.2 (w.heap.size, y, m, d) (by simp)).1
  obtain ⟨y3, z3, x3⟩ := (K2.2.2 (w.heap.size + 1, y', m', d') (by simp)).1
  go_wp2_with (fail)
  refine (hc' _).mono ?_
  rintro e w3 ⟨rfl, hb⟩
  have K3 := K2.step hb
  clear hb K2
  clear y2 z2 x2 y3 z3 x3
  obtain ⟨y4, z4, x4⟩ := (K3.2.2 (w.heap.size, y, m, d) (by simp)).1
  obtain ⟨y5, z5, x5⟩ := (K3.2.2 (w.heap.size + 1, y', m', d') (by simp)).1
  go_wp2_with (fail)
  refine (hle _).mono ?_
  rintro e w4 ⟨rfl, rfl⟩
  go_wp2_with (fail)
  refine (hlo _).mono ?_
  rintro e w5 ⟨rfl, rfl⟩
  go_wp2_with (fail)
  refine (hbt _).mono ?_
  rintro e w6 ⟨rfl, hb⟩
  have K4 := K3.step hb
  clear hb K3
  clear y4 z4 x4 y5 z5 x5
  obtain ⟨y6, z6, x6⟩ := (K4.2.2 (w.heap.size, y, m, d) (by simp)).1
  go_wp2_with (fail)
  refine (hr _).mono ?_
  rintro e w7 ⟨rfl, hb⟩
  have K5 := K4.step hb
  clear hb K4
  clear y6 z6 x6
  have BE := K5.2.1
  go_wp2
  go_ret
  exact ⟨rfl, BE⟩
set_option maxHeartbeats 1000000 in
theorem ord_nb3 (y m d y' m' d' k c : Int) (hc : ∀ w, Calls Tryd.prog 27 #[.agg #[.int .i64 y, .int .i64 m, .int .i64 d], .agg #[.int .i64 y', .int .i64 m', .int .i64 d']] w fun e w' => e = .returned (.int .i64 c) ∧ Below w.heap.size w w') (hc' : ∀ w, Calls Tryd.prog 27 #[.agg #[.int .i64 y', .int .i64 m', .int .i64 d'], .agg #[.int .i64 y, .int .i64 m, .int .i64 d]] w fun e w' => e = .returned (.int .i64 (-c)) ∧ Below w.heap.size w w') (c1 : -1 ≤ c) (c2 : c ≤ 1) (E LT : Bool) (he : (c == 0) = E) (hlt : decide (c < 0) = LT) (hq : ∀ W, (binOp .eql 23 (.agg #[.int .i64 y, .int .i64 m, .int .i64 d]) (.agg #[.int .i64 y', .int .i64 m', .int .i64 d'])).run Tryd.prog W = .ok (.bool E) W) (hbt : ∀ w, Calls Tryd.prog 22 #[.agg #[.int .i64 y, .int .i64 m, .int .i64 d], .agg #[.int .i64 y', .int .i64 m', .int .i64 d']] w fun e w' => e = .returned (.tuple #[.int .i64 0, .int .i64 30]) ∧ Below w.heap.size w w') (hr : ∀ w, Calls Tryd.prog 26 #[.agg #[.int .i64 y, .int .i64 m, .int .i64 d]] w fun e w' => e = .returned (.bool true) ∧ Below w.heap.size w w') (hr' : ∀ w, Calls Tryd.prog 26 #[.agg #[.int .i64 y', .int .i64 m', .int .i64 d']] w fun e w' => e = .returned (.bool false) ∧ Below w.heap.size w w') (hy1 : decide (0 < k) = true) (hy2 : decide (k < 10000) = true) (B : Bool) (lo : Int) (hle : ∀ w, Calls Tryd.prog 28 #[.int .i64 k] w fun e w' => e = .returned (.bool B) ∧ w = w') (hlo : ∀ w, Calls Tryd.prog 29 #[.int .i64 k] w fun e w' => e = .returned (.int .i64 lo) ∧ w = w') (hlb : (lo == 366) = B) (w : World) (D : Door w) : Calls Tryd.prog 8 #[.agg #[.int .i64 y, .int .i64 m, .int .i64 d], .agg #[.int .i64 y', .int .i64 m', .int .i64 d'], .int .i64 k] w fun e w' => e = .returned (.bool true) ∧ Below w.heap.size w w' := by
  have K0 := hd_box2 D y m d y' m' d' 23 23
  go_enter Tryd.func8, Tryd.ntmps8
  go_wp2_with (fail)
  refine (days_any _ K0.1).mono ?_
  rintro e w1 ⟨rfl, hb⟩
  have K1 := K0.step hb
  clear hb K0
  obtain ⟨y0, z0, x0⟩ := (K1.2.2 (w.heap.size, y, m, d) (by simp)).1
  obtain ⟨y1, z1, x1⟩ := (K1.2.2 (w.heap.size + 1, y', m', d') (by simp)).1
  go_wp2_with (fail)
  refine (hc _).mono ?_
  rintro e w2 ⟨rfl, hb⟩
  have K2 := K1.step hb
  clear hb K1
  clear y0 z0 x0 y1 z1 x1
  obtain ⟨y2, z2, x2⟩ := (K2.2.2 (w.heap.size, y, m, d) (by simp)).1
  obtain ⟨y3, z3, x3⟩ := (K2.2.2 (w.heap.size + 1, y', m', d') (by simp)).1
  go_wp2_with (fail)
  refine (hc' _).mono ?_
  rintro e w3 ⟨rfl, hb⟩
  have K3 := K2.step hb
  clear hb K2
  clear y2 z2 x2 y3 z3 x3
  obtain ⟨y4, z4, x4⟩ := (K3.2.2 (w.heap.size, y, m, d) (by simp)).1
  obtain ⟨y5, z5, x5⟩ := (K3.2.2 (w.heap.size + 1, y', m', d') (by simp)).1
  go_wp2_with (fail)
  refine (hle _).mono ?_
  rintro e w4 ⟨rfl, rfl⟩
  go_wp2_with (fail)
  refine (hlo _).mono ?_
  rintro e w5 ⟨rfl, rfl⟩
  go_wp2_with (fail)
  refine (hbt _).mono ?_
  rintro e w6 ⟨rfl, hb⟩
  have K4 := K3.step hb
  clear hb K3
  clear y4 z4 x4 y5 z5 x5
  obtain ⟨y6, z6, x6⟩ := (K4.2.2 (w.heap.size, y, m, d) (by simp)).1
  go_wp2_with (fail)
  refine (hr _).mono ?_
  rintro e w7 ⟨rfl, hb⟩
  have K5 := K4.step hb
  clear hb K4
  clear y6 z6 x6
  obtain ⟨y7, z7, x7⟩ := (K5.2.2 (w.heap.size + 1, y', m', d') (by simp)).1
  go_wp2_with (fail)
  refine (hr' _).mono ?_
  rintro e w8 ⟨rfl, hb⟩
  have K6 := K5.step hb
  clear hb K5
  clear y7 z7 x7
  have BE := K6.2.1
  go_wp2
  go_ret
  exact ⟨rfl, BE⟩
theorem eq_struct (y m d y' m' d' : Int) (W : World) : (binOp .eql 23 (.agg #[.int .i64 y, .int .i64 m, .int .i64 d]) (.agg #[.int .i64 y', .int .i64 m', .int .i64 d'])).run Tryd.prog W = .ok (.bool (cmp3 y m d y' m' d' == 0)) W := by
  have e : (cmp3 y m d y' m' d' == 0) = decide (y = y' ∧ m = m' ∧ d = d') := by
    rw [Bool.eq_iff_iff, decide_eq_true_iff]; exact cmp3_zero
  rw [e]
  by_cases h1 : y = y'
  · by_cases h2 : m = m'
    · by_cases h3 : d = d' <;> simp [go_sem, h1, h2, h3]
    · simp [go_sem, h1, h2]
  · simp [go_sem, h1]
theorem wDateOrder (y m d y' m' d' k : Int) (w : World) (D : Door w) : Calls Tryd.prog 8 #[.agg #[.int .i64 y, .int .i64 m, .int .i64 d], .agg #[.int .i64 y', .int .i64 m', .int .i64 d'], .int .i64 k] w fun e w' => e = .returned (.bool true) ∧ Below w.heap.size w w' := by
  have hc := compare_int y m d y' m' d'
  have hc' := compare_int y' m' d' y m d
  rw [cmp3_rev y m d y' m' d'] at hc'
  obtain ⟨c1, c2⟩ := cmp3_bd y m d y' m' d'
  have hq := eq_struct y m d y' m' d'
  have hY : ∀ (P : Prop), (decide (0 < k) = false → P) → (decide (0 < k) = true → decide (k < 10000) = false → P) → (decide (0 < k) = true → decide (k < 10000) = true → 1 ≤ k → k ≤ 9999 → P) → P := fun P a b c => by
    by_cases q : 0 < k
    · by_cases r : k < 10000
      · exact c (by simpa using q) (by simpa using r) (by omega) (by omega)
      · exact b (by simpa using q) (by simpa using r)
    · exact a (by simpa using q)
  have hL : ∀ (_ : 1 ≤ k) (_ : k ≤ 9999), ∀ (P : Prop), (∀ (B : Bool) (lo : Int), (∀ w, Calls Tryd.prog 28 #[.int .i64 k] w fun e w' => e = .returned (.bool B) ∧ w = w') → (∀ w, Calls Tryd.prog 29 #[.int .i64 k] w fun e w' => e = .returned (.int .i64 lo) ∧ w = w') → (lo == 366) = B → P) → P := fun h1 h2 P f => by
    have l01 := lp_01 k
    by_cases q : lp k = 1
    · exact f true _ (leap_yes k h1 h2 q) (long_any k h1 h2) (by rw [q]; rfl)
    · exact f false _ (leap_no k h1 h2 (by omega)) (long_any k h1 h2) (by rw [show lp k = 0 by omega]; rfl)
  cases h : dayB y m d
  · have hr := rright_b y m d false h
    have hbt := between_no y m d y' m' d' (.inl h)
    exact hY _ (fun h1 => ord_na1 y m d y' m' d' k _ hc hc' c1 c2 _ _ rfl rfl hq hbt hr h1 w D) (fun h1 h2 => ord_na2 y m d y' m' d' k _ hc hc' c1 c2 _ _ rfl rfl hq hbt hr h1 h2 w D)
      (fun h1 h2 k1 k2 => hL k1 k2 _ fun B lo hle hlo hlb => ord_na3 y m d y' m' d' k _ hc hc' c1 c2 _ _ rfl rfl hq hbt hr h1 h2 B lo hle hlo hlb w D)
  · have hr := rright_b y m d true h
    cases h' : dayB y' m' d'
    · have hr' := rright_b y' m' d' false h'
      have hbt := between_no y m d y' m' d' (.inr h')
      exact hY _ (fun h1 => ord_nb1 y m d y' m' d' k _ hc hc' c1 c2 _ _ rfl rfl hq hbt hr hr' h1 w D) (fun h1 h2 => ord_nb2 y m d y' m' d' k _ hc hc' c1 c2 _ _ rfl rfl hq hbt hr hr' h1 h2 w D)
        (fun h1 h2 k1 k2 => hL k1 k2 _ fun B lo hle hlo hlb => ord_nb3 y m d y' m' d' k _ hc hc' c1 c2 _ _ rfl rfl hq hbt hr hr' h1 h2 B lo hle hlo hlb w D)
    · have hbt := between_yes y m d y' m' d' h h'
      obtain ⟨n0, n1⟩ := cmp3_num h h'
      have ht := text_yes y m d h
      have ht' := text_yes y' m' d' h'
      have hbl : Op.bytesLess (⟨(txtD y m d).toArray⟩ : ByteArray).toList (⟨(txtD y' m' d').toArray⟩ : ByteArray).toList = decide (cmp3 y m d y' m' d' < 0) := by
        rw [list_of, list_of, bl_txt h h']
      exact hY _ (fun h1 => ord_y1 y m d y' m' d' k _ hc hc' c1 c2 _ _ rfl rfl hq _ hbt n0 n1 _ _ ht ht' hbl h1 w D) (fun h1 h2 => ord_y2 y m d y' m' d' k _ hc hc' c1 c2 _ _ rfl rfl hq _ hbt n0 n1 _ _ ht ht' hbl h1 h2 w D)
        (fun h1 h2 k1 k2 => hL k1 k2 _ fun B lo hle hlo hlb => ord_y3 y m d y' m' d' k _ hc hc' c1 c2 _ _ rfl rfl hq _ hbt n0 n1 _ _ ht ht' hbl h1 h2 B lo hle hlo hlb w D)
end Go.Proofs.YtkgfmanolanlhaaDoor
