/- What hold.Recoup answers. -/
import Derived.Test.YtgekojbmlppmdaaHldD
import Derived.Deep.RegionHeld3
namespace Go.Proofs.Ytgekojbmlppmdaa
open Go.RowKit Go.Sort
set_option linter.unusedVariables false
set_option linter.unusedSimpArgs false

/-- how long the slice is that lies there -/
def lenAt (X : World) (p : Nat) : Nat := match X.cell? ⟨p, 0, none⟩ with | some (.slice _ n _) => n | _ => 0
theorem lenAt_of {X : World} {p n c : Nat} {A : Option Addr} (h : X.cell? ⟨p, 0, none⟩ = some (.slice A n c)) : lenAt X p = n := by unfold lenAt; rw [h]
section
variable (a1 a2 a3 : Option Addr) (n1 n2 n3 c1 c2 c3 : Nat)
theorem recoup_long (L R W S c m : Int) (w : World) (h : m < 0 ∨ 600 < m) :
    Calls Try.prog 14 #[.agg #[.slice a1 n1 c1, .slice a2 n2 c2, .slice a3 n3 c3, .int .i64 L, .int .i64 R], .agg #[.int .i64 W, .int .i64 S], .int .i64 c, .int .i64 m] w fun e w' =>
      e = .returned (.tuple #[.agg #[.slice none 0 0, .int .i64 0], .int .i64 2]) ∧ Below w.heap.size w w' := by
  have K : Bx (((w.alloc (.cells #[.slice a1 n1 c1, .slice a2 n2 c2, .slice a3 n3 c3, .int .i64 L, .int .i64 R] 31)).alloc (.cells #[.int .i64 W, .int .i64 S] 23)).alloc (.cells #[.slice none 0 0, .int .i64 0] 50)) (w.heap.size + 1 + 1) 50 [.slice none 0 0, .int .i64 0] := bx_at _ [.slice none 0 0, .int .i64 0] 50 (by simp)
  have B : Below w.heap.size w (((w.alloc (.cells #[.slice a1 n1 c1, .slice a2 n2 c2, .slice a3 n3 c3, .int .i64 L, .int .i64 R] 31)).alloc (.cells #[.int .i64 W, .int .i64 S] 23)).alloc (.cells #[.slice none 0 0, .int .i64 0] 50)) := ((below_new _ _).alloc (by simp) _).alloc (by simp; omega) _
  have z0 := K.cell (i := 0) rfl
  have z1 := K.cell (i := 1) rfl
  have f0 := K.fr 0
  have f1 := K.fr 1
  have key : decide (m < 0) = true ∨ (decide (m < 0) = false ∧ decide (600 < m) = true) := by
    simp only [decide_eq_true_eq, decide_eq_false_iff_not]; omega
  clear h
  rcases key with k1 | ⟨k1, k2⟩
  all_goals
    go_enter Try.func14, Try.ntmps14
    go_wp2
    exact bodyPost_ret (v := .tuple #[.agg #[.slice none 0 0, .int .i64 0], .int .i64 2]) (by simp [results, Try.results14, go_sem]) rfl ⟨rfl, B⟩
/-- what a plan comes to -/
def RcP (w w' : World) (S l m : Int) (e : Ending) : Prop := ∃ (v : Value) (k : Nat), e = .returned (.tuple #[.agg #[v, .int .i64 (rcS S l k)], .int .i64 0]) ∧ Ri w' w.heap.size v (rcL S l k) ∧ (k : Int) ≤ m ∧ (∀ j, j < k → 0 < rcS S l j) ∧ (rcS S l k ≤ 0 ∨ (k : Int) = m ∨ l = 0) ∧ Below w.heap.size w w'
set_option maxHeartbeats 1000000 in
theorem recoup_over (L R W S c m : Int) (w : World) (hm : 0 ≤ m) (hm2 : m ≤ 600) (hW : amtB W = true) (hS : amtB S = true) (hD : amtB (W + S) = false) :
    Calls Try.prog 14 #[.agg #[.slice a1 n1 c1, .slice a2 n2 c2, .slice a3 n3 c3, .int .i64 L, .int .i64 R], .agg #[.int .i64 W, .int .i64 S], .int .i64 c, .int .i64 m] w fun e w' =>
      e = .returned (.tuple #[.agg #[.slice none 0 0, .int .i64 0], .int .i64 10]) ∧ Below w.heap.size w w' := by
  have K1 : Bx (((w.alloc (.cells #[.slice a1 n1 c1, .slice a2 n2 c2, .slice a3 n3 c3, .int .i64 L, .int .i64 R] 31)).alloc (.cells #[.int .i64 W, .int .i64 S] 23)).alloc (.cells #[.slice none 0 0, .int .i64 0] 50)) (w.heap.size + 1) 23 [.int .i64 W, .int .i64 S] := Bx.alloc (bx_at _ [.int .i64 W, .int .i64 S] 23 (by simp)) _
  have K2 : Bx (((w.alloc (.cells #[.slice a1 n1 c1, .slice a2 n2 c2, .slice a3 n3 c3, .int .i64 L, .int .i64 R] 31)).alloc (.cells #[.int .i64 W, .int .i64 S] 23)).alloc (.cells #[.slice none 0 0, .int .i64 0] 50)) (w.heap.size + 1 + 1) 50 [.slice none 0 0, .int .i64 0] := bx_at _ [.slice none 0 0, .int .i64 0] 50 (by simp)
  have B : Below w.heap.size w (((w.alloc (.cells #[.slice a1 n1 c1, .slice a2 n2 c2, .slice a3 n3 c3, .int .i64 L, .int .i64 R] 31)).alloc (.cells #[.int .i64 W, .int .i64 S] 23)).alloc (.cells #[.slice none 0 0, .int .i64 0] 50)) := ((below_new _ _).alloc (by simp) _).alloc (by simp; omega) _
  have hWb := amtB_yes hW
  have hSb := amtB_yes hS
  have k1 : decide (m < 0) = false := by simp; omega
  have k2 : decide (600 < m) = false := by simp; omega
  have du := fun w => due_any W S w (by omega) (by omega)
  have rt := fun (w : World) n hn => right3 W S (W + S) w 2 false (by rw [hD]; simp) n hn
  clear hW hS hD
  generalize hd : W + S = D at *
  clear hd
  go_enter Try.func14, Try.ntmps14
  go_wp2_with (fail)
  generalize ((w.alloc (.cells #[.slice a1 n1 c1, .slice a2 n2 c2, .slice a3 n3 c3, .int .i64 L, .int .i64 R] 31)).alloc (.cells #[.int .i64 W, .int .i64 S] 23)).alloc (.cells #[.slice none 0 0, .int .i64 0] 50) = w1 at *
  have x0 := K1.cell (i := 0) rfl
  have x1 := K1.cell (i := 1) rfl
  have S1 : w1.drew.cell? ⟨w.heap.size + 1, 0, none⟩ = some (.int .i64 W) ∧ w1.drew.cell? ⟨w.heap.size + 1, 1, none⟩ = some (.int .i64 S) ∧ Below w1.heap.size w1 w1.drew := ⟨x0, x1, (Below.refl _ _).drew⟩
  have step : ∀ X Y : World, Below X.heap.size X Y → (X.cell? ⟨w.heap.size + 1, 0, none⟩ = some (.int .i64 W) ∧ X.cell? ⟨w.heap.size + 1, 1, none⟩ = some (.int .i64 S) ∧ Below w1.heap.size w1 X) → (Y.cell? ⟨w.heap.size + 1, 0, none⟩ = some (.int .i64 W) ∧ Y.cell? ⟨w.heap.size + 1, 1, none⟩ = some (.int .i64 S) ∧ Below w1.heap.size w1 Y) := fun X Y hb h => ⟨cell_later hb h.1, cell_later hb h.2.1, below_step h.2.2 hb h.2.2.size⟩
  clear x0 x1
  go_region_held3 (fun X => X.cell? ⟨w.heap.size + 1, 0, none⟩ = some (.int .i64 W) ∧ X.cell? ⟨w.heap.size + 1, 1, none⟩ = some (.int .i64 S) ∧ Below w1.heap.size w1 X)
    ((first | exact S1 | assumption | exact step _ _ hb (by assumption) | exact step _ _ (below_new _ _) (by assumption)))
    (first
      | (go_at_call 11; with_reducible refine (du _).mono ?_; rintro e w6 ⟨rfl, hb⟩)
      | (go_at_call 17; with_reducible refine (rt _ _ rfl).mono ?_; rintro e w7 ⟨rfl, hw⟩; subst hw))
  generalize w6.alloc (.cells #[.int .i64 W, .int .i64 S, .int .i64 D] 2) = w8 at *
  have h9 : w8.cell? ⟨w.heap.size + 1, 0, none⟩ = some (.int .i64 W) ∧ w8.cell? ⟨w.heap.size + 1, 1, none⟩ = some (.int .i64 S) ∧ Below w1.heap.size w1 w8 := by first | assumption | exact ⟨by assumption, by assumption, by assumption⟩
  have P := K2.below h9.2.2
  have B8 := below_step B h9.2.2 B.size
  have f0 := P.fr 0
  have f1 := P.fr 1
  have z0 := P.cell (i := 0) rfl
  have z1 := P.cell (i := 1) rfl
  go_wp2
  have Z := (P.set 0 (.slice none 0 0)).set 1 (.int .i64 0)
  have y0 := Z.cell (i := 0) rfl
  have y1 := Z.cell (i := 1) rfl
  exact bodyPost_ret (v := .tuple #[.agg #[.slice none 0 0, .int .i64 0], .int .i64 10]) (by simp [results, Try.results14, go_sem, y0, y1]) rfl ⟨rfl, (B8.setCell (by show w.heap.size ≤ w.heap.size + 1 + 1; omega) _).setCell (by show w.heap.size ≤ w.heap.size + 1 + 1; omega) _⟩
set_option maxRecDepth 100000 in
set_option maxHeartbeats 4000000 in
theorem recoup_ok (L R W S c m : Int) (w : World) (hm : 0 ≤ m) (hm2 : m ≤ 600) (hW : amtB W = true) (hS : amtB S = true) (hc : amtB c = true) (hr : rateB L = true) (hD : amtB (W + S) = true) :
    Calls Try.prog 14 #[.agg #[.slice a1 n1 c1, .slice a2 n2 c2, .slice a3 n3 c3, .int .i64 L, .int .i64 R], .agg #[.int .i64 W, .int .i64 S], .int .i64 c, .int .i64 m] w fun e w' =>
      RcP w w' S (limV L c) m e := by
  have K1 : Bx (((w.alloc (.cells #[.slice a1 n1 c1, .slice a2 n2 c2, .slice a3 n3 c3, .int .i64 L, .int .i64 R] 31)).alloc (.cells #[.int .i64 W, .int .i64 S] 23)).alloc (.cells #[.slice none 0 0, .int .i64 0] 50)) (w.heap.size + 1) 23 [.int .i64 W, .int .i64 S] := Bx.alloc (bx_at _ [.int .i64 W, .int .i64 S] 23 (by simp)) _
  have K0 : Bx (((w.alloc (.cells #[.slice a1 n1 c1, .slice a2 n2 c2, .slice a3 n3 c3, .int .i64 L, .int .i64 R] 31)).alloc (.cells #[.int .i64 W, .int .i64 S] 23)).alloc (.cells #[.slice none 0 0, .int .i64 0] 50)) w.heap.size 31 [.slice a1 n1 c1, .slice a2 n2 c2, .slice a3 n3 c3, .int .i64 L, .int .i64 R] := ((bx_new w [.slice a1 n1 c1, .slice a2 n2 c2, .slice a3 n3 c3, .int .i64 L, .int .i64 R] 31).alloc _).alloc _
  have K2 : Bx (((w.alloc (.cells #[.slice a1 n1 c1, .slice a2 n2 c2, .slice a3 n3 c3, .int .i64 L, .int .i64 R] 31)).alloc (.cells #[.int .i64 W, .int .i64 S] 23)).alloc (.cells #[.slice none 0 0, .int .i64 0] 50)) (w.heap.size + 1 + 1) 50 [.slice none 0 0, .int .i64 0] := bx_at _ [.slice none 0 0, .int .i64 0] 50 (by simp)
  have B : Below w.heap.size w (((w.alloc (.cells #[.slice a1 n1 c1, .slice a2 n2 c2, .slice a3 n3 c3, .int .i64 L, .int .i64 R] 31)).alloc (.cells #[.int .i64 W, .int .i64 S] 23)).alloc (.cells #[.slice none 0 0, .int .i64 0] 50)) := ((below_new _ _).alloc (by simp) _).alloc (by simp; omega) _
  have hWb := amtB_yes hW
  have hSb := amtB_yes hS
  have k1 : decide (m < 0) = false := by simp; omega
  have k2 : decide (600 < m) = false := by simp; omega
  have du := fun w => due_any W S w (by omega) (by omega)
  have rt := fun (w : World) n hn => right3 W S (W + S) w 2 true (by rw [hW, hS, hD]; rfl) n hn
  have hDb := amtB_yes hD
  have hcb := amtB_yes hc
  have hrb := rateB_yes hr
  have hlim := limV_bd hrb.1 hrb.2 hcb.2
  obtain ⟨i0, hi0, hz0, hz1, hz2⟩ := info_parts infoI64
  have KS : ∀ (T : Int), 0 < T → T ≤ 100000000000 → -100000000000 ≤ W + S - T → ∀ w, Calls Try.prog 9 #[.agg #[.slice a1 n1 c1, .slice a2 n2 c2, .slice a3 n3 c3, .int .i64 L, .int .i64 R], .agg #[.int .i64 (W + S - T), .int .i64 T], .int .i64 c, .int .i64 (W + S), .bool true] w fun e w' =>
      e = .returned (.tuple #[.int .i64 (min T (limV L c)), .agg #[.int .i64 (W + S - (T - min T (limV L c))), .int .i64 (T - min T (limV L c))], .int .i64 0]) ∧ Below w.heap.size w w' := fun T h1 h2 h3 w => by
    have := step_yes a1 a2 a3 n1 n2 n3 c1 c2 c3 L R (W + S - T) T c (W + S) true w (stepE_mk (by rw [show amtB (W + S - T) = true from amtB_mk (by omega) (by omega), show amtB T = true from amtB_mk (by omega) (by omega), hc, hD]; rfl) hr (amtB_mk (by omega) (by omega)))
    have e1 : stepH L (W + S - T) c (W + S) true = min T (limV L c) := by
      unfold stepH partV
      rw [show W + S - (W + S - T) = T by omega, if_neg (by simp)]
    rw [e1, show W + S - (W + S - T) = T by omega, show W + S - T + min T (limV L c) = W + S - (T - min T (limV L c)) by omega] at this
    exact this
  have DU : ∀ (T : Int), 0 < T → T ≤ 100000000000 → -100000000000 ≤ W + S - T → ∀ w, Calls Try.prog 11 #[.agg #[.int .i64 (W + S - T), .int .i64 T]] w fun e w' => e = .returned (.int .i64 (W + S)) ∧ Below w.heap.size w w' := fun T h1 h2 h3 w => by
    have := due_any (W + S - T) T w (by omega) (by omega)
    rw [show W + S - T + T = W + S by omega] at this
    exact this
  clear hW hS hD hc hr
  have hWD : W = W + S - S := by omega
  generalize limV L c = l at *
  generalize hd : W + S = D at *
  clear hd
  have HWD := Lib.hid hWD
  clear hWD
  go_enter Try.func14, Try.ntmps14
  go_wp2_with (fail)
  generalize ((w.alloc (.cells #[.slice a1 n1 c1, .slice a2 n2 c2, .slice a3 n3 c3, .int .i64 L, .int .i64 R] 31)).alloc (.cells #[.int .i64 W, .int .i64 S] 23)).alloc (.cells #[.slice none 0 0, .int .i64 0] 50) = w1 at *
  have x0 := K1.cell (i := 0) rfl
  have x1 := K1.cell (i := 1) rfl
  have S1 : w1.drew.cell? ⟨w.heap.size + 1, 0, none⟩ = some (.int .i64 W) ∧ w1.drew.cell? ⟨w.heap.size + 1, 1, none⟩ = some (.int .i64 S) ∧ Below w1.heap.size w1 w1.drew := ⟨x0, x1, (Below.refl _ _).drew⟩
  have step : ∀ X Y : World, Below X.heap.size X Y → (X.cell? ⟨w.heap.size + 1, 0, none⟩ = some (.int .i64 W) ∧ X.cell? ⟨w.heap.size + 1, 1, none⟩ = some (.int .i64 S) ∧ Below w1.heap.size w1 X) → (Y.cell? ⟨w.heap.size + 1, 0, none⟩ = some (.int .i64 W) ∧ Y.cell? ⟨w.heap.size + 1, 1, none⟩ = some (.int .i64 S) ∧ Below w1.heap.size w1 Y) := fun X Y hb h => ⟨cell_later hb h.1, cell_later hb h.2.1, below_step h.2.2 hb h.2.2.size⟩
  clear x0 x1
  go_region_held3 (fun X => X.cell? ⟨w.heap.size + 1, 0, none⟩ = some (.int .i64 W) ∧ X.cell? ⟨w.heap.size + 1, 1, none⟩ = some (.int .i64 S) ∧ Below w1.heap.size w1 X)
    ((first | exact S1 | assumption | exact step _ _ hb (by assumption) | exact step _ _ (below_new _ _) (by assumption)))
    (first
      | (go_at_call 11; with_reducible refine (du _).mono ?_; rintro e w6 ⟨rfl, hb⟩)
      | (go_at_call 17; with_reducible refine (rt _ _ rfl).mono ?_; rintro e w7 ⟨rfl, hw⟩; subst hw))
  generalize w6.alloc (.cells #[.int .i64 W, .int .i64 S, .int .i64 D] 2) = w8 at *
  have h9 : w8.cell? ⟨w.heap.size + 1, 0, none⟩ = some (.int .i64 W) ∧ w8.cell? ⟨w.heap.size + 1, 1, none⟩ = some (.int .i64 S) ∧ Below w1.heap.size w1 w8 := by first | assumption | exact ⟨by assumption, by assumption, by assumption⟩
  have P0 := K0.below h9.2.2
  have P1 := K1.below h9.2.2
  have P2 := K2.below h9.2.2
  have B8 := below_step B h9.2.2 B.size
  have Np := below_new w8 (.cells #[.slice none 0 0, .int .i64 0] 50)
  have P3 := bx_new w8 [.slice none 0 0, .int .i64 0] 50
  have B9 := below_step B8 Np B8.size
  have P0 := P0.below Np
  have P1 := P1.below Np
  have P2 := P2.below Np
  have hp : w.heap.size + 1 + 1 < w8.heap.size := (K2.below h9.2.2).lt
  clear K0 K1 K2 B h9 B8 S1 step du rt
  go_wp2_with (fail)
  generalize hw9 : w8.alloc (.cells #[.slice none 0 0, .int .i64 0] 50) = w9 at *
  have hs9 : w9.heap.size = w8.heap.size + 1 := by rw [← hw9]; simp
  clear hw9
  generalize w8.heap.size = p at *
  clear Np
  rw [HWD.out] at P1
  go_loopw [] (fun X => ∃ (i : Nat) (A : Option Addr) (cA : Nat), (i : Int) ≤ m ∧ (∀ j, j < i → 0 < rcS S l j) ∧ Bx X w.heap.size 31 [.slice a1 n1 c1, .slice a2 n2 c2, .slice a3 n3 c3, .int .i64 L, .int .i64 R] ∧ Bx X (w.heap.size + 1) 23 [.int .i64 (D - rcS S l i), .int .i64 (rcS S l i)] ∧ Bx X (w.heap.size + 1 + 1) 50 [.slice none 0 0, .int .i64 0] ∧ Bx X p 50 [.slice A i cA, .int .i64 0] ∧ X.ownsRow (p + 1) 2 1 (.slice A i cA) i (ints (rcL S l i)) ∧ Below w.heap.size w X) (fun X => m.toNat - lenAt X p)
  case atStart => exact ⟨0, none, 0, hm, (fun j hj => absurd hj (Nat.not_lt_zero _)), P0, P1, P2, P3, World.ownsRow_nil _ _ _ _, B9⟩
  case round =>
    clear P0 P1 P2 P3 B9
    obtain ⟨i, A, cA, him, hpos, Q0, Q1, Q2, Q3, hown, hb⟩ := hrel
    have hS0 : 0 < rcS S l i → 0 ≤ S := fun h => by
      rcases Nat.eq_zero_or_pos i with h0 | h0
      · subst h0; exact Int.le_of_lt h
      · exact Int.le_of_lt (hpos 0 h0)
    have hlen := rcL_len S l i
    by_cases hT : 0 < rcS S l i
    · by_cases hlt : (i : Int) < m
      · have hTS := (rcS_bd (S := S) (l := l) (hS0 hT) hlim.1 i).2
        have hDT : -100000000000 ≤ D - rcS S l i := by have := HWD.out; omega
        have kS := KS (rcS S l i) hT (by omega) hDT
        have kD := DU (rcS S l i) hT (by omega) hDT
        have HN : Hid (rcS S l (i + 1) = rcS S l i - min (rcS S l i) l) := Lib.hid rfl
        have HLN := Lib.hid (rcL_succ S l i)
        have HPN : Hid (∀ j, j < i + 1 → 0 < rcS S l j) := Lib.hid fun j hj => by
          rcases Nat.lt_or_ge j i with h | h
          · exact hpos j h
          · obtain rfl : j = i := by omega
            exact hT
        have hx0 : min (rcS S l i) l = 0 → l = 0 := by omega
        have HX0 := Lib.hid hx0
        clear KS DU hS0 hpos hx0
        generalize rcS S l i = T at *
        generalize rcL S l i = ls at *
        generalize D - T = V at *
        generalize min T l = x at *
        generalize hT2 : T - x = T2 at *
        generalize hV2 : D - T2 = V2 at *
        have HV2 := Lib.hid hV2
        clear hT2 hV2 hTS hDT
        have t0 := Q0.cell (i := 0) rfl
        have t1 := Q0.cell (i := 1) rfl
        have t2 := Q0.cell (i := 2) rfl
        have t3 := Q0.cell (i := 3) rfl
        have t4 := Q0.cell (i := 4) rfl
        have s0 := Q1.cell (i := 0) rfl
        have s1 := Q1.cell (i := 1) rfl
        have p0 := Q3.cell (i := 0) rfl
        go_wp2_with (fail)
        have S1 : wr.drew.cell? ⟨w.heap.size, 0, none⟩ = some (.slice a1 n1 c1) ∧ wr.drew.cell? ⟨w.heap.size, 1, none⟩ = some (.slice a2 n2 c2) ∧ wr.drew.cell? ⟨w.heap.size, 2, none⟩ = some (.slice a3 n3 c3) ∧ wr.drew.cell? ⟨w.heap.size, 3, none⟩ = some (.int .i64 L) ∧ wr.drew.cell? ⟨w.heap.size, 4, none⟩ = some (.int .i64 R) ∧ wr.drew.cell? ⟨w.heap.size + 1, 0, none⟩ = some (.int .i64 V) ∧ wr.drew.cell? ⟨w.heap.size + 1, 1, none⟩ = some (.int .i64 T) ∧ Below wr.heap.size wr wr.drew := ⟨t0, t1, t2, t3, t4, s0, s1, (Below.refl _ _).drew⟩
        have step : ∀ X Y : World, Below X.heap.size X Y → (X.cell? ⟨w.heap.size, 0, none⟩ = some (.slice a1 n1 c1) ∧ X.cell? ⟨w.heap.size, 1, none⟩ = some (.slice a2 n2 c2) ∧ X.cell? ⟨w.heap.size, 2, none⟩ = some (.slice a3 n3 c3) ∧ X.cell? ⟨w.heap.size, 3, none⟩ = some (.int .i64 L) ∧ X.cell? ⟨w.heap.size, 4, none⟩ = some (.int .i64 R) ∧ X.cell? ⟨w.heap.size + 1, 0, none⟩ = some (.int .i64 V) ∧ X.cell? ⟨w.heap.size + 1, 1, none⟩ = some (.int .i64 T) ∧ Below wr.heap.size wr X) → (Y.cell? ⟨w.heap.size, 0, none⟩ = some (.slice a1 n1 c1) ∧ Y.cell? ⟨w.heap.size, 1, none⟩ = some (.slice a2 n2 c2) ∧ Y.cell? ⟨w.heap.size, 2, none⟩ = some (.slice a3 n3 c3) ∧ Y.cell? ⟨w.heap.size, 3, none⟩ = some (.int .i64 L) ∧ Y.cell? ⟨w.heap.size, 4, none⟩ = some (.int .i64 R) ∧ Y.cell? ⟨w.heap.size + 1, 0, none⟩ = some (.int .i64 V) ∧ Y.cell? ⟨w.heap.size + 1, 1, none⟩ = some (.int .i64 T) ∧ Below wr.heap.size wr Y) := fun X Y hb h => ⟨cell_later hb h.1, cell_later hb h.2.1, cell_later hb h.2.2.1, cell_later hb h.2.2.2.1, cell_later hb h.2.2.2.2.1, cell_later hb h.2.2.2.2.2.1, cell_later hb h.2.2.2.2.2.2.1, below_step h.2.2.2.2.2.2.2 hb h.2.2.2.2.2.2.2.size⟩
        have hq0 := Q0.lt
        have hq1 := Q1.lt
        have stp : ∀ (X : World) (q j : Nat) (u : Value), wr.heap.size ≤ q → (X.cell? ⟨w.heap.size, 0, none⟩ = some (.slice a1 n1 c1) ∧ X.cell? ⟨w.heap.size, 1, none⟩ = some (.slice a2 n2 c2) ∧ X.cell? ⟨w.heap.size, 2, none⟩ = some (.slice a3 n3 c3) ∧ X.cell? ⟨w.heap.size, 3, none⟩ = some (.int .i64 L) ∧ X.cell? ⟨w.heap.size, 4, none⟩ = some (.int .i64 R) ∧ X.cell? ⟨w.heap.size + 1, 0, none⟩ = some (.int .i64 V) ∧ X.cell? ⟨w.heap.size + 1, 1, none⟩ = some (.int .i64 T) ∧ Below wr.heap.size wr X) → ((X.setCell ⟨q, j, none⟩ u).cell? ⟨w.heap.size, 0, none⟩ = some (.slice a1 n1 c1) ∧ (X.setCell ⟨q, j, none⟩ u).cell? ⟨w.heap.size, 1, none⟩ = some (.slice a2 n2 c2) ∧ (X.setCell ⟨q, j, none⟩ u).cell? ⟨w.heap.size, 2, none⟩ = some (.slice a3 n3 c3) ∧ (X.setCell ⟨q, j, none⟩ u).cell? ⟨w.heap.size, 3, none⟩ = some (.int .i64 L) ∧ (X.setCell ⟨q, j, none⟩ u).cell? ⟨w.heap.size, 4, none⟩ = some (.int .i64 R) ∧ (X.setCell ⟨q, j, none⟩ u).cell? ⟨w.heap.size + 1, 0, none⟩ = some (.int .i64 V) ∧ (X.setCell ⟨q, j, none⟩ u).cell? ⟨w.heap.size + 1, 1, none⟩ = some (.int .i64 T) ∧ Below wr.heap.size wr (X.setCell ⟨q, j, none⟩ u)) := fun X q j u hq h => ⟨(World.cell?_setCell_other _ _ _ _ (by show ¬ _; intro e; have := congrArg Addr.block e; dsimp only at this; omega)).trans h.1, (World.cell?_setCell_other _ _ _ _ (by show ¬ _; intro e; have := congrArg Addr.block e; dsimp only at this; omega)).trans h.2.1, (World.cell?_setCell_other _ _ _ _ (by show ¬ _; intro e; have := congrArg Addr.block e; dsimp only at this; omega)).trans h.2.2.1, (World.cell?_setCell_other _ _ _ _ (by show ¬ _; intro e; have := congrArg Addr.block e; dsimp only at this; omega)).trans h.2.2.2.1, (World.cell?_setCell_other _ _ _ _ (by show ¬ _; intro e; have := congrArg Addr.block e; dsimp only at this; omega)).trans h.2.2.2.2.1, (World.cell?_setCell_other _ _ _ _ (by show ¬ _; intro e; have := congrArg Addr.block e; dsimp only at this; omega)).trans h.2.2.2.2.2.1, (World.cell?_setCell_other _ _ _ _ (by show ¬ _; intro e; have := congrArg Addr.block e; dsimp only at this; omega)).trans h.2.2.2.2.2.2.1, h.2.2.2.2.2.2.2.setCell (p := ⟨q, j, none⟩) hq u⟩
        clear t0 t1 t2 t3 t4 s0 s1
        go_region_held3 (fun X => X.cell? ⟨w.heap.size, 0, none⟩ = some (.slice a1 n1 c1) ∧ X.cell? ⟨w.heap.size, 1, none⟩ = some (.slice a2 n2 c2) ∧ X.cell? ⟨w.heap.size, 2, none⟩ = some (.slice a3 n3 c3) ∧ X.cell? ⟨w.heap.size, 3, none⟩ = some (.int .i64 L) ∧ X.cell? ⟨w.heap.size, 4, none⟩ = some (.int .i64 R) ∧ X.cell? ⟨w.heap.size + 1, 0, none⟩ = some (.int .i64 V) ∧ X.cell? ⟨w.heap.size + 1, 1, none⟩ = some (.int .i64 T) ∧ Below wr.heap.size wr X)
          ((first | exact S1 | assumption | exact step _ _ hb6 (by assumption) | exact step _ _ hb7 (by assumption) | exact step _ _ (below_new _ _) (by assumption) | exact step _ _ (below_new _ _) S7 | exact stp _ _ _ _ hnb (stp _ _ _ _ hnb (by assumption)) | exact stp _ _ _ _ hn6 (stp _ _ _ _ hn6 (by assumption))))
          (first
            | (go_at_call 11; with_reducible refine (kD _).mono ?_; rintro e w6 ⟨rfl, hb6⟩; (try have En : Bx w6 wr.heap.size 23 [.int .i64 0, .int .i64 0] := (by first | exact (bx_at wr.drew [.int .i64 0, .int .i64 0] 23 rfl).below hb6 | exact Bx.below (W := (wr.alloc (.cells #[.int .i64 0, .int .i64 0] 23)).drew) ((bx_new wr [.int .i64 0, .int .i64 0] 23).of_block rfl) hb6)); have hn6 : wr.heap.size ≤ w6.heap.size := (by first | exact hb6.size | (have := hb6.size; simp at this; omega)); have hnb := Nat.le_refl wr.heap.size)
            | (go_at_call 9; with_reducible refine (kS _).mono ?_; rintro e w7 ⟨rfl, hb7⟩; have S7 := step _ _ hb7 (by assumption); (try have Fn := (bx_new w6 [.int .i64 0, .int .i64 0] 23).below hb7); (try have Fn := En.below hb7); (try have fn0 := Fn.fr 0); (try have fn1 := Fn.fr 1); (try have fn2 := Fn.cell (i := 0) rfl); (try have fn3 := Fn.cell (i := 1) rfl)))
        · have hnx : wr.heap.size ≤ w7.heap.size := S7.2.2.2.2.2.2.2.size
          have Nx := bx_new w7 [.int .i64 V2, .int .i64 T2] 23
          have Bf := below_step S7.2.2.2.2.2.2.2 (below_new w7 (.cells #[.int .i64 V2, .int .i64 T2] 23)) hnx
          have Hm := Lib.hid (lenAt_of (X := wr) (p := p) p0)
          clear S1 step stp S7 p0
          generalize w7.alloc (.cells #[.int .i64 V2, .int .i64 T2] 23) = wf at *
          generalize w7.heap.size = nb at *
          have F0 := Q0.below Bf
          have F1 := Q1.below Bf
          have F2 := Q2.below Bf
          have F3 := Q3.below Bf
          have fown := own_below hown Bf
          have fb := below_step hb Bf hb.size
          have hls : ls.length = i := hlen
          have hnbl := Nx.lt
          have hp3 : p < wr.heap.size := Q3.lt
          have hob : ∀ k, (Value.slice A i cA).ownBlock = some k → p + 1 ≤ k ∧ k < wr.heap.size := fun k hk => ⟨(hown.lt k hk).1, (hown.lt k hk).2⟩
          have hO : ∀ X, Below wf.heap.size wf X → X.ownsRow (p + 1) 2 1 (.slice A i cA) i (ints ls) := fun X h => own_below fown h
          have hone : ∀ u ∈ [Value.int .i64 x], u.oneCell' = true := by simp [Value.oneCell']
          have hi6 : i + 1 ≤ 600 := by omega
          have hc3 : i + 1 ≤ maxLen := by unfold maxLen; omega
          have hc4 : (i + 1) * 8 ≤ 140737488355328 := by omega
          have hB : ∀ X, Below wf.heap.size wf X → p + 1 ≤ X.heap.size := fun X h => by have := h.size; omega
          have hF : ∀ X w9, Below wf.heap.size wf X → X.grownBy w9 (Value.slice A i cA).ownBlock → Bx w9 nb 23 [.int .i64 V2, .int .i64 T2] ∧ Bx w9 w.heap.size 31 [.slice a1 n1 c1, .slice a2 n2 c2, .slice a3 n3 c3, .int .i64 L, .int .i64 R] ∧ Bx w9 (w.heap.size + 1) 23 [.int .i64 V, .int .i64 T] ∧ Bx w9 (w.heap.size + 1 + 1) 50 [.slice none 0 0, .int .i64 0] ∧ Bx w9 p 50 [.slice A i cA, .int .i64 0] ∧ Below w.heap.size w w9 := fun X w9 hb hg => by
            have hs := hb.size
            have far : ∀ q, q < wf.heap.size → (q < p + 1 ∨ wr.heap.size ≤ q) → w9.heap[q]? = X.heap[q]? := fun q hq hh => hg.block q (by omega) (fun e => by have := hob q e.symm; omega)
            have l0 := F0.lt
            have l1 := F1.lt
            have l2 := F2.lt
            have l3 := F3.lt
            exact ⟨(Nx.below hb).of_block (far _ (by omega) (by omega)), (F0.below hb).of_block (far _ (by omega) (by omega)), (F1.below hb).of_block (far _ (by omega) (by omega)), (F2.below hb).of_block (far _ (by omega) (by omega)), (F3.below hb).of_block (far _ (by omega) (by omega)), (below_step fb hb fb.size).grown hg (by have := fb.size; omega) (fun k hk => by have := (hob k hk).1; omega)⟩
          have x0 := Nx.cell (i := 0) rfl
          have x1 := Nx.cell (i := 1) rfl
          have x2 := F3.cell (i := 0) rfl
          have x3 := F3.cell (i := 1) rfl
          have x4 := F1.cell (i := 0) rfl
          have x5 := F1.cell (i := 1) rfl
          have xe : ∀ q j (u : Value), wf.cell? ⟨q, j, none⟩ = some u → q < wf.heap.size → (wf.alloc (.cells #[.int .i64 x] 2)).drew.cell? ⟨q, j, none⟩ = some u := fun q j u h hq => (((below_new wf _).drew).cell hq).trans h
          have xe0 := xe _ _ _ x0 hnbl
          have xe1 := xe _ _ _ x1 hnbl
          have xe2 := xe _ _ _ x2 F3.lt
          clear xe
          go_wp2
          clear Q0 Q1 Q2 Q3 hown hb
          go_region_law (refine step_append_lies _ (by rfl) (.tmp 57) (.tmp 59) 39 (by rfl) (p + 1) 2 i0 (.int .i64 0) 1 8 Try.underlying39 hi0 hz0 hz1 hz2 (by rfl) (by decide) (.slice A i cA) i (ints ls) (by rfl) (hO _ (by first | exact Below.alloc (Below.refl _ _) (Nat.le_refl _) _ | exact ((Below.refl _ _).drew).alloc (Nat.le_refl _) _ | exact ((Below.refl _ _).alloc (Nat.le_refl _) _).drew)) ⟨wf.heap.size, 0, none⟩ 1 1 [.int .i64 x] (by rfl) (by rfl) (cell_one_at _ _ _ rfl) hone (by decide) hc3 hc4 (hB _ (by first | exact Below.alloc (Below.refl _ _) (Nat.le_refl _) _ | exact ((Below.refl _ _).drew).alloc (Nat.le_refl _) _ | exact ((Below.refl _ _).alloc (Nat.le_refl _) _).drew)) _ rfl ?_; intro g9 cap9 w9 hown9 hgrow hat hlt9; obtain ⟨V3, V0, V1, V2_, VP, VB⟩ := hF _ _ (by first | exact Below.alloc (Below.refl _ _) (Nat.le_refl _) _ | exact ((Below.refl _ _).drew).alloc (Nat.le_refl _) _ | exact ((Below.refl _ _).alloc (Nat.le_refl _) _).drew) hgrow; have y0 := V3.cell (i := 0) rfl; have y1 := V3.cell (i := 1) rfl; have y2 := V1.cell (i := 0) rfl; have y3 := V1.cell (i := 1) rfl; have y4 := V1.fr 0; have y5 := V1.fr 1; have y6 := VP.cell (i := 0) rfl; have y7 := VP.fr 0; have y8 := VP.cell (i := 1) rfl; have y9 := VP.fr 1)
          all_goals
            have hlp : w.heap.size + 1 + 1 < p := hp
            have Z3 := ((VP.set 0 (.slice (some ⟨g9, 0, none⟩) (i + 1) cap9)).other (q := w.heap.size + 1) (by omega) 0 (.int .i64 V2)).other (q := w.heap.size + 1) (by omega) 1 (.int .i64 T2)
            have Z0 := ((V0.other (q := p) (by omega) 0 (.slice (some ⟨g9, 0, none⟩) (i + 1) cap9)).other (q := w.heap.size + 1) (by omega) 0 (.int .i64 V2)).other (q := w.heap.size + 1) (by omega) 1 (.int .i64 T2)
            have Z1 := ((V1.other (q := p) (by omega) 0 (.slice (some ⟨g9, 0, none⟩) (i + 1) cap9)).set 0 (.int .i64 V2)).set 1 (.int .i64 T2)
            have Z2 := ((V2_.other (q := p) (by omega) 0 (.slice (some ⟨g9, 0, none⟩) (i + 1) cap9)).other (q := w.heap.size + 1) (by omega) 0 (.int .i64 V2)).other (q := w.heap.size + 1) (by omega) 1 (.int .i64 T2)
            have ZO := own_other (own_other (own_other hown9 (show p < p + 1 by omega) 0 (.slice (some ⟨g9, 0, none⟩) (i + 1) cap9)) (show w.heap.size + 1 < p + 1 by omega) 0 (.int .i64 V2)) (show w.heap.size + 1 < p + 1 by omega) 1 (.int .i64 T2)
            have ZB := ((VB.setCell (p := ⟨p, 0, none⟩) (by show w.heap.size ≤ p; omega) (.slice (some ⟨g9, 0, none⟩) (i + 1) cap9)).setCell (p := ⟨w.heap.size + 1, 0, none⟩) (by show w.heap.size ≤ w.heap.size + 1; omega) (.int .i64 V2)).setCell (p := ⟨w.heap.size + 1, 1, none⟩) (by show w.heap.size ≤ w.heap.size + 1; omega) (.int .i64 T2)
            clear x0 x1 x2 x3 x4 x5 xe0 xe1 xe2 y0 y1 y2 y3 y4 y5 y6 y7 y8 y9 V0 V1 V2_ V3 VP VB hown9 hgrow hF hB hO F0 F1 F2 F3 fown fb Nx Bf hob
            generalize ((w9.setCell ⟨p, 0, none⟩ (.slice (some ⟨g9, 0, none⟩) (i + 1) cap9)).setCell ⟨w.heap.size + 1, 0, none⟩ (.int .i64 V2)).setCell ⟨w.heap.size + 1, 1, none⟩ (.int .i64 T2) = wz at *
            have ZOI : wz.ownsRow (p + 1) 2 1 (.slice (some ⟨g9, 0, none⟩) (i + 1) cap9) (i + 1) (ints (ls ++ [x])) := by rw [ints_app]; exact ZO
            have HM2 := Lib.hid (lenAt_of (X := wz) (p := p) (Z3.cell (i := 0) rfl))
            have key : (x == 0) = true ∨ (x == 0) = false := by cases hxx : (x == 0) <;> simp
            rcases key with hx | hx
            · have hl0 : l = 0 := HX0.out (by simpa using hx)
              have HL0 := Lib.hid hl0
              clear hl0 ZO
              have fs1 := Z1.cell (i := 1) rfl
              have fp0 := Z3.cell (i := 0) rfl
              have fp1 := Z3.cell (i := 1) rfl
              have fp2 := Z3.fr 1
              have fq0 := Z2.cell (i := 0) rfl
              have fq1 := Z2.cell (i := 1) rfl
              have fq2 := Z2.fr 0
              have fq3 := Z2.fr 1
              go_wp2
              have hne : p ≠ w.heap.size + 1 + 1 := by omega
              have Z2 := ((Z2.other (q := p) hne 1 (.int .i64 T2)).set 0 (.slice (some ⟨g9, 0, none⟩) (i + 1) cap9)).set 1 (.int .i64 T2)
              have z0 := Z2.cell (i := 0) rfl
              have z1 := Z2.cell (i := 1) rfl
              have ZO := own_other (own_other (own_other ZOI (show p < p + 1 by omega) 1 (.int .i64 T2)) (show w.heap.size + 1 + 1 < p + 1 by omega) 0 (.slice (some ⟨g9, 0, none⟩) (i + 1) cap9)) (show w.heap.size + 1 + 1 < p + 1 by omega) 1 (.int .i64 T2)
              have ZB := ((ZB.setCell (p := ⟨p, 1, none⟩) (by show w.heap.size ≤ p; omega) (.int .i64 T2)).setCell (p := ⟨w.heap.size + 1 + 1, 0, none⟩) (by show w.heap.size ≤ w.heap.size + 1 + 1; omega) (.slice (some ⟨g9, 0, none⟩) (i + 1) cap9)).setCell (p := ⟨w.heap.size + 1 + 1, 1, none⟩) (by show w.heap.size ≤ w.heap.size + 1 + 1; omega) (.int .i64 T2)
              exact bodyPost_ret (v := .tuple #[.agg #[.slice (some ⟨g9, 0, none⟩) (i + 1) cap9, .int .i64 T2], .int .i64 0]) (by simp [results, Try.results14, go_sem, z0, z1]) rfl ⟨.slice (some ⟨g9, 0, none⟩) (i + 1) cap9, (i + 1), by rw [HN.out], by unfold Ri; rw [rcL_len, HLN.out]; exact own_mono ZO (by omega), (by omega), HPN.out, .inr (.inr HL0.out), ZB⟩
            · clear ZO
              go_wp2
              go_roundw
              case rel => exact ⟨i + 1, some ⟨g9, 0, none⟩, cap9, by omega, HPN.out, Z0, by rw [HN.out, HV2.out]; exact Z1, Z2, Z3, by rw [HLN.out]; exact ZOI, ZB⟩
              case measure => rw [HM2.out, Hm.out]; omega
        · have hnx : wr.heap.size ≤ w6.heap.size := hn6
          have Nx := (Fn.set 0 (.int .i64 V2)).set 1 (.int .i64 T2)
          have Bf := (S7.2.2.2.2.2.2.2.setCell (p := ⟨w6.heap.size, 0, none⟩) hn6 (.int .i64 V2)).setCell (p := ⟨w6.heap.size, 1, none⟩) hn6 (.int .i64 T2)
          have Hm := Lib.hid (lenAt_of (X := wr) (p := p) p0)
          clear S1 step stp S7 p0 fn0 fn1 fn2 fn3 Fn
          generalize (w7.setCell ⟨w6.heap.size, 0, none⟩ (.int .i64 V2)).setCell ⟨w6.heap.size, 1, none⟩ (.int .i64 T2) = wf at *
          generalize w6.heap.size = nb at *
          have F0 := Q0.below Bf
          have F1 := Q1.below Bf
          have F2 := Q2.below Bf
          have F3 := Q3.below Bf
          have fown := own_below hown Bf
          have fb := below_step hb Bf hb.size
          have hls : ls.length = i := hlen
          have hnbl := Nx.lt
          have hp3 : p < wr.heap.size := Q3.lt
          have hob : ∀ k, (Value.slice A i cA).ownBlock = some k → p + 1 ≤ k ∧ k < wr.heap.size := fun k hk => ⟨(hown.lt k hk).1, (hown.lt k hk).2⟩
          have hO : ∀ X, Below wf.heap.size wf X → X.ownsRow (p + 1) 2 1 (.slice A i cA) i (ints ls) := fun X h => own_below fown h
          have hone : ∀ u ∈ [Value.int .i64 x], u.oneCell' = true := by simp [Value.oneCell']
          have hi6 : i + 1 ≤ 600 := by omega
          have hc3 : i + 1 ≤ maxLen := by unfold maxLen; omega
          have hc4 : (i + 1) * 8 ≤ 140737488355328 := by omega
          have hB : ∀ X, Below wf.heap.size wf X → p + 1 ≤ X.heap.size := fun X h => by have := h.size; omega
          have hF : ∀ X w9, Below wf.heap.size wf X → X.grownBy w9 (Value.slice A i cA).ownBlock → Bx w9 nb 23 [.int .i64 V2, .int .i64 T2] ∧ Bx w9 w.heap.size 31 [.slice a1 n1 c1, .slice a2 n2 c2, .slice a3 n3 c3, .int .i64 L, .int .i64 R] ∧ Bx w9 (w.heap.size + 1) 23 [.int .i64 V, .int .i64 T] ∧ Bx w9 (w.heap.size + 1 + 1) 50 [.slice none 0 0, .int .i64 0] ∧ Bx w9 p 50 [.slice A i cA, .int .i64 0] ∧ Below w.heap.size w w9 := fun X w9 hb hg => by
            have hs := hb.size
            have far : ∀ q, q < wf.heap.size → (q < p + 1 ∨ wr.heap.size ≤ q) → w9.heap[q]? = X.heap[q]? := fun q hq hh => hg.block q (by omega) (fun e => by have := hob q e.symm; omega)
            have l0 := F0.lt
            have l1 := F1.lt
            have l2 := F2.lt
            have l3 := F3.lt
            exact ⟨(Nx.below hb).of_block (far _ (by omega) (by omega)), (F0.below hb).of_block (far _ (by omega) (by omega)), (F1.below hb).of_block (far _ (by omega) (by omega)), (F2.below hb).of_block (far _ (by omega) (by omega)), (F3.below hb).of_block (far _ (by omega) (by omega)), (below_step fb hb fb.size).grown hg (by have := fb.size; omega) (fun k hk => by have := (hob k hk).1; omega)⟩
          have x0 := Nx.cell (i := 0) rfl
          have x1 := Nx.cell (i := 1) rfl
          have x2 := F3.cell (i := 0) rfl
          have x3 := F3.cell (i := 1) rfl
          have x4 := F1.cell (i := 0) rfl
          have x5 := F1.cell (i := 1) rfl
          have xe : ∀ q j (u : Value), wf.cell? ⟨q, j, none⟩ = some u → q < wf.heap.size → (wf.alloc (.cells #[.int .i64 x] 2)).drew.cell? ⟨q, j, none⟩ = some u := fun q j u h hq => (((below_new wf _).drew).cell hq).trans h
          have xe0 := xe _ _ _ x0 hnbl
          have xe1 := xe _ _ _ x1 hnbl
          have xe2 := xe _ _ _ x2 F3.lt
          clear xe
          go_wp2
          clear Q0 Q1 Q2 Q3 hown hb
          go_region_law (refine step_append_lies _ (by rfl) (.tmp 57) (.tmp 59) 39 (by rfl) (p + 1) 2 i0 (.int .i64 0) 1 8 Try.underlying39 hi0 hz0 hz1 hz2 (by rfl) (by decide) (.slice A i cA) i (ints ls) (by rfl) (hO _ (by first | exact Below.alloc (Below.refl _ _) (Nat.le_refl _) _ | exact ((Below.refl _ _).drew).alloc (Nat.le_refl _) _ | exact ((Below.refl _ _).alloc (Nat.le_refl _) _).drew)) ⟨wf.heap.size, 0, none⟩ 1 1 [.int .i64 x] (by rfl) (by rfl) (cell_one_at _ _ _ rfl) hone (by decide) hc3 hc4 (hB _ (by first | exact Below.alloc (Below.refl _ _) (Nat.le_refl _) _ | exact ((Below.refl _ _).drew).alloc (Nat.le_refl _) _ | exact ((Below.refl _ _).alloc (Nat.le_refl _) _).drew)) _ rfl ?_; intro g9 cap9 w9 hown9 hgrow hat hlt9; obtain ⟨V3, V0, V1, V2_, VP, VB⟩ := hF _ _ (by first | exact Below.alloc (Below.refl _ _) (Nat.le_refl _) _ | exact ((Below.refl _ _).drew).alloc (Nat.le_refl _) _ | exact ((Below.refl _ _).alloc (Nat.le_refl _) _).drew) hgrow; have y0 := V3.cell (i := 0) rfl; have y1 := V3.cell (i := 1) rfl; have y2 := V1.cell (i := 0) rfl; have y3 := V1.cell (i := 1) rfl; have y4 := V1.fr 0; have y5 := V1.fr 1; have y6 := VP.cell (i := 0) rfl; have y7 := VP.fr 0; have y8 := VP.cell (i := 1) rfl; have y9 := VP.fr 1)
          all_goals
            have hlp : w.heap.size + 1 + 1 < p := hp
            have Z3 := ((VP.set 0 (.slice (some ⟨g9, 0, none⟩) (i + 1) cap9)).other (q := w.heap.size + 1) (by omega) 0 (.int .i64 V2)).other (q := w.heap.size + 1) (by omega) 1 (.int .i64 T2)
            have Z0 := ((V0.other (q := p) (by omega) 0 (.slice (some ⟨g9, 0, none⟩) (i + 1) cap9)).other (q := w.heap.size + 1) (by omega) 0 (.int .i64 V2)).other (q := w.heap.size + 1) (by omega) 1 (.int .i64 T2)
            have Z1 := ((V1.other (q := p) (by omega) 0 (.slice (some ⟨g9, 0, none⟩) (i + 1) cap9)).set 0 (.int .i64 V2)).set 1 (.int .i64 T2)
            have Z2 := ((V2_.other (q := p) (by omega) 0 (.slice (some ⟨g9, 0, none⟩) (i + 1) cap9)).other (q := w.heap.size + 1) (by omega) 0 (.int .i64 V2)).other (q := w.heap.size + 1) (by omega) 1 (.int .i64 T2)
            have ZO := own_other (own_other (own_other hown9 (show p < p + 1 by omega) 0 (.slice (some ⟨g9, 0, none⟩) (i + 1) cap9)) (show w.heap.size + 1 < p + 1 by omega) 0 (.int .i64 V2)) (show w.heap.size + 1 < p + 1 by omega) 1 (.int .i64 T2)
            have ZB := ((VB.setCell (p := ⟨p, 0, none⟩) (by show w.heap.size ≤ p; omega) (.slice (some ⟨g9, 0, none⟩) (i + 1) cap9)).setCell (p := ⟨w.heap.size + 1, 0, none⟩) (by show w.heap.size ≤ w.heap.size + 1; omega) (.int .i64 V2)).setCell (p := ⟨w.heap.size + 1, 1, none⟩) (by show w.heap.size ≤ w.heap.size + 1; omega) (.int .i64 T2)
            clear x0 x1 x2 x3 x4 x5 xe0 xe1 xe2 y0 y1 y2 y3 y4 y5 y6 y7 y8 y9 V0 V1 V2_ V3 VP VB hown9 hgrow hF hB hO F0 F1 F2 F3 fown fb Nx Bf hob
            generalize ((w9.setCell ⟨p, 0, none⟩ (.slice (some ⟨g9, 0, none⟩) (i + 1) cap9)).setCell ⟨w.heap.size + 1, 0, none⟩ (.int .i64 V2)).setCell ⟨w.heap.size + 1, 1, none⟩ (.int .i64 T2) = wz at *
            have ZOI : wz.ownsRow (p + 1) 2 1 (.slice (some ⟨g9, 0, none⟩) (i + 1) cap9) (i + 1) (ints (ls ++ [x])) := by rw [ints_app]; exact ZO
            have HM2 := Lib.hid (lenAt_of (X := wz) (p := p) (Z3.cell (i := 0) rfl))
            have key : (x == 0) = true ∨ (x == 0) = false := by cases hxx : (x == 0) <;> simp
            rcases key with hx | hx
            · have hl0 : l = 0 := HX0.out (by simpa using hx)
              have HL0 := Lib.hid hl0
              clear hl0 ZO
              have fs1 := Z1.cell (i := 1) rfl
              have fp0 := Z3.cell (i := 0) rfl
              have fp1 := Z3.cell (i := 1) rfl
              have fp2 := Z3.fr 1
              have fq0 := Z2.cell (i := 0) rfl
              have fq1 := Z2.cell (i := 1) rfl
              have fq2 := Z2.fr 0
              have fq3 := Z2.fr 1
              go_wp2
              have hne : p ≠ w.heap.size + 1 + 1 := by omega
              have Z2 := ((Z2.other (q := p) hne 1 (.int .i64 T2)).set 0 (.slice (some ⟨g9, 0, none⟩) (i + 1) cap9)).set 1 (.int .i64 T2)
              have z0 := Z2.cell (i := 0) rfl
              have z1 := Z2.cell (i := 1) rfl
              have ZO := own_other (own_other (own_other ZOI (show p < p + 1 by omega) 1 (.int .i64 T2)) (show w.heap.size + 1 + 1 < p + 1 by omega) 0 (.slice (some ⟨g9, 0, none⟩) (i + 1) cap9)) (show w.heap.size + 1 + 1 < p + 1 by omega) 1 (.int .i64 T2)
              have ZB := ((ZB.setCell (p := ⟨p, 1, none⟩) (by show w.heap.size ≤ p; omega) (.int .i64 T2)).setCell (p := ⟨w.heap.size + 1 + 1, 0, none⟩) (by show w.heap.size ≤ w.heap.size + 1 + 1; omega) (.slice (some ⟨g9, 0, none⟩) (i + 1) cap9)).setCell (p := ⟨w.heap.size + 1 + 1, 1, none⟩) (by show w.heap.size ≤ w.heap.size + 1 + 1; omega) (.int .i64 T2)
              exact bodyPost_ret (v := .tuple #[.agg #[.slice (some ⟨g9, 0, none⟩) (i + 1) cap9, .int .i64 T2], .int .i64 0]) (by simp [results, Try.results14, go_sem, z0, z1]) rfl ⟨.slice (some ⟨g9, 0, none⟩) (i + 1) cap9, (i + 1), by rw [HN.out], by unfold Ri; rw [rcL_len, HLN.out]; exact own_mono ZO (by omega), (by omega), HPN.out, .inr (.inr HL0.out), ZB⟩
            · clear ZO
              go_wp2
              go_roundw
              case rel => exact ⟨i + 1, some ⟨g9, 0, none⟩, cap9, by omega, HPN.out, Z0, by rw [HN.out, HV2.out]; exact Z1, Z2, Z3, by rw [HLN.out]; exact ZOI, ZB⟩
              case measure => rw [HM2.out, Hm.out]; omega
        · have hnx : wr.heap.size ≤ wr.heap.size := Nat.le_refl _
          have Nx := (Fn.set 0 (.int .i64 V2)).set 1 (.int .i64 T2)
          have Bf := (S7.2.2.2.2.2.2.2.setCell (p := ⟨wr.heap.size, 0, none⟩) hnb (.int .i64 V2)).setCell (p := ⟨wr.heap.size, 1, none⟩) hnb (.int .i64 T2)
          have Hm := Lib.hid (lenAt_of (X := wr) (p := p) p0)
          clear S1 step stp S7 p0 fn0 fn1 fn2 fn3 Fn En hn6
          generalize (w7.setCell ⟨wr.heap.size, 0, none⟩ (.int .i64 V2)).setCell ⟨wr.heap.size, 1, none⟩ (.int .i64 T2) = wf at *
          have F0 := Q0.below Bf
          have F1 := Q1.below Bf
          have F2 := Q2.below Bf
          have F3 := Q3.below Bf
          have fown := own_below hown Bf
          have fb := below_step hb Bf hb.size
          have hls : ls.length = i := hlen
          have hnbl := Nx.lt
          have hp3 : p < wr.heap.size := Q3.lt
          have hob : ∀ k, (Value.slice A i cA).ownBlock = some k → p + 1 ≤ k ∧ k < wr.heap.size := fun k hk => ⟨(hown.lt k hk).1, (hown.lt k hk).2⟩
          have hO : ∀ X, Below wf.heap.size wf X → X.ownsRow (p + 1) 2 1 (.slice A i cA) i (ints ls) := fun X h => own_below fown h
          have hone : ∀ u ∈ [Value.int .i64 x], u.oneCell' = true := by simp [Value.oneCell']
          have hi6 : i + 1 ≤ 600 := by omega
          have hc3 : i + 1 ≤ maxLen := by unfold maxLen; omega
          have hc4 : (i + 1) * 8 ≤ 140737488355328 := by omega
          have hB : ∀ X, Below wf.heap.size wf X → p + 1 ≤ X.heap.size := fun X h => by have := h.size; omega
          have hF : ∀ X w9, Below wf.heap.size wf X → X.grownBy w9 (Value.slice A i cA).ownBlock → Bx w9 wr.heap.size 23 [.int .i64 V2, .int .i64 T2] ∧ Bx w9 w.heap.size 31 [.slice a1 n1 c1, .slice a2 n2 c2, .slice a3 n3 c3, .int .i64 L, .int .i64 R] ∧ Bx w9 (w.heap.size + 1) 23 [.int .i64 V, .int .i64 T] ∧ Bx w9 (w.heap.size + 1 + 1) 50 [.slice none 0 0, .int .i64 0] ∧ Bx w9 p 50 [.slice A i cA, .int .i64 0] ∧ Below w.heap.size w w9 := fun X w9 hb hg => by
            have hs := hb.size
            have far : ∀ q, q < wf.heap.size → (q < p + 1 ∨ wr.heap.size ≤ q) → w9.heap[q]? = X.heap[q]? := fun q hq hh => hg.block q (by omega) (fun e => by have := hob q e.symm; omega)
            have l0 := F0.lt
            have l1 := F1.lt
            have l2 := F2.lt
            have l3 := F3.lt
            exact ⟨(Nx.below hb).of_block (far _ (by omega) (by omega)), (F0.below hb).of_block (far _ (by omega) (by omega)), (F1.below hb).of_block (far _ (by omega) (by omega)), (F2.below hb).of_block (far _ (by omega) (by omega)), (F3.below hb).of_block (far _ (by omega) (by omega)), (below_step fb hb fb.size).grown hg (by have := fb.size; omega) (fun k hk => by have := (hob k hk).1; omega)⟩
          have x0 := Nx.cell (i := 0) rfl
          have x1 := Nx.cell (i := 1) rfl
          have x2 := F3.cell (i := 0) rfl
          have x3 := F3.cell (i := 1) rfl
          have x4 := F1.cell (i := 0) rfl
          have x5 := F1.cell (i := 1) rfl
          have xe : ∀ q j (u : Value), wf.cell? ⟨q, j, none⟩ = some u → q < wf.heap.size → (wf.alloc (.cells #[.int .i64 x] 2)).drew.cell? ⟨q, j, none⟩ = some u := fun q j u h hq => (((below_new wf _).drew).cell hq).trans h
          have xe0 := xe _ _ _ x0 hnbl
          have xe1 := xe _ _ _ x1 hnbl
          have xe2 := xe _ _ _ x2 F3.lt
          clear xe
          go_wp2
          clear Q0 Q1 Q2 Q3 hown hb
          go_region_law (refine step_append_lies _ (by rfl) (.tmp 57) (.tmp 59) 39 (by rfl) (p + 1) 2 i0 (.int .i64 0) 1 8 Try.underlying39 hi0 hz0 hz1 hz2 (by rfl) (by decide) (.slice A i cA) i (ints ls) (by rfl) (hO _ (by first | exact Below.alloc (Below.refl _ _) (Nat.le_refl _) _ | exact ((Below.refl _ _).drew).alloc (Nat.le_refl _) _ | exact ((Below.refl _ _).alloc (Nat.le_refl _) _).drew)) ⟨wf.heap.size, 0, none⟩ 1 1 [.int .i64 x] (by rfl) (by rfl) (cell_one_at _ _ _ rfl) hone (by decide) hc3 hc4 (hB _ (by first | exact Below.alloc (Below.refl _ _) (Nat.le_refl _) _ | exact ((Below.refl _ _).drew).alloc (Nat.le_refl _) _ | exact ((Below.refl _ _).alloc (Nat.le_refl _) _).drew)) _ rfl ?_; intro g9 cap9 w9 hown9 hgrow hat hlt9; obtain ⟨V3, V0, V1, V2_, VP, VB⟩ := hF _ _ (by first | exact Below.alloc (Below.refl _ _) (Nat.le_refl _) _ | exact ((Below.refl _ _).drew).alloc (Nat.le_refl _) _ | exact ((Below.refl _ _).alloc (Nat.le_refl _) _).drew) hgrow; have y0 := V3.cell (i := 0) rfl; have y1 := V3.cell (i := 1) rfl; have y2 := V1.cell (i := 0) rfl; have y3 := V1.cell (i := 1) rfl; have y4 := V1.fr 0; have y5 := V1.fr 1; have y6 := VP.cell (i := 0) rfl; have y7 := VP.fr 0; have y8 := VP.cell (i := 1) rfl; have y9 := VP.fr 1)
          all_goals
            have hlp : w.heap.size + 1 + 1 < p := hp
            have Z3 := ((VP.set 0 (.slice (some ⟨g9, 0, none⟩) (i + 1) cap9)).other (q := w.heap.size + 1) (by omega) 0 (.int .i64 V2)).other (q := w.heap.size + 1) (by omega) 1 (.int .i64 T2)
            have Z0 := ((V0.other (q := p) (by omega) 0 (.slice (some ⟨g9, 0, none⟩) (i + 1) cap9)).other (q := w.heap.size + 1) (by omega) 0 (.int .i64 V2)).other (q := w.heap.size + 1) (by omega) 1 (.int .i64 T2)
            have Z1 := ((V1.other (q := p) (by omega) 0 (.slice (some ⟨g9, 0, none⟩) (i + 1) cap9)).set 0 (.int .i64 V2)).set 1 (.int .i64 T2)
            have Z2 := ((V2_.other (q := p) (by omega) 0 (.slice (some ⟨g9, 0, none⟩) (i + 1) cap9)).other (q := w.heap.size + 1) (by omega) 0 (.int .i64 V2)).other (q := w.heap.size + 1) (by omega) 1 (.int .i64 T2)
            have ZO := own_other (own_other (own_other hown9 (show p < p + 1 by omega) 0 (.slice (some ⟨g9, 0, none⟩) (i + 1) cap9)) (show w.heap.size + 1 < p + 1 by omega) 0 (.int .i64 V2)) (show w.heap.size + 1 < p + 1 by omega) 1 (.int .i64 T2)
            have ZB := ((VB.setCell (p := ⟨p, 0, none⟩) (by show w.heap.size ≤ p; omega) (.slice (some ⟨g9, 0, none⟩) (i + 1) cap9)).setCell (p := ⟨w.heap.size + 1, 0, none⟩) (by show w.heap.size ≤ w.heap.size + 1; omega) (.int .i64 V2)).setCell (p := ⟨w.heap.size + 1, 1, none⟩) (by show w.heap.size ≤ w.heap.size + 1; omega) (.int .i64 T2)
            clear x0 x1 x2 x3 x4 x5 xe0 xe1 xe2 y0 y1 y2 y3 y4 y5 y6 y7 y8 y9 V0 V1 V2_ V3 VP VB hown9 hgrow hF hB hO F0 F1 F2 F3 fown fb Nx Bf hob
            generalize ((w9.setCell ⟨p, 0, none⟩ (.slice (some ⟨g9, 0, none⟩) (i + 1) cap9)).setCell ⟨w.heap.size + 1, 0, none⟩ (.int .i64 V2)).setCell ⟨w.heap.size + 1, 1, none⟩ (.int .i64 T2) = wz at *
            have ZOI : wz.ownsRow (p + 1) 2 1 (.slice (some ⟨g9, 0, none⟩) (i + 1) cap9) (i + 1) (ints (ls ++ [x])) := by rw [ints_app]; exact ZO
            have HM2 := Lib.hid (lenAt_of (X := wz) (p := p) (Z3.cell (i := 0) rfl))
            have key : (x == 0) = true ∨ (x == 0) = false := by cases hxx : (x == 0) <;> simp
            rcases key with hx | hx
            · have hl0 : l = 0 := HX0.out (by simpa using hx)
              have HL0 := Lib.hid hl0
              clear hl0 ZO
              have fs1 := Z1.cell (i := 1) rfl
              have fp0 := Z3.cell (i := 0) rfl
              have fp1 := Z3.cell (i := 1) rfl
              have fp2 := Z3.fr 1
              have fq0 := Z2.cell (i := 0) rfl
              have fq1 := Z2.cell (i := 1) rfl
              have fq2 := Z2.fr 0
              have fq3 := Z2.fr 1
              go_wp2
              have hne : p ≠ w.heap.size + 1 + 1 := by omega
              have Z2 := ((Z2.other (q := p) hne 1 (.int .i64 T2)).set 0 (.slice (some ⟨g9, 0, none⟩) (i + 1) cap9)).set 1 (.int .i64 T2)
              have z0 := Z2.cell (i := 0) rfl
              have z1 := Z2.cell (i := 1) rfl
              have ZO := own_other (own_other (own_other ZOI (show p < p + 1 by omega) 1 (.int .i64 T2)) (show w.heap.size + 1 + 1 < p + 1 by omega) 0 (.slice (some ⟨g9, 0, none⟩) (i + 1) cap9)) (show w.heap.size + 1 + 1 < p + 1 by omega) 1 (.int .i64 T2)
              have ZB := ((ZB.setCell (p := ⟨p, 1, none⟩) (by show w.heap.size ≤ p; omega) (.int .i64 T2)).setCell (p := ⟨w.heap.size + 1 + 1, 0, none⟩) (by show w.heap.size ≤ w.heap.size + 1 + 1; omega) (.slice (some ⟨g9, 0, none⟩) (i + 1) cap9)).setCell (p := ⟨w.heap.size + 1 + 1, 1, none⟩) (by show w.heap.size ≤ w.heap.size + 1 + 1; omega) (.int .i64 T2)
              exact bodyPost_ret (v := .tuple #[.agg #[.slice (some ⟨g9, 0, none⟩) (i + 1) cap9, .int .i64 T2], .int .i64 0]) (by simp [results, Try.results14, go_sem, z0, z1]) rfl ⟨.slice (some ⟨g9, 0, none⟩) (i + 1) cap9, (i + 1), by rw [HN.out], by unfold Ri; rw [rcL_len, HLN.out]; exact own_mono ZO (by omega), (by omega), HPN.out, .inr (.inr HL0.out), ZB⟩
            · clear ZO
              go_wp2
              go_roundw
              case rel => exact ⟨i + 1, some ⟨g9, 0, none⟩, cap9, by omega, HPN.out, Z0, by rw [HN.out, HV2.out]; exact Z1, Z2, Z3, by rw [HLN.out]; exact ZOI, ZB⟩
              case measure => rw [HM2.out, Hm.out]; omega
      · clear KS DU hS0
        have HP := Lib.hid hpos
        have hme : (i : Int) = m := by omega
        have HME := Lib.hid hme
        have kl : decide ((i : Int) < m) = false := by simp; omega
        clear hpos hme hlt
        generalize hT0 : rcS S l i = T at *
        have HT0 := Lib.hid hT0
        generalize hl0 : rcL S l i = ls at *
        have HLS := Lib.hid hl0
        clear hT0 hl0
        have fs1 := Q1.cell (i := 1) rfl
        have fp0 := Q3.cell (i := 0) rfl
        have fp1 := Q3.cell (i := 1) rfl
        have fp2 := Q3.fr 1
        have fq0 := Q2.cell (i := 0) rfl
        have fq1 := Q2.cell (i := 1) rfl
        have fq2 := Q2.fr 0
        have fq3 := Q2.fr 1
        go_wp2
        have hne : p ≠ w.heap.size + 1 + 1 := by omega
        have Z2 := ((Q2.other (q := p) hne 1 (.int .i64 T)).set 0 (.slice A i cA)).set 1 (.int .i64 T)
        have z0 := Z2.cell (i := 0) rfl
        have z1 := Z2.cell (i := 1) rfl
        have ZO := own_other (own_other (own_other hown (show p < p + 1 by omega) 1 (.int .i64 T)) (show w.heap.size + 1 + 1 < p + 1 by omega) 0 (.slice A i cA)) (show w.heap.size + 1 + 1 < p + 1 by omega) 1 (.int .i64 T)
        have ZB := ((hb.setCell (p := ⟨p, 1, none⟩) (by show w.heap.size ≤ p; omega) (.int .i64 T)).setCell (p := ⟨w.heap.size + 1 + 1, 0, none⟩) (by show w.heap.size ≤ w.heap.size + 1 + 1; omega) (.slice A i cA)).setCell (p := ⟨w.heap.size + 1 + 1, 1, none⟩) (by show w.heap.size ≤ w.heap.size + 1 + 1; omega) (.int .i64 T)
        exact bodyPost_ret (v := .tuple #[.agg #[.slice A i cA, .int .i64 T], .int .i64 0]) (by simp [results, Try.results14, go_sem, z0, z1]) rfl ⟨.slice A i cA, i, by rw [HT0.out], by unfold Ri; rw [rcL_len, HLS.out]; exact own_mono ZO (by omega), him, HP.out, .inr (.inl HME.out), ZB⟩
    · clear KS DU hS0
      have HP := Lib.hid hpos
      have hTn : ¬ 0 < rcS S l i := hT
      clear hpos hT
      generalize hT0 : rcS S l i = T at *
      have HT0 := Lib.hid hT0
      generalize hl0 : rcL S l i = ls at *
      have HLS := Lib.hid hl0
      clear hT0 hl0
      have fs1 := Q1.cell (i := 1) rfl
      have fp0 := Q3.cell (i := 0) rfl
      have fp1 := Q3.cell (i := 1) rfl
      have fp2 := Q3.fr 1
      have fq0 := Q2.cell (i := 0) rfl
      have fq1 := Q2.cell (i := 1) rfl
      have fq2 := Q2.fr 0
      have fq3 := Q2.fr 1
      go_wp2
      have hne : p ≠ w.heap.size + 1 + 1 := by omega
      have Z2 := ((Q2.other (q := p) hne 1 (.int .i64 T)).set 0 (.slice A i cA)).set 1 (.int .i64 T)
      have z0 := Z2.cell (i := 0) rfl
      have z1 := Z2.cell (i := 1) rfl
      have ZO := own_other (own_other (own_other hown (show p < p + 1 by omega) 1 (.int .i64 T)) (show w.heap.size + 1 + 1 < p + 1 by omega) 0 (.slice A i cA)) (show w.heap.size + 1 + 1 < p + 1 by omega) 1 (.int .i64 T)
      have ZB := ((hb.setCell (p := ⟨p, 1, none⟩) (by show w.heap.size ≤ p; omega) (.int .i64 T)).setCell (p := ⟨w.heap.size + 1 + 1, 0, none⟩) (by show w.heap.size ≤ w.heap.size + 1 + 1; omega) (.slice A i cA)).setCell (p := ⟨w.heap.size + 1 + 1, 1, none⟩) (by show w.heap.size ≤ w.heap.size + 1 + 1; omega) (.int .i64 T)
      exact bodyPost_ret (v := .tuple #[.agg #[.slice A i cA, .int .i64 T], .int .i64 0]) (by simp [results, Try.results14, go_sem, z0, z1]) rfl ⟨.slice A i cA, i, by rw [HT0.out], by unfold Ri; rw [rcL_len, HLS.out]; exact own_mono ZO (by omega), him, HP.out, .inl (by rw [HT0.out]; omega), ZB⟩
end
end Go.Proofs.Ytgekojbmlppmdaa
