/- Merged: DateA, DateB, DateC, DateD, Work, DateE. -/
import Derived.Test.YtffihnbpjcgicaaDoorPer
import Derived.Test.YtffihnbpjcgicaaDoorRight
import Derived.Test.YtffihnbpjcgicaaDoorAmtC
import Derived.Test.YtffihnbpjcgicaaDoorProg
import Derived.WalkKit
import Derived.WalkSpells
import Derived.WalkLawsBesides
import Derived.Lib.Hide
import Derived.Deep.RegionHeld3
import Derived.Deep.QuietTactic
import Derived.BigQuiet
import Derived.Lib.Walk
import Derived.Laws.Slices
import Derived.WalkSmall
/- What the calls of date answer that tell which days there are: Leap, lengths, Last, Right; and the document's own. -/
namespace Go.Proofs.YtffihnbpjcgicaaDoor
open Go.RowKit
set_option linter.unusedVariables false
set_option linter.unusedSimpArgs false

theorem leap_yes (y : Int) (h : 1 ≤ y) (h' : y ≤ 9999) (hl : lp y = 1) (w : World) : Calls Tryd.prog 165 #[.int .i64 y] w fun e w' => e = .returned (.bool true) ∧ w = w' := by
  have h4 : y % 4 = 0 := by unfold lp at hl; split at hl <;> omega
  have h1 : y % 100 ≠ 0 ∨ y % 400 = 0 := by unfold lp at hl; split at hl <;> omega
  clear hl
  have e4 : (y % 4 == 0) = true := by simpa using h4
  by_cases hb : y % 100 = 0
  · have e1 : (y % 100 != 0) = false := by simpa using hb
    have e2 : (y % 400 == 0) = true := by simp; omega
    clear h4 h1 hb
    go_enter Tryd.func165, Tryd.ntmps165
    go_wp2
    go_ret
    exact ⟨rfl, rfl⟩
  · have e1 : (y % 100 != 0) = true := by simpa using hb
    clear h4 h1 hb
    go_enter Tryd.func165, Tryd.ntmps165
    go_wp2
    go_ret
    exact ⟨rfl, rfl⟩
theorem leap_no (y : Int) (h : 1 ≤ y) (h' : y ≤ 9999) (hl : lp y = 0) (w : World) : Calls Tryd.prog 165 #[.int .i64 y] w fun e w' => e = .returned (.bool false) ∧ w = w' := by
  have h1 : y % 400 ≠ 0 ∧ (y % 4 ≠ 0 ∨ y % 100 = 0) := by unfold lp at hl; split at hl <;> omega
  clear hl
  obtain ⟨h4, h1⟩ := h1
  have e2 : (y % 400 == 0) = false := by simpa using h4
  by_cases hb : y % 4 = 0
  · have e4 : (y % 4 == 0) = true := by simpa using hb
    have e1 : (y % 100 != 0) = false := by simp; omega
    clear h4 h1 hb
    go_enter Tryd.func165, Tryd.ntmps165
    go_wp2
    go_ret
    exact ⟨rfl, rfl⟩
  · have e4 : (y % 4 == 0) = false := by simpa using hb
    clear h4 h1 hb
    go_enter Tryd.func165, Tryd.ntmps165
    go_wp2
    go_ret
    exact ⟨rfl, rfl⟩

/-- how many days each month has -/
def mls (y : Int) : Array Value := #[.int .i64 31, .int .i64 (28 + lp y), .int .i64 31, .int .i64 30, .int .i64 31, .int .i64 30, .int .i64 31, .int .i64 31, .int .i64 30, .int .i64 31, .int .i64 30, .int .i64 31]
theorem lengths_any (y : Int) (h : 1 ≤ y) (h' : y ≤ 9999) (w : World) :
    Calls Tryd.prog 133 #[.int .i64 y] w fun e w' => e = .returned (.agg (mls y)) ∧ Below w.heap.size w w' := by
  have hl : lp y = 0 ∨ lp y = 1 := by have := lp_01 y; omega
  rcases hl with hl | hl
  · have hc := leap_no y h h' hl
    have em : mls y = #[.int .i64 31, .int .i64 28, .int .i64 31, .int .i64 30, .int .i64 31, .int .i64 30, .int .i64 31, .int .i64 31, .int .i64 30, .int .i64 31, .int .i64 30, .int .i64 31] := by unfold mls; rw [hl]; rfl
    rw [em]
    clear em hl
    go_enter Tryd.func133, Tryd.ntmps133
    go_wp2_with (fail)
    refine (hc _).mono ?_
    rintro e w' ⟨rfl, rfl⟩
    go_wp2
    exact bodyPost_ret (v := .agg #[.int .i64 31, .int .i64 28, .int .i64 31, .int .i64 30, .int .i64 31, .int .i64 30, .int .i64 31, .int .i64 31, .int .i64 30, .int .i64 31, .int .i64 30, .int .i64 31]) (by simp [results, Tryd.results133, go_sem]) rfl ⟨rfl, ((Below.refl _ _).alloc (Nat.le_refl _) _).alloc (by simp) _⟩
  · have hc := leap_yes y h h' hl
    have em : mls y = #[.int .i64 31, .int .i64 29, .int .i64 31, .int .i64 30, .int .i64 31, .int .i64 30, .int .i64 31, .int .i64 31, .int .i64 30, .int .i64 31, .int .i64 30, .int .i64 31] := by unfold mls; rw [hl]; rfl
    rw [em]
    clear em hl
    go_enter Tryd.func133, Tryd.ntmps133
    go_wp2_with (fail)
    refine (hc _).mono ?_
    rintro e w' ⟨rfl, rfl⟩
    go_wp2
    exact bodyPost_ret (v := .agg #[.int .i64 31, .int .i64 29, .int .i64 31, .int .i64 30, .int .i64 31, .int .i64 30, .int .i64 31, .int .i64 31, .int .i64 30, .int .i64 31, .int .i64 30, .int .i64 31]) (by simp [results, Tryd.results133, go_sem]) rfl ⟨rfl, ((Below.refl _ _).alloc (Nat.le_refl _) _).alloc (by simp) _⟩

theorem last_no (y m : Int) (h : y < 1900 ∨ 2199 < y ∨ m < 1 ∨ 12 < m) (w : World) : Calls Tryd.prog 100 #[.int .i64 y, .int .i64 m] w fun e w' => e = .returned (.int .i64 (lastM y m)) ∧ Below w.heap.size w w' := by
  have e : lastM y m = 0 := by unfold lastM; rw [if_neg (by omega)]
  rw [e]
  clear e
  by_cases h1 : y < 1900
  · clear h
    go_enter Tryd.func100, Tryd.ntmps100
    go_wp2
    go_ret
    exact ⟨rfl, Below.refl _ _⟩
  by_cases h2 : 2199 < y
  · clear h
    go_enter Tryd.func100, Tryd.ntmps100
    go_wp2
    go_ret
    exact ⟨rfl, Below.refl _ _⟩
  by_cases h3 : m < 1
  · clear h
    go_enter Tryd.func100, Tryd.ntmps100
    go_wp2
    go_ret
    exact ⟨rfl, Below.refl _ _⟩
  · have h4 : 12 < m := by omega
    clear h
    go_enter Tryd.func100, Tryd.ntmps100
    go_wp2
    go_ret
    exact ⟨rfl, Below.refl _ _⟩
theorem month_cases {m : Int} (h : 1 ≤ m) (h' : m ≤ 12) : m = 1 ∨ m = 2 ∨ m = 3 ∨ m = 4 ∨ m = 5 ∨ m = 6 ∨ m = 7 ∨ m = 8 ∨ m = 9 ∨ m = 10 ∨ m = 11 ∨ m = 12 := by omega
theorem index12_0 (l : Int) (W : World) : (Instr.index 210 (.agg #[.int .i64 31, .int .i64 (28 + l), .int .i64 31, .int .i64 30, .int .i64 31, .int .i64 30, .int .i64 31, .int .i64 31, .int .i64 30, .int .i64 31, .int .i64 30, .int .i64 31]) (.int .i64 0)).run Tryd.prog W = .ok (.int .i64 31) W := by kernel_rfl
theorem index12_1 (l : Int) (W : World) : (Instr.index 210 (.agg #[.int .i64 31, .int .i64 (28 + l), .int .i64 31, .int .i64 30, .int .i64 31, .int .i64 30, .int .i64 31, .int .i64 31, .int .i64 30, .int .i64 31, .int .i64 30, .int .i64 31]) (.int .i64 1)).run Tryd.prog W = .ok (.int .i64 (28 + l)) W := by kernel_rfl
theorem index12_2 (l : Int) (W : World) : (Instr.index 210 (.agg #[.int .i64 31, .int .i64 (28 + l), .int .i64 31, .int .i64 30, .int .i64 31, .int .i64 30, .int .i64 31, .int .i64 31, .int .i64 30, .int .i64 31, .int .i64 30, .int .i64 31]) (.int .i64 2)).run Tryd.prog W = .ok (.int .i64 31) W := by kernel_rfl
theorem index12_3 (l : Int) (W : World) : (Instr.index 210 (.agg #[.int .i64 31, .int .i64 (28 + l), .int .i64 31, .int .i64 30, .int .i64 31, .int .i64 30, .int .i64 31, .int .i64 31, .int .i64 30, .int .i64 31, .int .i64 30, .int .i64 31]) (.int .i64 3)).run Tryd.prog W = .ok (.int .i64 30) W := by kernel_rfl
theorem index12_4 (l : Int) (W : World) : (Instr.index 210 (.agg #[.int .i64 31, .int .i64 (28 + l), .int .i64 31, .int .i64 30, .int .i64 31, .int .i64 30, .int .i64 31, .int .i64 31, .int .i64 30, .int .i64 31, .int .i64 30, .int .i64 31]) (.int .i64 4)).run Tryd.prog W = .ok (.int .i64 31) W := by kernel_rfl
theorem index12_5 (l : Int) (W : World) : (Instr.index 210 (.agg #[.int .i64 31, .int .i64 (28 + l), .int .i64 31, .int .i64 30, .int .i64 31, .int .i64 30, .int .i64 31, .int .i64 31, .int .i64 30, .int .i64 31, .int .i64 30, .int .i64 31]) (.int .i64 5)).run Tryd.prog W = .ok (.int .i64 30) W := by kernel_rfl
theorem index12_6 (l : Int) (W : World) : (Instr.index 210 (.agg #[.int .i64 31, .int .i64 (28 + l), .int .i64 31, .int .i64 30, .int .i64 31, .int .i64 30, .int .i64 31, .int .i64 31, .int .i64 30, .int .i64 31, .int .i64 30, .int .i64 31]) (.int .i64 6)).run Tryd.prog W = .ok (.int .i64 31) W := by kernel_rfl
theorem index12_7 (l : Int) (W : World) : (Instr.index 210 (.agg #[.int .i64 31, .int .i64 (28 + l), .int .i64 31, .int .i64 30, .int .i64 31, .int .i64 30, .int .i64 31, .int .i64 31, .int .i64 30, .int .i64 31, .int .i64 30, .int .i64 31]) (.int .i64 7)).run Tryd.prog W = .ok (.int .i64 31) W := by kernel_rfl
theorem index12_8 (l : Int) (W : World) : (Instr.index 210 (.agg #[.int .i64 31, .int .i64 (28 + l), .int .i64 31, .int .i64 30, .int .i64 31, .int .i64 30, .int .i64 31, .int .i64 31, .int .i64 30, .int .i64 31, .int .i64 30, .int .i64 31]) (.int .i64 8)).run Tryd.prog W = .ok (.int .i64 30) W := by kernel_rfl
theorem index12_9 (l : Int) (W : World) : (Instr.index 210 (.agg #[.int .i64 31, .int .i64 (28 + l), .int .i64 31, .int .i64 30, .int .i64 31, .int .i64 30, .int .i64 31, .int .i64 31, .int .i64 30, .int .i64 31, .int .i64 30, .int .i64 31]) (.int .i64 9)).run Tryd.prog W = .ok (.int .i64 31) W := by kernel_rfl
theorem index12_10 (l : Int) (W : World) : (Instr.index 210 (.agg #[.int .i64 31, .int .i64 (28 + l), .int .i64 31, .int .i64 30, .int .i64 31, .int .i64 30, .int .i64 31, .int .i64 31, .int .i64 30, .int .i64 31, .int .i64 30, .int .i64 31]) (.int .i64 10)).run Tryd.prog W = .ok (.int .i64 30) W := by kernel_rfl
theorem index12_11 (l : Int) (W : World) : (Instr.index 210 (.agg #[.int .i64 31, .int .i64 (28 + l), .int .i64 31, .int .i64 30, .int .i64 31, .int .i64 30, .int .i64 31, .int .i64 31, .int .i64 30, .int .i64 31, .int .i64 30, .int .i64 31]) (.int .i64 11)).run Tryd.prog W = .ok (.int .i64 31) W := by kernel_rfl
set_option maxRecDepth 100000 in
theorem last_yes (y m : Int) (h : 1900 ≤ y) (h' : y ≤ 2199) (h1 : 1 ≤ m) (h1' : m ≤ 12) (w : World) : Calls Tryd.prog 100 #[.int .i64 y, .int .i64 m] w fun e w' => e = .returned (.int .i64 (lastM y m)) ∧ Below w.heap.size w w' := by
  have e : lastM y m = ml y m := by unfold lastM; rw [if_pos (by omega)]
  rw [e]
  clear e
  have hc := lengths_any y (by omega) (by omega)
  unfold mls at hc
  have hm := month_cases h1 h1'
  clear h1 h1'
  rcases hm with rfl | rfl | rfl | rfl | rfl | rfl | rfl | rfl | rfl | rfl | rfl | rfl
  · have hix := index12_0 (lp y)
    go_enter Tryd.func100, Tryd.ntmps100
    go_wp2_with (fail)
    refine (hc _).mono ?_
    rintro e w' ⟨rfl, hb⟩
    go_wp2
    go_ret
    exact ⟨ret_i (by simp [ml]), hb⟩
  · have hix := index12_1 (lp y)
    go_enter Tryd.func100, Tryd.ntmps100
    go_wp2_with (fail)
    refine (hc _).mono ?_
    rintro e w' ⟨rfl, hb⟩
    go_wp2
    go_ret
    exact ⟨ret_i (by simp [ml]), hb⟩
  · have hix := index12_2 (lp y)
    go_enter Tryd.func100, Tryd.ntmps100
    go_wp2_with (fail)
    refine (hc _).mono ?_
    rintro e w' ⟨rfl, hb⟩
    go_wp2
    go_ret
    exact ⟨ret_i (by simp [ml]), hb⟩
  · have hix := index12_3 (lp y)
    go_enter Tryd.func100, Tryd.ntmps100
    go_wp2_with (fail)
    refine (hc _).mono ?_
    rintro e w' ⟨rfl, hb⟩
    go_wp2
    go_ret
    exact ⟨ret_i (by simp [ml]), hb⟩
  · have hix := index12_4 (lp y)
    go_enter Tryd.func100, Tryd.ntmps100
    go_wp2_with (fail)
    refine (hc _).mono ?_
    rintro e w' ⟨rfl, hb⟩
    go_wp2
    go_ret
    exact ⟨ret_i (by simp [ml]), hb⟩
  · have hix := index12_5 (lp y)
    go_enter Tryd.func100, Tryd.ntmps100
    go_wp2_with (fail)
    refine (hc _).mono ?_
    rintro e w' ⟨rfl, hb⟩
    go_wp2
    go_ret
    exact ⟨ret_i (by simp [ml]), hb⟩
  · have hix := index12_6 (lp y)
    go_enter Tryd.func100, Tryd.ntmps100
    go_wp2_with (fail)
    refine (hc _).mono ?_
    rintro e w' ⟨rfl, hb⟩
    go_wp2
    go_ret
    exact ⟨ret_i (by simp [ml]), hb⟩
  · have hix := index12_7 (lp y)
    go_enter Tryd.func100, Tryd.ntmps100
    go_wp2_with (fail)
    refine (hc _).mono ?_
    rintro e w' ⟨rfl, hb⟩
    go_wp2
    go_ret
    exact ⟨ret_i (by simp [ml]), hb⟩
  · have hix := index12_8 (lp y)
    go_enter Tryd.func100, Tryd.ntmps100
    go_wp2_with (fail)
    refine (hc _).mono ?_
    rintro e w' ⟨rfl, hb⟩
    go_wp2
    go_ret
    exact ⟨ret_i (by simp [ml]), hb⟩
  · have hix := index12_9 (lp y)
    go_enter Tryd.func100, Tryd.ntmps100
    go_wp2_with (fail)
    refine (hc _).mono ?_
    rintro e w' ⟨rfl, hb⟩
    go_wp2
    go_ret
    exact ⟨ret_i (by simp [ml]), hb⟩
  · have hix := index12_10 (lp y)
    go_enter Tryd.func100, Tryd.ntmps100
    go_wp2_with (fail)
    refine (hc _).mono ?_
    rintro e w' ⟨rfl, hb⟩
    go_wp2
    go_ret
    exact ⟨ret_i (by simp [ml]), hb⟩
  · have hix := index12_11 (lp y)
    go_enter Tryd.func100, Tryd.ntmps100
    go_wp2_with (fail)
    refine (hc _).mono ?_
    rintro e w' ⟨rfl, hb⟩
    go_wp2
    go_ret
    exact ⟨ret_i (by simp [ml]), hb⟩
theorem last_any (y m : Int) (w : World) : Calls Tryd.prog 100 #[.int .i64 y, .int .i64 m] w fun e w' => e = .returned (.int .i64 (lastM y m)) ∧ Below w.heap.size w w' := by
  by_cases h : y < 1900 ∨ 2199 < y ∨ m < 1 ∨ 12 < m
  · exact last_no y m h w
  · exact last_yes y m (by omega) (by omega) (by omega) (by omega) w

/-- a day's parts, where it lies -/
def Day (w : World) (b : Nat) (y m d : Int) : Prop := w.cell? ⟨b, 0, none⟩ = some (.int .i64 y) ∧ w.cell? ⟨b, 1, none⟩ = some (.int .i64 m) ∧ w.cell? ⟨b, 2, none⟩ = some (.int .i64 d)
theorem Day.below {B : Nat} {w w' : World} {b : Nat} {y m d : Int} (h : Day w b y m d) (hb : Below B w w') (hB : b < B) : Day w' b y m d :=
  ⟨(hb.cell (p := ⟨b, 0, none⟩) hB).trans h.1, (hb.cell (p := ⟨b, 1, none⟩) hB).trans h.2.1, (hb.cell (p := ⟨b, 2, none⟩) hB).trans h.2.2⟩
theorem day_new (w : World) (y m d : Int) (t : TypeId) : Day (w.alloc (.cells #[.int .i64 y, .int .i64 m, .int .i64 d] t)) w.heap.size y m d := by
  refine ⟨?_, ?_, ?_⟩ <;> simp [World.cell?_alloc_new]

theorem sd_start (w : World) (y m d : Int) (t : TypeId) : (w.alloc (.cells #[.int .i64 y, .int .i64 m, .int .i64 d] t)).drew.cell? ⟨w.heap.size, 0, none⟩ = some (.int .i64 y) ∧ (w.alloc (.cells #[.int .i64 y, .int .i64 m, .int .i64 d] t)).drew.cell? ⟨w.heap.size, 1, none⟩ = some (.int .i64 m) ∧ (w.alloc (.cells #[.int .i64 y, .int .i64 m, .int .i64 d] t)).drew.cell? ⟨w.heap.size, 2, none⟩ = some (.int .i64 d) ∧ Below w.heap.size w (w.alloc (.cells #[.int .i64 y, .int .i64 m, .int .i64 d] t)).drew ∧ w.heap.size < (w.alloc (.cells #[.int .i64 y, .int .i64 m, .int .i64 d] t)).drew.heap.size := by
  obtain ⟨a, b, c⟩ := day_new w y m d t
  exact ⟨a, b, c, ((Below.refl _ _).alloc (Nat.le_refl _) _).drew, by show w.heap.size < (w.alloc _).heap.size; simp⟩
theorem sd_step {w W W' : World} {y m d : Int} (hb : Below W.heap.size W W') (h : W.cell? ⟨w.heap.size, 0, none⟩ = some (.int .i64 y) ∧ W.cell? ⟨w.heap.size, 1, none⟩ = some (.int .i64 m) ∧ W.cell? ⟨w.heap.size, 2, none⟩ = some (.int .i64 d) ∧ Below w.heap.size w W ∧ w.heap.size < W.heap.size) :
    W'.cell? ⟨w.heap.size, 0, none⟩ = some (.int .i64 y) ∧ W'.cell? ⟨w.heap.size, 1, none⟩ = some (.int .i64 m) ∧ W'.cell? ⟨w.heap.size, 2, none⟩ = some (.int .i64 d) ∧ Below w.heap.size w W' ∧ w.heap.size < W'.heap.size := by
  obtain ⟨a, b, c, h1, h2⟩ := h
  obtain ⟨a, b, c⟩ := Day.below ⟨a, b, c⟩ hb h2
  exact ⟨a, b, c, below_step h1 hb (by omega), by have := hb.size; omega⟩
theorem below_dn {B : Nat} {a w : World} (h : Below B a w) (k : Nat) : Below B a (w.drewN k) := ⟨h.os, h.tape, h.output, h.size, h.block⟩
set_option maxHeartbeats 1000000 in
theorem right_any_DateA (y m d : Int) (w : World) : Calls Tryd.prog 99 #[.agg #[.int .i64 y, .int .i64 m, .int .i64 d]] w fun e w' => e = .returned (.bool (dayB y m d)) ∧ Below w.heap.size w w' := by
  by_cases hd : 1 ≤ d
  · have e : dayB y m d = decide (d ≤ lastM y m) := by unfold dayB; congr 1; rw [eq_iff_iff]; omega
    rw [e]
    clear e
    generalize hv : lastM y m = v
    have hc : ∀ W, Calls Tryd.prog 100 #[.int .i64 y, .int .i64 m] W fun e w' => e = .returned (.int .i64 v) ∧ Below W.heap.size W w' := by subst hv; exact last_any y m
    clear hv
    go_enter Tryd.func99, Tryd.ntmps99
    go_wp2
    go_region_held3 (fun w' => w'.cell? ⟨w.heap.size, 0, none⟩ = some (.int .i64 y) ∧ w'.cell? ⟨w.heap.size, 1, none⟩ = some (.int .i64 m) ∧ w'.cell? ⟨w.heap.size, 2, none⟩ = some (.int .i64 d) ∧ Below w.heap.size w w' ∧ w.heap.size < w'.heap.size) ((first | exact sd_start _ _ _ _ _ | exact sd_step hb (by assumption)))
      (first | (go_at_call 100; refine (hc _).mono ?_; rintro e w' ⟨rfl, hb⟩))
    rename_i hH
    obtain ⟨_, _, _, hq, _⟩ := hH
    go_wp2
    go_ret
    exact ⟨rfl, hq⟩
  · have e : dayB y m d = false := by unfold dayB; rw [decide_eq_false_iff_not]; omega
    rw [e]
    clear e
    have hd2 : decide (1 ≤ d) = false := by simpa using hd
    go_enter Tryd.func99, Tryd.ntmps99
    go_wp2
    go_quiet (fail)
    go_wp2
    go_ret
    exact ⟨rfl, below_dn ((Below.refl _ _).alloc (Nat.le_refl _) _) _⟩
theorem right_b (y m d : Int) (b : Bool) (h : dayB y m d = b) (w : World) : Calls Tryd.prog 99 #[.agg #[.int .i64 y, .int .i64 m, .int .i64 d]] w fun e w' => e = .returned (.bool b) ∧ Below w.heap.size w w' := by
  subst h
  exact right_any_DateA y m d w
end Go.Proofs.YtffihnbpjcgicaaDoor

/- What the calls of date answer that count days: leaps, ahead, Number, Of, Weekday, Add. -/
namespace Go.Proofs.YtffihnbpjcgicaaDoor
open Go.RowKit
set_option linter.unusedVariables false
set_option linter.unusedSimpArgs false

/-- a day's place may be written -/
def Free_DateB (w : World) (b : Nat) : Prop := w.frozen? ⟨b, 0, none⟩ = false ∧ w.frozen? ⟨b, 1, none⟩ = false ∧ w.frozen? ⟨b, 2, none⟩ = false
theorem Free_DateB.below {B : Nat} {w w' : World} {b : Nat} (h : Free_DateB w b) (hb : Below B w w') (hB : b < B) : Free_DateB w' b :=
  ⟨(hb.frozen (p := ⟨b, 0, none⟩) hB).trans h.1, (hb.frozen (p := ⟨b, 1, none⟩) hB).trans h.2.1, (hb.frozen (p := ⟨b, 2, none⟩) hB).trans h.2.2⟩
theorem free_new_DateB (w : World) (c : Array Value) (t : TypeId) : Free_DateB (w.alloc (.cells c t)) w.heap.size := ⟨World.frozen?_alloc_new _ _ _ _, World.frozen?_alloc_new _ _ _ _, World.frozen?_alloc_new _ _ _ _⟩

theorem leaps_any (y : Int) (h : 0 ≤ y) (h' : y ≤ 9999) (w : World) : Calls Tryd.prog 181 #[.int .i64 y] w fun e w' => e = .returned (.int .i64 (lps y)) ∧ w = w' := by
  go_enter Tryd.func181, Tryd.ntmps181
  go_wp2
  go_ret
  exact ⟨ret_i (by unfold lps; omega), rfl⟩
theorem ahead_any (y : Int) (h : 1 ≤ y) (h' : y ≤ 9999) (w : World) : Calls Tryd.prog 166 #[.int .i64 y] w fun e w' => e = .returned (.int .i64 (ahd y)) ∧ w = w' := by
  have b1 : 0 ≤ lps (y - 1) ∧ lps (y - 1) ≤ 9999 := by unfold lps; omega
  have b2 : lps 1899 = 460 := by decide
  have hc := fun w => leaps_any (y - 1) (by omega) (by omega) w
  have hd := fun w => leaps_any 1899 (by omega) (by omega) w
  have e : ahd y = 365 * (y - 1900) + lps (y - 1) - 460 := rfl
  rw [b2] at hd
  rw [e]
  clear e b2
  generalize lps (y - 1) = u at *
  obtain ⟨b1, b1'⟩ := b1
  go_enter Tryd.func166, Tryd.ntmps166
  go_wp2_with (fail)
  refine (hc _).mono ?_
  rintro e w' ⟨rfl, rfl⟩
  go_wp2_with (fail)
  refine (hd _).mono ?_
  rintro e w' ⟨rfl, rfl⟩
  go_wp2
  go_ret
  exact ⟨ret_i (by omega), rfl⟩
theorem ahead_same (y : Int) (h : 1 ≤ y) (h' : y ≤ 9999) (w : World) : Calls Tryd.prog 166 #[.int .i64 y] w fun e w' => e = .returned (.int .i64 (ahd y)) ∧ w' = w :=
  (ahead_any y h h' w).mono fun _ _ h => ⟨h.1, h.2.symm⟩

theorem mls_at (y : Int) (k : Nat) (hk : k < 12) : (mls y)[k]? = some (.int .i64 (ml y (k + 1))) := by
  have : k = 0 ∨ k = 1 ∨ k = 2 ∨ k = 3 ∨ k = 4 ∨ k = 5 ∨ k = 6 ∨ k = 7 ∨ k = 8 ∨ k = 9 ∨ k = 10 ∨ k = 11 := by omega
  rcases this with rfl | rfl | rfl | rfl | rfl | rfl | rfl | rfl | rfl | rfl | rfl | rfl <;> simp [mls, ml]
theorem mls_cell (w : World) (y : Int) (t : TypeId) (k : Nat) (hk : k < 12) : (w.alloc (.cells (mls y) t)).cell? ⟨w.heap.size, k, none⟩ = some (.int .i64 (ml y (k + 1))) := by
  rw [World.cell?_alloc_new]
  exact mls_at y k hk

theorem number_no (y m d : Int) (h : dayB y m d = false) (w : World) : Calls Tryd.prog 134 #[.agg #[.int .i64 y, .int .i64 m, .int .i64 d]] w fun e w' => e = .returned (.tuple #[.int .i64 0, .int .i64 30]) ∧ Below w.heap.size w w' := by
  have hc := right_b y m d false h
  clear h
  go_enter Tryd.func134, Tryd.ntmps134
  go_wp2_with (fail)
  refine (hc _).mono ?_
  rintro e w' ⟨rfl, hb⟩
  go_wp2
  go_ret2
  exact ⟨rfl, below_step ((Below.refl _ _).alloc (Nat.le_refl _) _) hb (by simp)⟩

set_option maxRecDepth 100000 in
theorem number_yes (y m d : Int) (h : dayB y m d = true) (w : World) : Calls Tryd.prog 134 #[.agg #[.int .i64 y, .int .i64 m, .int .i64 d]] w fun e w' => e = .returned (.tuple #[.int .i64 (num y m d), .int .i64 0]) ∧ Below w.heap.size w w' := by
  have hc := right_b y m d true h
  obtain ⟨h1, h2, h3, h4, h5, h6⟩ := dayB_yes h
  obtain ⟨n1, n2, n3, n4⟩ := num_bd h
  have hm := ml_bd y m
  have hcm := cum_bd y m h3 h4
  have hlp := lp_01 y
  have ha := ahead_same y (by omega) (by omega)
  have hl := lengths_any y (by omega) (by omega)
  unfold mls at hl
  have ab : 0 ≤ ahd y ∧ ahd y ≤ 109573 := by
    have c := ahd_mono h1
    have d := ahd_mono (a := y + 1) (b := 2200) (by omega)
    have b := ahd_succ y
    rw [ahd_first] at c
    rw [ahd_last] at d
    omega
  obtain ⟨ab, ab'⟩ := ab
  have hday := day_new w y m d 79
  have v1 : wrap64 (ahd y + d) = ahd y + d := IntWalk.wrap64_in _ (by omega)
  have v2 : wrap64 (ahd y + d - 1) = ahd y + d - 1 := IntWalk.wrap64_in _ (by omega)
  clear h
  go_enter Tryd.func134, Tryd.ntmps134
  go_wp2_with (fail)
  refine (hc _).mono ?_
  rintro e w1 ⟨rfl, hb⟩
  obtain ⟨c0, c1, c2⟩ := Day.below hday hb (by simp)
  clear hday
  have hz1 : w.heap.size < w1.heap.size := by have := hb.size; simp at this; omega
  have hB1 : Below w.heap.size w w1 := below_step ((Below.refl _ _).alloc (Nat.le_refl _) _) hb (by simp)
  clear hb
  go_wp2
  go_quiet ((go_at_call 166; exact Calls.quiet_of_same (ha _)))
  go_wp2_with (fail)
  refine (hl _).mono ?_
  rintro e w2 ⟨rfl, hb2⟩
  obtain ⟨c0, c1, c2⟩ := Day.below (w := w1) ⟨c0, c1, c2⟩ (B := w1.heap.size) ⟨hb2.os, hb2.tape, hb2.output, hb2.size, hb2.block⟩ hz1
  have hz2 : w.heap.size < w2.heap.size := by have := hb2.size; simp at this; omega
  have hB2 : Below w.heap.size w w2 := hB1.trans ((show Below w1.heap.size w1 w2 from ⟨hb2.os, hb2.tape, hb2.output, hb2.size, hb2.block⟩).mono (by omega))
  clear hb2 hB1
  have hal : Tryd.prog.arrayLen 210 = 12 := by kernel_rfl
  have hsl : ∀ W, (Instr.sliceAt 210 (.pointer (some ⟨w2.heap.size, 0, none⟩)) none (some (.int .i64 (m - 1))) none).run Tryd.prog W = .ok (.slice (some ⟨w2.heap.size, 0, none⟩) (m - 1).toNat 12) W := fun W => by
    rw [run_sliceAt_array_h W 210 ⟨w2.heap.size, 0, none⟩ (by simp [Program.arrayLen, Program.elem, Tryd.underlying210]) .i64 (m - 1) (by omega) (by rw [hal]; omega)]
    go_simp
  clear hal
  have hcell := mls_cell w2 y 210
  unfold mls at hcell
  have HC := Lib.hid hcell
  clear hcell
  go_wp2_with (fail)
  try simp only [v1, v2]
  obtain ⟨K, hK⟩ : ∃ K : Nat, m.toNat - 1 = K := ⟨_, rfl⟩
  have hKm : (K : Int) = m - 1 := by omega
  rw [hK]
  have hB3 : Below w.heap.size w (w2.alloc (.cells #[.int .i64 31, .int .i64 (28 + lp y), .int .i64 31, .int .i64 30, .int .i64 31, .int .i64 30, .int .i64 31, .int .i64 31, .int .i64 30, .int .i64 31, .int .i64 30, .int .i64 31] 210)) := hB2.alloc (by omega) _
  generalize w2.alloc (.cells #[.int .i64 31, .int .i64 (28 + lp y), .int .i64 31, .int .i64 30, .int .i64 31, .int .i64 30, .int .i64 31, .int .i64 31, .int .i64 30, .int .i64 31, .int .i64 30, .int .i64 31] 210) = W3 at HC hB3 ⊢
  clear hsl hK hB2 hl ha hc v1 v2
  go_loop [4, 26] (fun n i => ∃ k : Nat, k ≤ K ∧ i = .int .i64 k ∧ n = .int .i64 (ahd y + d - 1 + cum y ((k : Int) + 1))) (fun _ i => K - (intOf i).toNat)
  case atStart => exact ⟨0, Nat.zero_le _, rfl, by rw [show ((0 : Nat) : Int) + 1 = 1 from rfl, cum_one]; simp⟩
  case round =>
    obtain ⟨k, hk, rfl, rfl⟩ := hrel
    by_cases hlt : k < K
    · have hck := HC.out k (by omega)
      have hu := ml_bd y ((k : Int) + 1)
      have hcu := cum_bd y ((k : Int) + 1) (by omega) (by omega)
      have HS := Lib.hid (cum_succ y ((k : Int) + 1) (by omega) (by omega))
      generalize ml y ((k : Int) + 1) = u at *
      generalize cum y ((k : Int) + 1) = c at *
      go_wp2
      go_round
      case rel => exact ⟨k + 1, by omega, by go_num, by rw [show (((k + 1 : Nat) : Int) + 1) = (k : Int) + 1 + 1 by omega, HS.out]; go_num⟩
      case measure => simp [intOf]; omega
    · obtain rfl : k = K := by omega
      go_wp2
      go_ret2
      exact ⟨ret_ii (by unfold num; omega) rfl, hB3⟩

theorem number_any (y m d : Int) (w : World) : Calls Tryd.prog 134 #[.agg #[.int .i64 y, .int .i64 m, .int .i64 d]] w fun e w' => e = .returned (.tuple #[.int .i64 (if dayB y m d = true then num y m d else 0), .int .i64 (if dayB y m d = true then 0 else 30)]) ∧ Below w.heap.size w w' := by
  cases h : dayB y m d
  · exact number_no y m d h w
  · exact number_yes y m d h w

theorem of_no (n : Int) (h : n < 0 ∨ 109573 ≤ n) (w : World) : Calls Tryd.prog 135 #[.int .i64 n] w fun e w' => e = .returned (.tuple #[.agg #[.int .i64 0, .int .i64 0, .int .i64 0], .int .i64 30]) ∧ Below w.heap.size w w' := by
  rcases h with h | h
  · go_enter Tryd.func135, Tryd.ntmps135
    go_wp2
    exact bodyPost_ret (v := .tuple #[.agg #[.int .i64 0, .int .i64 0, .int .i64 0], .int .i64 30]) (by simp [results, Tryd.results135, go_sem]) rfl ⟨rfl, (Below.refl _ _).alloc (Nat.le_refl _) _⟩
  · have h' : ¬ n < 0 := by omega
    go_enter Tryd.func135, Tryd.ntmps135
    go_wp2
    exact bodyPost_ret (v := .tuple #[.agg #[.int .i64 0, .int .i64 0, .int .i64 0], .int .i64 30]) (by simp [results, Tryd.results135, go_sem]) rfl ⟨rfl, (Below.refl _ _).alloc (Nat.le_refl _) _⟩
/-- what the walk along the months ends with -/
theorem of_end {n Y : Int} (k : Nat) (hY : yOf n = Y) (hk : k ≤ 11) (h0 : 0 ≤ n - ahd Y - cum Y ((k : Int) + 1)) (h1 : n - ahd Y - cum Y ((k : Int) + 1) < ml Y ((k : Int) + 1)) : mOf n = (k : Int) + 1 ∧ dOf n = n - ahd Y - cum Y ((k : Int) + 1) + 1 := by
  have hs := cum_succ Y ((k : Int) + 1) (by omega) (by omega)
  have e : mOf n = (k : Int) + 1 := by
    unfold mOf
    rw [hY]
    exact mIn_uniq (by omega) (by omega) (by omega) (by omega)
  refine ⟨e, ?_⟩
  unfold dOf
  rw [e, hY]
theorem ahd_bd (y : Int) (h : 1899 ≤ y) (h' : y ≤ 2201) : -365 ≤ ahd y ∧ ahd y ≤ 109999 := by
  unfold ahd lps
  omega
set_option maxRecDepth 100000 in
set_option maxHeartbeats 1000000 in
theorem of_yes (n : Int) (h : 0 ≤ n) (h' : n < 109573) (w : World) : Calls Tryd.prog 135 #[.int .i64 n] w fun e w' => e = .returned (.tuple #[.agg #[.int .i64 (yOf n), .int .i64 (mOf n), .int .i64 (dOf n)], .int .i64 0]) ∧ Below w.heap.size w w' := by
  obtain ⟨y1, y2, y3, y4⟩ := yOf_bd n h h'
  have hg1 := ahd_bd (1900 + n / 365) (by omega) (by omega)
  have q1 : decide (n < 0) = false := by simpa using h
  have q2 : decide (109573 ≤ n) = false := by simpa using h'
  have ha := ahead_any (1900 + n / 365) (by omega) (by omega)
  by_cases hc : n < ahd (1900 + n / 365)
  · have hY : yOf n = 1900 + n / 365 - 1 := by unfold yOf; rw [if_pos hc]; omega
    rw [hY] at y1 y2 y3 y4
    have q3 : decide (n < ahd (1900 + n / 365)) = true := by simpa using hc
    have hg2 := ahd_bd (1900 + n / 365 - 1) (by omega) (by omega)
    have hb := ahead_any (1900 + n / 365 - 1) (by omega) (by omega)
    have hl := lengths_any (1900 + n / 365 - 1) (by omega) (by omega)
    have HA := Lib.hid (ahd_succ (1900 + n / 365 - 1))
    have HY := Lib.hid hY
    clear hY
    unfold mls at hl
    go_enter Tryd.func135, Tryd.ntmps135
    go_wp2_with (fail)
    refine (ha _).mono ?_
    rintro e w' ⟨rfl, rfl⟩
    go_wp2_with (fail)
    refine (hb _).mono ?_
    rintro e w' ⟨rfl, rfl⟩
    go_wp2_with (fail)
    refine (hl _).mono ?_
    rintro e w2 ⟨rfl, hb2⟩
    clear ha hb hl hg1 hc
    generalize 1900 + n / 365 - 1 = Y at *
    have hz2 : w.heap.size < w2.heap.size := by have := hb2.size; simp at this; omega
    have hB2 : Below w.heap.size w w2 := below_step ((Below.refl _ _).alloc (Nat.le_refl _) _) hb2 (by simp)
    have hres : w2.cell? ⟨w.heap.size, 0, none⟩ = some (.int .i64 0) ∧ w2.cell? ⟨w.heap.size, 1, none⟩ = some (.int .i64 0) ∧ w2.cell? ⟨w.heap.size, 2, none⟩ = some (.int .i64 0) := Day.below (day_new w 0 0 0 79) hb2 (by simp)
    have hres3 : Day (w2.alloc (.cells #[.int .i64 31, .int .i64 (28 + lp Y), .int .i64 31, .int .i64 30, .int .i64 31, .int .i64 30, .int .i64 31, .int .i64 31, .int .i64 30, .int .i64 31, .int .i64 30, .int .i64 31] 210)) w.heap.size 0 0 0 := Day.below hres ((Below.refl _ _).alloc (Nat.le_refl _) _) hz2
    have hfr3 : Free_DateB (w2.alloc (.cells #[.int .i64 31, .int .i64 (28 + lp Y), .int .i64 31, .int .i64 30, .int .i64 31, .int .i64 30, .int .i64 31, .int .i64 31, .int .i64 30, .int .i64 31, .int .i64 30, .int .i64 31] 210)) w.heap.size := Free_DateB.below (Free_DateB.below (free_new_DateB w #[.int .i64 0, .int .i64 0, .int .i64 0] 79) hb2 (by simp)) ((Below.refl _ _).alloc (Nat.le_refl _) _) hz2
    clear hb2 hres
    have hcell := mls_cell w2 Y 210
    unfold mls at hcell
    have HC := Lib.hid hcell
    clear hcell
    have hB3 : Below w.heap.size w (w2.alloc (.cells #[.int .i64 31, .int .i64 (28 + lp Y), .int .i64 31, .int .i64 30, .int .i64 31, .int .i64 30, .int .i64 31, .int .i64 31, .int .i64 30, .int .i64 31, .int .i64 30, .int .i64 31] 210)) := hB2.alloc (by omega) _
    go_wp2_with (fail)
    generalize w2.alloc (.cells #[.int .i64 31, .int .i64 (28 + lp Y), .int .i64 31, .int .i64 30, .int .i64 31, .int .i64 30, .int .i64 31, .int .i64 31, .int .i64 30, .int .i64 31, .int .i64 30, .int .i64 31] 210) = W3 at HC hB3 hres3 hfr3 ⊢
    generalize w2.heap.size = B2 at *
    have hsz := hB3.size
    clear hB2
    obtain ⟨r0, r1, r2⟩ := hres3
    obtain ⟨f0, f1, f2⟩ := hfr3
    have hl1 := cum_13 Y
    have hlp := lp_01 Y
    have HL := Lib.hid hl1
    have HA2 := HA.out
    have hr1 : n - ahd Y < 365 + lp Y := by omega
    have hr0 : 0 ≤ n - ahd Y := by omega
    clear HA HA2 hl1
    go_loop [5, 7] (fun l i => ∃ k : Nat, k ≤ 11 ∧ i = .int .i64 k ∧ l = .int .i64 (n - ahd Y - cum Y ((k : Int) + 1)) ∧ 0 ≤ n - ahd Y - cum Y ((k : Int) + 1)) (fun _ i => 12 - (intOf i).toNat)
    case atStart => exact ⟨0, by omega, rfl, by rw [show ((0 : Nat) : Int) + 1 = 1 from rfl, cum_one]; simp, by rw [show ((0 : Nat) : Int) + 1 = 1 from rfl, cum_one]; omega⟩
    case round =>
      obtain ⟨k, hk, rfl, rfl, hl0⟩ := hrel
      have hck := HC.out k (by omega)
      have hu := ml_bd Y ((k : Int) + 1)
      have hcu := cum_bd Y ((k : Int) + 1) (by omega) (by omega)
      by_cases hlt : ml Y ((k : Int) + 1) ≤ n - ahd Y - cum Y ((k : Int) + 1)
      · have hk2 : k < 11 := by
          rcases Nat.lt_or_ge k 11 with h11 | h11
          · exact h11
          · obtain rfl : k = 11 := by omega
            have hs := cum_succ Y 12 (by omega) (by omega)
            have h13 := HL.out
            rw [show (12 : Int) + 1 = 13 from rfl] at hs
            rw [show ((11 : Nat) : Int) + 1 = 12 from rfl] at hlt
            omega
        have HS := Lib.hid (cum_succ Y ((k : Int) + 1) (by omega) (by omega))
        generalize ml Y ((k : Int) + 1) = u at *
        generalize cum Y ((k : Int) + 1) = c at *
        generalize hLL : n - ahd Y - c = L at *
        have hLb : L ≤ 800 := by omega
        have HLL := Lib.hid hLL
        clear hLL
        go_wp2
        go_round
        case rel => exact ⟨k + 1, by omega, by go_num, by rw [show (((k + 1 : Nat) : Int) + 1) = (k : Int) + 1 + 1 by omega, HS.out]; have := HLL.out; go_num, by rw [show (((k + 1 : Nat) : Int) + 1) = (k : Int) + 1 + 1 by omega, HS.out]; have := HLL.out; omega⟩
        case measure => simp [intOf]; omega
      · have he := of_end k HY.out hk hl0 (by omega)
        have hyo := HY.out
        have E1 := Lib.hid he.1
        have E2 := Lib.hid he.2
        have E3 := Lib.hid hyo
        clear he hyo
        generalize ml Y ((k : Int) + 1) = u at *
        generalize hLL : n - ahd Y - cum Y ((k : Int) + 1) = L at *
        have hLb : L ≤ 800 := by omega
        clear hLL
        go_wp2
        exact bodyPost_ret (v := .tuple #[.agg #[.int .i64 Y, .int .i64 ((k : Int) + 1), .int .i64 (L + 1)], .int .i64 0]) (by simp [results, Tryd.results135, go_sem, r0, r1, r2]) rfl ⟨by rw [E1.out, E2.out, E3.out], ((hB3.setCell (Nat.le_refl _) _).setCell (Nat.le_refl _) _).setCell (Nat.le_refl _) _⟩
  · have hY : yOf n = 1900 + n / 365 := by unfold yOf; rw [if_neg hc]
    rw [hY] at y1 y2 y3 y4
    have q3 : decide (n < ahd (1900 + n / 365)) = false := by simpa using hc
    have hg2 := hg1
    have hl := lengths_any (1900 + n / 365) (by omega) (by omega)
    have HA := Lib.hid (ahd_succ (1900 + n / 365))
    have HY := Lib.hid hY
    clear hY
    unfold mls at hl
    go_enter Tryd.func135, Tryd.ntmps135
    go_wp2_with (fail)
    refine (ha _).mono ?_
    rintro e w' ⟨rfl, rfl⟩
    go_wp2_with (fail)
    refine (ha _).mono ?_
    rintro e w' ⟨rfl, rfl⟩
    go_wp2_with (fail)
    refine (hl _).mono ?_
    rintro e w2 ⟨rfl, hb2⟩
    clear ha hl hg1 hc
    generalize 1900 + n / 365 = Y at *
    have hz2 : w.heap.size < w2.heap.size := by have := hb2.size; simp at this; omega
    have hB2 : Below w.heap.size w w2 := below_step ((Below.refl _ _).alloc (Nat.le_refl _) _) hb2 (by simp)
    have hres : w2.cell? ⟨w.heap.size, 0, none⟩ = some (.int .i64 0) ∧ w2.cell? ⟨w.heap.size, 1, none⟩ = some (.int .i64 0) ∧ w2.cell? ⟨w.heap.size, 2, none⟩ = some (.int .i64 0) := Day.below (day_new w 0 0 0 79) hb2 (by simp)
    have hres3 : Day (w2.alloc (.cells #[.int .i64 31, .int .i64 (28 + lp Y), .int .i64 31, .int .i64 30, .int .i64 31, .int .i64 30, .int .i64 31, .int .i64 31, .int .i64 30, .int .i64 31, .int .i64 30, .int .i64 31] 210)) w.heap.size 0 0 0 := Day.below hres ((Below.refl _ _).alloc (Nat.le_refl _) _) hz2
    have hfr3 : Free_DateB (w2.alloc (.cells #[.int .i64 31, .int .i64 (28 + lp Y), .int .i64 31, .int .i64 30, .int .i64 31, .int .i64 30, .int .i64 31, .int .i64 31, .int .i64 30, .int .i64 31, .int .i64 30, .int .i64 31] 210)) w.heap.size := Free_DateB.below (Free_DateB.below (free_new_DateB w #[.int .i64 0, .int .i64 0, .int .i64 0] 79) hb2 (by simp)) ((Below.refl _ _).alloc (Nat.le_refl _) _) hz2
    clear hb2 hres
    have hcell := mls_cell w2 Y 210
    unfold mls at hcell
    have HC := Lib.hid hcell
    clear hcell
    have hB3 : Below w.heap.size w (w2.alloc (.cells #[.int .i64 31, .int .i64 (28 + lp Y), .int .i64 31, .int .i64 30, .int .i64 31, .int .i64 30, .int .i64 31, .int .i64 31, .int .i64 30, .int .i64 31, .int .i64 30, .int .i64 31] 210)) := hB2.alloc (by omega) _
    go_wp2_with (fail)
    generalize w2.alloc (.cells #[.int .i64 31, .int .i64 (28 + lp Y), .int .i64 31, .int .i64 30, .int .i64 31, .int .i64 30, .int .i64 31, .int .i64 31, .int .i64 30, .int .i64 31, .int .i64 30, .int .i64 31] 210) = W3 at HC hB3 hres3 hfr3 ⊢
    generalize w2.heap.size = B2 at *
    have hsz := hB3.size
    clear hB2
    obtain ⟨r0, r1, r2⟩ := hres3
    obtain ⟨f0, f1, f2⟩ := hfr3
    have hl1 := cum_13 Y
    have hlp := lp_01 Y
    have HL := Lib.hid hl1
    have HA2 := HA.out
    have hr1 : n - ahd Y < 365 + lp Y := by omega
    have hr0 : 0 ≤ n - ahd Y := by omega
    clear HA HA2 hl1
    go_loop [5, 7] (fun l i => ∃ k : Nat, k ≤ 11 ∧ i = .int .i64 k ∧ l = .int .i64 (n - ahd Y - cum Y ((k : Int) + 1)) ∧ 0 ≤ n - ahd Y - cum Y ((k : Int) + 1)) (fun _ i => 12 - (intOf i).toNat)
    case atStart => exact ⟨0, by omega, rfl, by rw [show ((0 : Nat) : Int) + 1 = 1 from rfl, cum_one]; simp, by rw [show ((0 : Nat) : Int) + 1 = 1 from rfl, cum_one]; omega⟩
    case round =>
      obtain ⟨k, hk, rfl, rfl, hl0⟩ := hrel
      have hck := HC.out k (by omega)
      have hu := ml_bd Y ((k : Int) + 1)
      have hcu := cum_bd Y ((k : Int) + 1) (by omega) (by omega)
      by_cases hlt : ml Y ((k : Int) + 1) ≤ n - ahd Y - cum Y ((k : Int) + 1)
      · have hk2 : k < 11 := by
          rcases Nat.lt_or_ge k 11 with h11 | h11
          · exact h11
          · obtain rfl : k = 11 := by omega
            have hs := cum_succ Y 12 (by omega) (by omega)
            have h13 := HL.out
            rw [show (12 : Int) + 1 = 13 from rfl] at hs
            rw [show ((11 : Nat) : Int) + 1 = 12 from rfl] at hlt
            omega
        have HS := Lib.hid (cum_succ Y ((k : Int) + 1) (by omega) (by omega))
        generalize ml Y ((k : Int) + 1) = u at *
        generalize cum Y ((k : Int) + 1) = c at *
        generalize hLL : n - ahd Y - c = L at *
        have hLb : L ≤ 800 := by omega
        have HLL := Lib.hid hLL
        clear hLL
        go_wp2
        go_round
        case rel => exact ⟨k + 1, by omega, by go_num, by rw [show (((k + 1 : Nat) : Int) + 1) = (k : Int) + 1 + 1 by omega, HS.out]; have := HLL.out; go_num, by rw [show (((k + 1 : Nat) : Int) + 1) = (k : Int) + 1 + 1 by omega, HS.out]; have := HLL.out; omega⟩
        case measure => simp [intOf]; omega
      · have he := of_end k HY.out hk hl0 (by omega)
        have hyo := HY.out
        have E1 := Lib.hid he.1
        have E2 := Lib.hid he.2
        have E3 := Lib.hid hyo
        clear he hyo
        generalize ml Y ((k : Int) + 1) = u at *
        generalize hLL : n - ahd Y - cum Y ((k : Int) + 1) = L at *
        have hLb : L ≤ 800 := by omega
        clear hLL
        go_wp2
        exact bodyPost_ret (v := .tuple #[.agg #[.int .i64 Y, .int .i64 ((k : Int) + 1), .int .i64 (L + 1)], .int .i64 0]) (by simp [results, Tryd.results135, go_sem, r0, r1, r2]) rfl ⟨by rw [E1.out, E2.out, E3.out], ((hB3.setCell (Nat.le_refl _) _).setCell (Nat.le_refl _) _).setCell (Nat.le_refl _) _⟩
end Go.Proofs.YtffihnbpjcgicaaDoor

/- What the calls of date answer that lean on a day's number: Weekday, Add. -/
namespace Go.Proofs.YtffihnbpjcgicaaDoor
open Go.RowKit
set_option linter.unusedVariables false
set_option linter.unusedSimpArgs false

/-- a day in its box, and a result's place behind it -/
def Two (W : World) (h : Nat) (y m d : Int) : Prop := Day W h y m d ∧ Day W (h + 1) 0 0 0 ∧ Free_DateB W (h + 1) ∧ h + 1 < W.heap.size
theorem Two.below {W W' : World} {h : Nat} {y m d : Int} (T : Two W h y m d) (hb : Below W.heap.size W W') : Two W' h y m d :=
  ⟨T.1.below hb (by have := T.2.2.2; omega), T.2.1.below hb T.2.2.2, T.2.2.1.below hb T.2.2.2, by have := T.2.2.2; have := hb.size; omega⟩
theorem two_new (w : World) (y m d : Int) (t t' : TypeId) : Two ((w.alloc (.cells #[.int .i64 y, .int .i64 m, .int .i64 d] t)).alloc (.cells #[.int .i64 0, .int .i64 0, .int .i64 0] t')) w.heap.size y m d := by
  have h1 := day_new (w.alloc (.cells #[.int .i64 y, .int .i64 m, .int .i64 d] t)) 0 0 0 t'
  have h2 := free_new_DateB (w.alloc (.cells #[.int .i64 y, .int .i64 m, .int .i64 d] t)) #[.int .i64 0, .int .i64 0, .int .i64 0] t'
  have hs : (w.alloc (.cells #[.int .i64 y, .int .i64 m, .int .i64 d] t)).heap.size = w.heap.size + 1 := by simp
  rw [hs] at h1 h2
  exact ⟨(day_new w y m d t).below ((Below.refl _ _).alloc (Nat.le_refl _) _) (by simp), h1, h2, by simp⟩
theorem two_base (w : World) (c c' : Array Value) (t t' : TypeId) : Below w.heap.size w ((w.alloc (.cells c t)).alloc (.cells c' t')) := ((Below.refl _ _).alloc (Nat.le_refl _) _).alloc (by simp) _

theorem add_no (y m d k : Int) (h : dayB y m d = false) (w : World) : Calls Tryd.prog 101 #[.agg #[.int .i64 y, .int .i64 m, .int .i64 d], .int .i64 k] w fun e w' => e = .returned (.tuple #[.agg #[.int .i64 0, .int .i64 0, .int .i64 0], .int .i64 30]) ∧ Below w.heap.size w w' := by
  have hc := number_no y m d h
  clear h
  have T0 := two_new w y m d 79 79
  have B0 := two_base w #[.int .i64 y, .int .i64 m, .int .i64 d] #[.int .i64 0, .int .i64 0, .int .i64 0] 79 79
  obtain ⟨⟨a0, a1, a2⟩, _⟩ := id T0
  go_enter Tryd.func101, Tryd.ntmps101
  go_wp2_with (fail)
  refine (hc _).mono ?_
  rintro e w1 ⟨rfl, hb⟩
  obtain ⟨⟨c0, c1, c2⟩, ⟨r0, r1, r2⟩, ⟨f0, f1, f2⟩, hz⟩ := T0.below hb
  have B1 := below_step B0 hb (by simp; omega)
  clear hb T0 B0
  go_wp2
  exact bodyPost_ret (v := .tuple #[.agg #[.int .i64 0, .int .i64 0, .int .i64 0], .int .i64 30]) (by simp [results, Tryd.results101, go_sem, r0, r1, r2]) rfl ⟨rfl, by first | exact B1 | exact ((B1.setCell (by simp) _).setCell (by simp) _).setCell (by simp) _⟩
theorem add_gen (y m d k s a b c e0 : Int) (h : dayB y m d = true) (hs : wrap64 (num y m d + k) = s) (hof : ∀ w, Calls Tryd.prog 135 #[.int .i64 s] w fun e w' => e = .returned (.tuple #[.agg #[.int .i64 a, .int .i64 b, .int .i64 c], .int .i64 e0]) ∧ Below w.heap.size w w') (w : World) :
    Calls Tryd.prog 101 #[.agg #[.int .i64 y, .int .i64 m, .int .i64 d], .int .i64 k] w fun e w' => e = .returned (.tuple #[.agg #[.int .i64 a, .int .i64 b, .int .i64 c], .int .i64 e0]) ∧ Below w.heap.size w w' := by
  have hc := number_yes y m d h
  clear h
  generalize num y m d = n at *
  have T0 := two_new w y m d 79 79
  have B0 := two_base w #[.int .i64 y, .int .i64 m, .int .i64 d] #[.int .i64 0, .int .i64 0, .int .i64 0] 79 79
  obtain ⟨⟨a0, a1, a2⟩, _⟩ := id T0
  go_enter Tryd.func101, Tryd.ntmps101
  go_wp2_with (fail)
  refine (hc _).mono ?_
  rintro e w1 ⟨rfl, hb⟩
  have T1 := T0.below hb
  have B1 := below_step B0 hb (by simp; omega)
  clear hb T0 B0
  go_wp2_with (fail)
  refine (hof _).mono ?_
  rintro e w2 ⟨rfl, hb⟩
  obtain ⟨⟨c0, c1, c2⟩, ⟨r0, r1, r2⟩, ⟨f0, f1, f2⟩, hz⟩ := T1.below hb
  have B2 := below_step B1 hb (by have := T1.2.2.2; omega)
  clear hb T1 B1
  go_wp2
  exact bodyPost_ret (v := .tuple #[.agg #[.int .i64 a, .int .i64 b, .int .i64 c], .int .i64 e0]) (by simp [results, Tryd.results101, go_sem, r0, r1, r2]) rfl ⟨rfl, ((B2.setCell (by simp) _).setCell (by simp) _).setCell (by simp) _⟩
theorem add_yes (y m d k : Int) (h : dayB y m d = true) (h0 : 0 ≤ num y m d + k) (h1 : num y m d + k < 109573) (w : World) :
    Calls Tryd.prog 101 #[.agg #[.int .i64 y, .int .i64 m, .int .i64 d], .int .i64 k] w fun e w' => e = .returned (.tuple #[.agg #[.int .i64 (yOf (num y m d + k)), .int .i64 (mOf (num y m d + k)), .int .i64 (dOf (num y m d + k))], .int .i64 0]) ∧ Below w.heap.size w w' :=
  add_gen y m d k (num y m d + k) _ _ _ 0 h (IntWalk.wrap64_in _ (by omega)) (of_yes _ h0 h1) w
theorem add_out (y m d k : Int) (h : dayB y m d = true) (hk : -9223372036854775808 ≤ k) (hk' : k ≤ 9223372036854775807) (h1 : num y m d + k < 0 ∨ 109573 ≤ num y m d + k) (w : World) :
    Calls Tryd.prog 101 #[.agg #[.int .i64 y, .int .i64 m, .int .i64 d], .int .i64 k] w fun e w' => e = .returned (.tuple #[.agg #[.int .i64 0, .int .i64 0, .int .i64 0], .int .i64 30]) ∧ Below w.heap.size w w' := by
  obtain ⟨_, _, n3, n4⟩ := num_bd h
  refine add_gen y m d k (wrap64 (num y m d + k)) 0 0 0 30 h rfl (of_no _ ?_) w
  by_cases hv : num y m d + k ≤ 9223372036854775807
  · rw [IntWalk.wrap64_in _ (by omega)]
    exact h1
  · left
    have : wrap64 (num y m d + k) = num y m d + k - 18446744073709551616 := by unfold wrap64; omega
    omega
end Go.Proofs.YtffihnbpjcgicaaDoor

/- What the calls of date answer that move by months and that compare: Months, Between, Compare. -/
namespace Go.Proofs.YtffihnbpjcgicaaDoor
open Go.RowKit
set_option linter.unusedVariables false
set_option linter.unusedSimpArgs false

theorem months_no (y m d k : Int) (h : dayB y m d = false) (w : World) : Calls Tryd.prog 71 #[.agg #[.int .i64 y, .int .i64 m, .int .i64 d], .int .i64 k] w fun e w' => e = .returned (.tuple #[.agg #[.int .i64 0, .int .i64 0, .int .i64 0], .int .i64 30]) ∧ Below w.heap.size w w' := by
  have hc := right_b y m d false h
  clear h
  have T0 := two_new w y m d 79 79
  have B0 := two_base w #[.int .i64 y, .int .i64 m, .int .i64 d] #[.int .i64 0, .int .i64 0, .int .i64 0] 79 79
  obtain ⟨⟨a0, a1, a2⟩, _⟩ := id T0
  go_enter Tryd.func71, Tryd.ntmps71
  go_wp2_with (fail)
  refine (hc _).mono ?_
  rintro e w1 ⟨rfl, hb⟩
  obtain ⟨⟨c0, c1, c2⟩, ⟨r0, r1, r2⟩, ⟨f0, f1, f2⟩, hz⟩ := T0.below hb
  have B1 := below_step B0 hb (by simp; omega)
  clear hb T0 B0
  go_wp2
  exact bodyPost_ret (v := .tuple #[.agg #[.int .i64 0, .int .i64 0, .int .i64 0], .int .i64 30]) (by simp [results, Tryd.results71, go_sem, r0, r1, r2]) rfl ⟨rfl, by first | exact B1 | exact ((B1.setCell (by simp) _).setCell (by simp) _).setCell (by simp) _⟩
theorem months_out' (y m d k t : Int) (h : dayB y m d = true) (ht : wrap64 ((y - 1900) * 12 + m - 1 + k) = t) (h0 : t < 0 ∨ 3600 ≤ t) (w : World) : Calls Tryd.prog 71 #[.agg #[.int .i64 y, .int .i64 m, .int .i64 d], .int .i64 k] w fun e w' => e = .returned (.tuple #[.agg #[.int .i64 0, .int .i64 0, .int .i64 0], .int .i64 30]) ∧ Below w.heap.size w w' := by
  have hc := right_b y m d true h
  obtain ⟨h1, h2, h3, h4, h5, h6⟩ := dayB_yes h
  clear h
  have T0 := two_new w y m d 79 79
  have B0 := two_base w #[.int .i64 y, .int .i64 m, .int .i64 d] #[.int .i64 0, .int .i64 0, .int .i64 0] 79 79
  obtain ⟨⟨a0, a1, a2⟩, _⟩ := id T0
  rcases h0 with h0 | h0
  · go_enter Tryd.func71, Tryd.ntmps71
    go_wp2_with (fail)
    refine (hc _).mono ?_
    rintro e w1 ⟨rfl, hb⟩
    obtain ⟨⟨c0, c1, c2⟩, ⟨r0, r1, r2⟩, ⟨f0, f1, f2⟩, hz⟩ := T0.below hb
    have B1 := below_step B0 hb (by simp; omega)
    clear hb T0 B0
    go_wp2
    exact bodyPost_ret (v := .tuple #[.agg #[.int .i64 0, .int .i64 0, .int .i64 0], .int .i64 30]) (by simp [results, Tryd.results71, go_sem, r0, r1, r2]) rfl ⟨rfl, by first | exact B1 | exact ((B1.setCell (by simp) _).setCell (by simp) _).setCell (by simp) _⟩
  · have h0' : ¬ t < 0 := by omega
    go_enter Tryd.func71, Tryd.ntmps71
    go_wp2_with (fail)
    refine (hc _).mono ?_
    rintro e w1 ⟨rfl, hb⟩
    obtain ⟨⟨c0, c1, c2⟩, ⟨r0, r1, r2⟩, ⟨f0, f1, f2⟩, hz⟩ := T0.below hb
    have B1 := below_step B0 hb (by simp; omega)
    clear hb T0 B0
    go_wp2
    exact bodyPost_ret (v := .tuple #[.agg #[.int .i64 0, .int .i64 0, .int .i64 0], .int .i64 30]) (by simp [results, Tryd.results71, go_sem, r0, r1, r2]) rfl ⟨rfl, by first | exact B1 | exact ((B1.setCell (by simp) _).setCell (by simp) _).setCell (by simp) _⟩
theorem months_out (y m d k : Int) (h : dayB y m d = true) (hk : -9223372036854775808 ≤ k) (hk' : k ≤ 9223372036854775807) (ht : mtB (mt y m k) = false) (w : World) : Calls Tryd.prog 71 #[.agg #[.int .i64 y, .int .i64 m, .int .i64 d], .int .i64 k] w fun e w' => e = .returned (.tuple #[.agg #[.int .i64 0, .int .i64 0, .int .i64 0], .int .i64 30]) ∧ Below w.heap.size w w' := by
  obtain ⟨h1, h2, h3, h4, h5, h6⟩ := dayB_yes h
  have ht := mtB_no ht
  refine months_out' y m d k _ h rfl ?_ w
  unfold mt at ht
  by_cases hv : (y - 1900) * 12 + m - 1 + k ≤ 9223372036854775807
  · rw [IntWalk.wrap64_in _ (by omega)]
    exact ht
  · left
    have : wrap64 ((y - 1900) * 12 + m - 1 + k) = (y - 1900) * 12 + m - 1 + k - 18446744073709551616 := by unfold wrap64; omega
    omega
/-- what the walk holds while a month's last day is asked for -/
def MK (h h1 : Nat) (w W : World) : Prop := Day W (h + 1) 0 0 0 ∧ Free_DateB W (h + 1) ∧ Free_DateB W h1 ∧ (∃ v, W.cell? ⟨h1, 2, none⟩ = some v) ∧ Below h w W ∧ h + 1 < h1 ∧ h1 < W.heap.size
/-- whatever lies in a place -/
def at2 (W : World) (b : Nat) : Value := (W.cell? ⟨b, 2, none⟩).getD undef
def MS (h h1 : Nat) (w : World) (d a b : Int) (W : World) : Prop := W.cell? ⟨h, 2, none⟩ = some (.int .i64 d) ∧ W.cell? ⟨h1, 0, none⟩ = some (.int .i64 a) ∧ W.cell? ⟨h1, 1, none⟩ = some (.int .i64 b) ∧ W.cell? ⟨h1, 2, none⟩ = some (at2 W h1) ∧ W.frozen? ⟨h1, 2, none⟩ = false ∧ MK h h1 w W
theorem MS.mk {h h1 : Nat} {w W : World} {d a b : Int} (m0 : W.cell? ⟨h, 2, none⟩ = some (.int .i64 d)) (m1 : W.cell? ⟨h1, 0, none⟩ = some (.int .i64 a)) (m2 : W.cell? ⟨h1, 1, none⟩ = some (.int .i64 b)) (k : MK h h1 w W) : MS h h1 w d a b W := by
  obtain ⟨v, hv⟩ := k.2.2.2.1
  exact ⟨m0, m1, m2, by unfold at2; rw [hv]; rfl, k.2.2.1.2.2, k⟩
theorem MS.step {h h1 : Nat} {w W W' : World} {d a b : Int} (hb : Below W.heap.size W W') (M : MS h h1 w d a b W) : MS h h1 w d a b W' := by
  obtain ⟨m0, m1, m2, _, _, m3, m4, m5, ⟨v, m6⟩, m7, m8, m9⟩ := M
  exact MS.mk ((hb.cell (p := ⟨h, 2, none⟩) (by show h < _; omega)).trans m0) ((hb.cell (p := ⟨h1, 0, none⟩) m9).trans m1) ((hb.cell (p := ⟨h1, 1, none⟩) m9).trans m2) ⟨m3.below hb (by omega), m4.below hb (by omega), m5.below hb m9,
    ⟨v, (hb.cell (p := ⟨h1, 2, none⟩) m9).trans m6⟩, below_step m7 hb (by omega), m8, by have := hb.size; omega⟩
theorem MS.store {h h1 : Nat} {w W : World} {d a b : Int} (v : Value) (M : MS h h1 w d a b W) : MS h h1 w d a b (W.setCell ⟨h1, 2, none⟩ v) := by
  obtain ⟨m0, m1, m2, _, _, m3, m4, m5, ⟨u, m6⟩, m7, m8, m9⟩ := M
  obtain ⟨q0, q1, q2⟩ := m3
  obtain ⟨f0, f1, f2⟩ := m4
  obtain ⟨g0, g1, g2⟩ := m5
  have o : ∀ (bb oo : Nat), (bb ≠ h1 ∨ oo ≠ 2) → (W.setCell ⟨h1, 2, none⟩ v).cell? ⟨bb, oo, none⟩ = W.cell? ⟨bb, oo, none⟩ := fun bb oo hne => World.cell?_setCell_other _ _ _ _ (by intro e; simp only [Addr.mk.injEq] at e; omega)
  refine MS.mk ((o _ _ (by omega)).trans m0) ((o _ _ (by omega)).trans m1) ((o _ _ (by omega)).trans m2) ⟨⟨(o _ _ (by omega)).trans q0, (o _ _ (by omega)).trans q1, (o _ _ (by omega)).trans q2⟩, ⟨?_, ?_, ?_⟩, ⟨?_, ?_, ?_⟩, ⟨v, World.cell?_setCell_same _ _ _ m6⟩, m7.setCell (by show h ≤ h1; omega) _, m8, by simpa using m9⟩
  all_goals rw [World.frozen?_setCell]
  all_goals assumption
theorem ms_start (w w1 : World) (y m d a b : Int) (t : TypeId) (hd : w1.cell? ⟨w.heap.size, 2, none⟩ = some (.int .i64 d)) (hr : Day w1 (w.heap.size + 1) 0 0 0) (hf : Free_DateB w1 (w.heap.size + 1)) (hz : w.heap.size + 1 < w1.heap.size) (hB : Below w.heap.size w w1) :
    MS w.heap.size w1.heap.size w d a b (w1.alloc (.cells #[.int .i64 a, .int .i64 b, .int .i64 0] t)).drew := by
  have hb : Below w1.heap.size w1 (w1.alloc (.cells #[.int .i64 a, .int .i64 b, .int .i64 0] t)) := (Below.refl _ _).alloc (Nat.le_refl _) _
  obtain ⟨n0, n1, n2⟩ := day_new w1 a b 0 t
  obtain ⟨z0, z1, z2⟩ := free_new_DateB w1 #[.int .i64 a, .int .i64 b, .int .i64 0] t
  obtain ⟨r0, r1, r2⟩ := hr.below hb (by omega)
  obtain ⟨f0, f1, f2⟩ := hf.below hb (by omega)
  exact MS.mk ((hb.cell (p := ⟨w.heap.size, 2, none⟩) (by show w.heap.size < _; omega)).trans hd) n0 n1 ⟨⟨r0, r1, r2⟩, ⟨f0, f1, f2⟩, ⟨z0, z1, z2⟩, ⟨_, n2⟩, (hB.alloc (by omega) _).drew, hz, by show w1.heap.size < (w1.alloc _).heap.size; simp⟩
set_option maxHeartbeats 1000000 in
theorem months_yes (y m d k : Int) (h : dayB y m d = true) (ht : mtB (mt y m k) = true) (w : World) : Calls Tryd.prog 71 #[.agg #[.int .i64 y, .int .i64 m, .int .i64 d], .int .i64 k] w fun e w' => e = .returned (.tuple #[.agg #[.int .i64 (yM (mt y m k)), .int .i64 (mM (mt y m k)), .int .i64 (dM (mt y m k) d)], .int .i64 0]) ∧ Below w.heap.size w w' := by
  have hc := right_b y m d true h
  obtain ⟨h1, h2, h3, h4, h5, h6⟩ := dayB_yes h
  obtain ⟨t1, t2⟩ := mtB_yes ht
  have hv : wrap64 ((y - 1900) * 12 + m - 1 + k) = mt y m k := by unfold mt; exact IntWalk.wrap64_in _ (by unfold mt at t1 t2; omega)
  clear h ht
  generalize mt y m k = t at *
  have hla := last_any (yM t) (mM t)
  have hlm : lastM (yM t) (mM t) = ml (yM t) (mM t) := by unfold lastM; rw [if_pos (by unfold yM mM; omega)]
  have hdm : dM t d = min d (ml (yM t) (mM t)) := by unfold dM; split <;> omega
  rw [hlm] at hla
  rw [hdm]
  generalize ml (yM t) (mM t) = u at *
  have e1 : yM t = 1900 + t / 12 := rfl
  have e2 : mM t = t % 12 + 1 := rfl
  rw [e1, e2] at *
  clear hlm hdm e1 e2
  have T0 := two_new w y m d 79 79
  have B0 := two_base w #[.int .i64 y, .int .i64 m, .int .i64 d] #[.int .i64 0, .int .i64 0, .int .i64 0] 79 79
  obtain ⟨⟨a0, a1, a2⟩, _⟩ := id T0
  go_enter Tryd.func71, Tryd.ntmps71
  go_wp2_with (fail)
  refine (hc _).mono ?_
  rintro e w1 ⟨rfl, hb⟩
  obtain ⟨⟨c0, c1, c2⟩, ⟨r0, r1, r2⟩, ⟨f0, f1, f2⟩, hz⟩ := T0.below hb
  have B1 := below_step B0 hb (by simp; omega)
  clear hb T0 B0
  go_wp2
  have M0 := ms_start w w1 y m d (1900 + t / 12) (t % 12 + 1) 79 c2 ⟨r0, r1, r2⟩ ⟨f0, f1, f2⟩ hz B1
  go_region_held3 (fun W => W.cell? ⟨w.heap.size, 2, none⟩ = some (.int .i64 d) ∧ W.cell? ⟨w1.heap.size, 0, none⟩ = some (.int .i64 (1900 + t / 12)) ∧ W.cell? ⟨w1.heap.size, 1, none⟩ = some (.int .i64 (t % 12 + 1)) ∧ W.cell? ⟨w1.heap.size, 2, none⟩ = some (at2 W w1.heap.size) ∧ W.frozen? ⟨w1.heap.size, 2, none⟩ = false ∧ MK w.heap.size w1.heap.size w W)
    ((first | exact M0 | exact MS.step hb (by assumption) | exact MS.store _ (by assumption) | (trace_state; fail)))
    (first | (go_at_call 100; refine (hla _).mono ?_; rintro e w2 ⟨rfl, hb⟩))
  have hH := MS.step hb M0
  obtain ⟨v2, hv2⟩ := hH.2.2.2.2.2.2.2.2.1
  obtain ⟨m0, m1, m2, _, _, ⟨q0, q1, q2⟩, ⟨g0, g1, g2⟩, _, _, B3, hz3, hz4⟩ := MS.store (.int .i64 (min d u)) hH
  have m3 := World.cell?_setCell_same w2 ⟨w1.heap.size, 2, none⟩ (.int .i64 (min d u)) hv2
  clear hH hv2 hb M0
  generalize w2.setCell ⟨w1.heap.size, 2, none⟩ (.int .i64 (min d u)) = W3 at *
  have hat : at2 W3 w1.heap.size = .int .i64 (min d u) := by unfold at2; rw [m3]; rfl
  go_wp2
  exact bodyPost_ret (v := .tuple #[.agg #[.int .i64 (1900 + t / 12), .int .i64 (t % 12 + 1), .int .i64 (min d u)], .int .i64 0]) (by simp [results, Tryd.results71, go_sem, q0, q1, q2]) rfl ⟨rfl, ((B3.setCell (by simp) _).setCell (by simp) _).setCell (by simp) _⟩

/-- two days in their boxes -/
def Box2 (W : World) (h : Nat) (y m d y' m' d' : Int) : Prop := Day W h y m d ∧ Day W (h + 1) y' m' d' ∧ h + 1 < W.heap.size
theorem Box2.below {W W' : World} {h : Nat} {y m d y' m' d' : Int} (T : Box2 W h y m d y' m' d') (hb : Below W.heap.size W W') : Box2 W' h y m d y' m' d' :=
  ⟨T.1.below hb (by have := T.2.2; omega), T.2.1.below hb T.2.2, by have := T.2.2; have := hb.size; omega⟩
theorem box2_new (w : World) (y m d y' m' d' : Int) (t t' : TypeId) : Box2 ((w.alloc (.cells #[.int .i64 y, .int .i64 m, .int .i64 d] t)).alloc (.cells #[.int .i64 y', .int .i64 m', .int .i64 d'] t')) w.heap.size y m d y' m' d' := by
  have h1 := day_new (w.alloc (.cells #[.int .i64 y, .int .i64 m, .int .i64 d] t)) y' m' d' t'
  have hs : (w.alloc (.cells #[.int .i64 y, .int .i64 m, .int .i64 d] t)).heap.size = w.heap.size + 1 := by simp
  rw [hs] at h1
  exact ⟨(day_new w y m d t).below ((Below.refl _ _).alloc (Nat.le_refl _) _) (by simp), h1, by simp⟩

theorem numbers_no (y m d y' m' d' : Int) (h : dayB y m d = false ∨ dayB y' m' d' = false) (w : World) :
    Calls Tryd.prog 147 #[.agg #[.int .i64 y, .int .i64 m, .int .i64 d], .agg #[.int .i64 y', .int .i64 m', .int .i64 d']] w fun e w' => e = .returned (.tuple #[.int .i64 0, .int .i64 0, .int .i64 30]) ∧ Below w.heap.size w w' := by
  have T0 := box2_new w y m d y' m' d' 79 79
  have B0 := two_base w #[.int .i64 y, .int .i64 m, .int .i64 d] #[.int .i64 y', .int .i64 m', .int .i64 d'] 79 79
  obtain ⟨⟨a0, a1, a2⟩, ⟨b0, b1, b2⟩, _⟩ := id T0
  cases h1 : dayB y m d
  · have hc := right_b y m d false h1
    clear h h1
    go_enter Tryd.func147, Tryd.ntmps147
    go_wp2_with (fail)
    refine (hc _).mono ?_
    rintro e w1 ⟨rfl, hb⟩
    have B1 := below_step B0 hb (by simp; omega)
    go_wp2
    go_ret3
    exact ⟨rfl, B1⟩
  · have h2 : dayB y' m' d' = false := by
      rcases h with h | h
      · rw [h1] at h; exact Bool.noConfusion h
      · exact h
    have hc := right_b y m d true h1
    have hd := right_b y' m' d' false h2
    clear h h1 h2
    go_enter Tryd.func147, Tryd.ntmps147
    go_wp2_with (fail)
    refine (hc _).mono ?_
    rintro e w1 ⟨rfl, hb⟩
    have T1 := T0.below hb
    obtain ⟨⟨c0, c1, c2⟩, ⟨d0, d1, d2⟩, _⟩ := id T1
    have B1 := below_step B0 hb (by simp; omega)
    clear hb T0 B0
    go_wp2_with (fail)
    refine (hd _).mono ?_
    rintro e w2 ⟨rfl, hb⟩
    have B2 := below_step B1 hb (by have := T1.2.2; omega)
    go_wp2
    go_ret3
    exact ⟨rfl, B2⟩
theorem numbers_yes (y m d y' m' d' : Int) (h : dayB y m d = true) (h' : dayB y' m' d' = true) (w : World) :
    Calls Tryd.prog 147 #[.agg #[.int .i64 y, .int .i64 m, .int .i64 d], .agg #[.int .i64 y', .int .i64 m', .int .i64 d']] w fun e w' => e = .returned (.tuple #[.int .i64 (num y m d), .int .i64 (num y' m' d'), .int .i64 0]) ∧ Below w.heap.size w w' := by
  have T0 := box2_new w y m d y' m' d' 79 79
  have B0 := two_base w #[.int .i64 y, .int .i64 m, .int .i64 d] #[.int .i64 y', .int .i64 m', .int .i64 d'] 79 79
  obtain ⟨⟨a0, a1, a2⟩, ⟨b0, b1, b2⟩, _⟩ := id T0
  have hc := right_b y m d true h
  have hd := right_b y' m' d' true h'
  have ha := number_yes y m d h
  have hb' := number_yes y' m' d' h'
  clear h h'
  generalize num y m d = n at *
  generalize num y' m' d' = n' at *
  go_enter Tryd.func147, Tryd.ntmps147
  go_wp2_with (fail)
  refine (hc _).mono ?_
  rintro e w1 ⟨rfl, hb⟩
  have T1 := T0.below hb
  obtain ⟨⟨c0, c1, c2⟩, ⟨d0, d1, d2⟩, _⟩ := id T1
  have B1 := below_step B0 hb (by simp; omega)
  clear hb T0 B0 a0 a1 a2 b0 b1 b2
  go_wp2_with (fail)
  refine (hd _).mono ?_
  rintro e w2 ⟨rfl, hb⟩
  have T2 := T1.below hb
  have B2 := below_step B1 hb (by have := T1.2.2; omega)
  clear hb T1 B1 c0 c1 c2 d0 d1 d2
  obtain ⟨⟨c0, c1, c2⟩, ⟨d0, d1, d2⟩, _⟩ := id T2
  go_wp2_with (fail)
  refine (ha _).mono ?_
  rintro e w3 ⟨rfl, hb⟩
  have T3 := T2.below hb
  have B3 := below_step B2 hb (by have := T2.2.2; omega)
  clear hb T2 B2 c0 c1 c2 d0 d1 d2
  obtain ⟨⟨c0, c1, c2⟩, ⟨d0, d1, d2⟩, _⟩ := id T3
  go_wp2_with (fail)
  refine (hb' _).mono ?_
  rintro e w4 ⟨rfl, hb⟩
  have B4 := below_step B3 hb (by have := T3.2.2; omega)
  go_wp2
  go_ret3
  exact ⟨rfl, B4⟩
theorem between_gen (y m d y' m' d' a b c : Int) (ha : 0 ≤ a) (ha' : a < 109573) (hb0 : 0 ≤ b) (hb' : b < 109573) (hn : ∀ w, Calls Tryd.prog 147 #[.agg #[.int .i64 y, .int .i64 m, .int .i64 d], .agg #[.int .i64 y', .int .i64 m', .int .i64 d']] w fun e w' => e = .returned (.tuple #[.int .i64 a, .int .i64 b, .int .i64 c]) ∧ Below w.heap.size w w') (w : World) :
    Calls Tryd.prog 107 #[.agg #[.int .i64 y, .int .i64 m, .int .i64 d], .agg #[.int .i64 y', .int .i64 m', .int .i64 d']] w fun e w' => e = .returned (.tuple #[.int .i64 (b - a), .int .i64 c]) ∧ Below w.heap.size w w' := by
  have T0 := box2_new w y m d y' m' d' 79 79
  have B0 := two_base w #[.int .i64 y, .int .i64 m, .int .i64 d] #[.int .i64 y', .int .i64 m', .int .i64 d'] 79 79
  obtain ⟨⟨a0, a1, a2⟩, ⟨b0, b1, b2⟩, _⟩ := id T0
  go_enter Tryd.func107, Tryd.ntmps107
  go_wp2_with (fail)
  refine (hn _).mono ?_
  rintro e w1 ⟨rfl, hb⟩
  have B1 := below_step B0 hb (by simp; omega)
  go_wp2
  go_ret2
  exact ⟨rfl, B1⟩
theorem between_yes (y m d y' m' d' : Int) (h : dayB y m d = true) (h' : dayB y' m' d' = true) (w : World) :
    Calls Tryd.prog 107 #[.agg #[.int .i64 y, .int .i64 m, .int .i64 d], .agg #[.int .i64 y', .int .i64 m', .int .i64 d']] w fun e w' => e = .returned (.tuple #[.int .i64 (num y' m' d' - num y m d), .int .i64 0]) ∧ Below w.heap.size w w' := by
  obtain ⟨_, _, a, b⟩ := num_bd h
  obtain ⟨_, _, c, d0⟩ := num_bd h'
  exact between_gen y m d y' m' d' _ _ 0 a b c d0 (numbers_yes y m d y' m' d' h h') w
theorem between_no (y m d y' m' d' : Int) (h : dayB y m d = false ∨ dayB y' m' d' = false) (w : World) :
    Calls Tryd.prog 107 #[.agg #[.int .i64 y, .int .i64 m, .int .i64 d], .agg #[.int .i64 y', .int .i64 m', .int .i64 d']] w fun e w' => e = .returned (.tuple #[.int .i64 0, .int .i64 30]) ∧ Below w.heap.size w w' :=
  between_gen y m d y' m' d' 0 0 30 (by omega) (by omega) (by omega) (by omega) (numbers_no y m d y' m' d' h) w

end Go.Proofs.YtffihnbpjcgicaaDoor

/- Workdays counted, by plain numbers; no program in sight. -/
namespace Go.Proofs.YtffihnbpjcgicaaDoor

/-- how many days of a weekday are among some numbers -/
def onD (last first wd : Int) : Int := (last - wd + 7) / 7 - (first - 1 - wd + 7) / 7
/-- how many of k days from n on are workdays -/
def wkc (n k : Int) : Int := onD (n + k - 1) n 0 + onD (n + k - 1) n 1 + onD (n + k - 1) n 2 + onD (n + k - 1) n 3 + onD (n + k - 1) n 4
theorem wkc_zero (n : Int) : wkc n 0 = 0 := by unfold wkc onD; omega
theorem wkc_yes {n k : Int} (h : (n + k) % 7 < 5) : wkc n (k + 1) = wkc n k + 1 := by unfold wkc onD; omega
theorem wkc_no {n k : Int} (h : ¬ (n + k) % 7 < 5) : wkc n (k + 1) = wkc n k := by unfold wkc onD; omega
theorem onD_bd {last first wd : Int} (h0 : 0 ≤ first) (h1 : first ≤ last) (h2 : last < 109573) : 0 ≤ onD last first wd ∧ onD last first wd ≤ 20000 := by unfold onD; omega
/-- the last workday that isn't behind a day -/
def bkN (n : Int) : Int := n - (if n % 7 - 4 ≤ 0 then 0 else n % 7 - 4)
theorem bkN_bd (n : Int) : n - 2 ≤ bkN n ∧ bkN n ≤ n ∧ bkN n % 7 < 5 ∧ (0 ≤ n → 0 ≤ bkN n) := by
  unfold bkN
  split <;> omega
end Go.Proofs.YtffihnbpjcgicaaDoor

/- What the calls of date answer that compare days, and that tell workdays: Compare, Workday, Back. -/
namespace Go.Proofs.YtffihnbpjcgicaaDoor
open Go.RowKit
set_option linter.unusedVariables false
set_option linter.unusedSimpArgs false

theorem cmp3_same (y m d : Int) : cmp3 y m d y m d = 0 := by unfold cmp3; simp

end Go.Proofs.YtffihnbpjcgicaaDoor
