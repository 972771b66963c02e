/- What the calls of date answer that tell which days there are: Leap, lengths, Last, Right; and the document's own. -/
import Derived.Test.YtkgfmanolanlhaaDoorCal
import Derived.Test.YtkgfmanolanlhaaDoorPlain
import Derived.Test.YtkgfmanolanlhaaDoorProg
import Derived.WalkKit
import Derived.WalkSpells
import Derived.WalkLawsBesides
import Derived.Lib.Hide
import Derived.Deep.RegionHeld3
import Derived.Deep.QuietTactic
import Derived.BigQuiet
namespace Go.Proofs.YtkgfmanolanlhaaDoor
open Go.RowKit
set_option linter.unusedVariables false
set_option linter.unusedSimpArgs false

theorem below_step {B : Nat} {a b c : World} (h : Below B a b) (h2 : Below b.heap.size b c) (hB : B ≤ b.heap.size) : Below B a c := h.trans (h2.mono hB)

theorem leap_yes (y : Int) (h : 1 ≤ y) (h' : y ≤ 9999) (hl : lp y = 1) (w : World) : Calls Tryd.prog 28 #[.int .i64 y] w fun e w' => e = .returned (.bool true) ∧ w = w' := by
  have h4 : y % 4 = 0 := by unfold lp at hl; split at hl <;> omega
  have h1 : y % 100 ≠ 0 ∨ y % 400 = 0 := by unfold lp at hl; split at hl <;> omega
  clear hl
  have e4 : (y % 4 == 0) = true := by simpa using h4
  by_cases hb : y % 100 = 0
  · have e1 : (y % 100 != 0) = false := by simpa using hb
    have e2 : (y % 400 == 0) = true := by simp; omega
    clear h4 h1 hb
    go_enter Tryd.func28, Tryd.ntmps28
    go_wp2
    go_ret
    exact ⟨rfl, rfl⟩
  · have e1 : (y % 100 != 0) = true := by simpa using hb
    clear h4 h1 hb
    go_enter Tryd.func28, Tryd.ntmps28
    go_wp2
    go_ret
    exact ⟨rfl, rfl⟩
theorem leap_no (y : Int) (h : 1 ≤ y) (h' : y ≤ 9999) (hl : lp y = 0) (w : World) : Calls Tryd.prog 28 #[.int .i64 y] w fun e w' => e = .returned (.bool false) ∧ w = w' := by
  have h1 : y % 400 ≠ 0 ∧ (y % 4 ≠ 0 ∨ y % 100 = 0) := by unfold lp at hl; split at hl <;> omega
  clear hl
  obtain ⟨h4, h1⟩ := h1
  have e2 : (y % 400 == 0) = false := by simpa using h4
  by_cases hb : y % 4 = 0
  · have e4 : (y % 4 == 0) = true := by simpa using hb
    have e1 : (y % 100 != 0) = false := by simp; omega
    clear h4 h1 hb
    go_enter Tryd.func28, Tryd.ntmps28
    go_wp2
    go_ret
    exact ⟨rfl, rfl⟩
  · have e4 : (y % 4 == 0) = false := by simpa using hb
    clear h4 h1 hb
    go_enter Tryd.func28, Tryd.ntmps28
    go_wp2
    go_ret
    exact ⟨rfl, rfl⟩

/-- how many days each month has -/
def mls (y : Int) : Array Value := #[.int .i64 31, .int .i64 (28 + lp y), .int .i64 31, .int .i64 30, .int .i64 31, .int .i64 30, .int .i64 31, .int .i64 31, .int .i64 30, .int .i64 31, .int .i64 30, .int .i64 31]
theorem lengths_any (y : Int) (h : 1 ≤ y) (h' : y ≤ 9999) (w : World) :
    Calls Tryd.prog 43 #[.int .i64 y] w fun e w' => e = .returned (.agg (mls y)) ∧ Below w.heap.size w w' := by
  have hl : lp y = 0 ∨ lp y = 1 := by have := lp_01 y; omega
  rcases hl with hl | hl
  · have hc := leap_no y h h' hl
    have em : mls y = #[.int .i64 31, .int .i64 28, .int .i64 31, .int .i64 30, .int .i64 31, .int .i64 30, .int .i64 31, .int .i64 31, .int .i64 30, .int .i64 31, .int .i64 30, .int .i64 31] := by unfold mls; rw [hl]; rfl
    rw [em]
    clear em hl
    go_enter Tryd.func43, Tryd.ntmps43
    go_wp2_with (fail)
    refine (hc _).mono ?_
    rintro e w' ⟨rfl, rfl⟩
    go_wp2
    exact bodyPost_ret (v := .agg #[.int .i64 31, .int .i64 28, .int .i64 31, .int .i64 30, .int .i64 31, .int .i64 30, .int .i64 31, .int .i64 31, .int .i64 30, .int .i64 31, .int .i64 30, .int .i64 31]) (by simp [results, Tryd.results43, go_sem]) rfl ⟨rfl, ((Below.refl _ _).alloc (Nat.le_refl _) _).alloc (by simp) _⟩
  · have hc := leap_yes y h h' hl
    have em : mls y = #[.int .i64 31, .int .i64 29, .int .i64 31, .int .i64 30, .int .i64 31, .int .i64 30, .int .i64 31, .int .i64 31, .int .i64 30, .int .i64 31, .int .i64 30, .int .i64 31] := by unfold mls; rw [hl]; rfl
    rw [em]
    clear em hl
    go_enter Tryd.func43, Tryd.ntmps43
    go_wp2_with (fail)
    refine (hc _).mono ?_
    rintro e w' ⟨rfl, rfl⟩
    go_wp2
    exact bodyPost_ret (v := .agg #[.int .i64 31, .int .i64 29, .int .i64 31, .int .i64 30, .int .i64 31, .int .i64 30, .int .i64 31, .int .i64 31, .int .i64 30, .int .i64 31, .int .i64 30, .int .i64 31]) (by simp [results, Tryd.results43, go_sem]) rfl ⟨rfl, ((Below.refl _ _).alloc (Nat.le_refl _) _).alloc (by simp) _⟩

theorem last_no (y m : Int) (h : y < 1900 ∨ 2199 < y ∨ m < 1 ∨ 12 < m) (w : World) : Calls Tryd.prog 16 #[.int .i64 y, .int .i64 m] w fun e w' => e = .returned (.int .i64 (lastM y m)) ∧ Below w.heap.size w w' := by
  have e : lastM y m = 0 := by unfold lastM; rw [if_neg (by omega)]
  rw [e]
  clear e
  by_cases h1 : y < 1900
  · clear h
    go_enter Tryd.func16, Tryd.ntmps16
    go_wp2
    go_ret
    exact ⟨rfl, Below.refl _ _⟩
  by_cases h2 : 2199 < y
  · clear h
    go_enter Tryd.func16, Tryd.ntmps16
    go_wp2
    go_ret
    exact ⟨rfl, Below.refl _ _⟩
  by_cases h3 : m < 1
  · clear h
    go_enter Tryd.func16, Tryd.ntmps16
    go_wp2
    go_ret
    exact ⟨rfl, Below.refl _ _⟩
  · have h4 : 12 < m := by omega
    clear h
    go_enter Tryd.func16, Tryd.ntmps16
    go_wp2
    go_ret
    exact ⟨rfl, Below.refl _ _⟩
theorem month_cases {m : Int} (h : 1 ≤ m) (h' : m ≤ 12) : m = 1 ∨ m = 2 ∨ m = 3 ∨ m = 4 ∨ m = 5 ∨ m = 6 ∨ m = 7 ∨ m = 8 ∨ m = 9 ∨ m = 10 ∨ m = 11 ∨ m = 12 := by omega
theorem index12_0 (l : Int) (W : World) : (Instr.index 56 (.agg #[.int .i64 31, .int .i64 (28 + l), .int .i64 31, .int .i64 30, .int .i64 31, .int .i64 30, .int .i64 31, .int .i64 31, .int .i64 30, .int .i64 31, .int .i64 30, .int .i64 31]) (.int .i64 0)).run Tryd.prog W = .ok (.int .i64 31) W := by kernel_rfl
theorem index12_1 (l : Int) (W : World) : (Instr.index 56 (.agg #[.int .i64 31, .int .i64 (28 + l), .int .i64 31, .int .i64 30, .int .i64 31, .int .i64 30, .int .i64 31, .int .i64 31, .int .i64 30, .int .i64 31, .int .i64 30, .int .i64 31]) (.int .i64 1)).run Tryd.prog W = .ok (.int .i64 (28 + l)) W := by kernel_rfl
theorem index12_2 (l : Int) (W : World) : (Instr.index 56 (.agg #[.int .i64 31, .int .i64 (28 + l), .int .i64 31, .int .i64 30, .int .i64 31, .int .i64 30, .int .i64 31, .int .i64 31, .int .i64 30, .int .i64 31, .int .i64 30, .int .i64 31]) (.int .i64 2)).run Tryd.prog W = .ok (.int .i64 31) W := by kernel_rfl
theorem index12_3 (l : Int) (W : World) : (Instr.index 56 (.agg #[.int .i64 31, .int .i64 (28 + l), .int .i64 31, .int .i64 30, .int .i64 31, .int .i64 30, .int .i64 31, .int .i64 31, .int .i64 30, .int .i64 31, .int .i64 30, .int .i64 31]) (.int .i64 3)).run Tryd.prog W = .ok (.int .i64 30) W := by kernel_rfl
theorem index12_4 (l : Int) (W : World) : (Instr.index 56 (.agg #[.int .i64 31, .int .i64 (28 + l), .int .i64 31, .int .i64 30, .int .i64 31, .int .i64 30, .int .i64 31, .int .i64 31, .int .i64 30, .int .i64 31, .int .i64 30, .int .i64 31]) (.int .i64 4)).run Tryd.prog W = .ok (.int .i64 31) W := by kernel_rfl
theorem index12_5 (l : Int) (W : World) : (Instr.index 56 (.agg #[.int .i64 31, .int .i64 (28 + l), .int .i64 31, .int .i64 30, .int .i64 31, .int .i64 30, .int .i64 31, .int .i64 31, .int .i64 30, .int .i64 31, .int .i64 30, .int .i64 31]) (.int .i64 5)).run Tryd.prog W = .ok (.int .i64 30) W := by kernel_rfl
theorem index12_6 (l : Int) (W : World) : (Instr.index 56 (.agg #[.int .i64 31, .int .i64 (28 + l), .int .i64 31, .int .i64 30, .int .i64 31, .int .i64 30, .int .i64 31, .int .i64 31, .int .i64 30, .int .i64 31, .int .i64 30, .int .i64 31]) (.int .i64 6)).run Tryd.prog W = .ok (.int .i64 31) W := by kernel_rfl
theorem index12_7 (l : Int) (W : World) : (Instr.index 56 (.agg #[.int .i64 31, .int .i64 (28 + l), .int .i64 31, .int .i64 30, .int .i64 31, .int .i64 30, .int .i64 31, .int .i64 31, .int .i64 30, .int .i64 31, .int .i64 30, .int .i64 31]) (.int .i64 7)).run Tryd.prog W = .ok (.int .i64 31) W := by kernel_rfl
theorem index12_8 (l : Int) (W : World) : (Instr.index 56 (.agg #[.int .i64 31, .int .i64 (28 + l), .int .i64 31, .int .i64 30, .int .i64 31, .int .i64 30, .int .i64 31, .int .i64 31, .int .i64 30, .int .i64 31, .int .i64 30, .int .i64 31]) (.int .i64 8)).run Tryd.prog W = .ok (.int .i64 30) W := by kernel_rfl
theorem index12_9 (l : Int) (W : World) : (Instr.index 56 (.agg #[.int .i64 31, .int .i64 (28 + l), .int .i64 31, .int .i64 30, .int .i64 31, .int .i64 30, .int .i64 31, .int .i64 31, .int .i64 30, .int .i64 31, .int .i64 30, .int .i64 31]) (.int .i64 9)).run Tryd.prog W = .ok (.int .i64 31) W := by kernel_rfl
theorem index12_10 (l : Int) (W : World) : (Instr.index 56 (.agg #[.int .i64 31, .int .i64 (28 + l), .int .i64 31, .int .i64 30, .int .i64 31, .int .i64 30, .int .i64 31, .int .i64 31, .int .i64 30, .int .i64 31, .int .i64 30, .int .i64 31]) (.int .i64 10)).run Tryd.prog W = .ok (.int .i64 30) W := by kernel_rfl
theorem index12_11 (l : Int) (W : World) : (Instr.index 56 (.agg #[.int .i64 31, .int .i64 (28 + l), .int .i64 31, .int .i64 30, .int .i64 31, .int .i64 30, .int .i64 31, .int .i64 31, .int .i64 30, .int .i64 31, .int .i64 30, .int .i64 31]) (.int .i64 11)).run Tryd.prog W = .ok (.int .i64 31) W := by kernel_rfl
set_option maxRecDepth 100000 in
theorem last_yes (y m : Int) (h : 1900 ≤ y) (h' : y ≤ 2199) (h1 : 1 ≤ m) (h1' : m ≤ 12) (w : World) : Calls Tryd.prog 16 #[.int .i64 y, .int .i64 m] w fun e w' => e = .returned (.int .i64 (lastM y m)) ∧ Below w.heap.size w w' := by
  have e : lastM y m = ml y m := by unfold lastM; rw [if_pos (by omega)]
  rw [e]
  clear e
  have hc := lengths_any y (by omega) (by omega)
  unfold mls at hc
  have hm := month_cases h1 h1'
  clear h1 h1'
  rcases hm with rfl | rfl | rfl | rfl | rfl | rfl | rfl | rfl | rfl | rfl | rfl | rfl
  · have hix := index12_0 (lp y)
    go_enter Tryd.func16, Tryd.ntmps16
    go_wp2_with (fail)
    refine (hc _).mono ?_
    rintro e w' ⟨rfl, hb⟩
    go_wp2
    go_ret
    exact ⟨ret_i (by simp [ml]), hb⟩
  · have hix := index12_1 (lp y)
    go_enter Tryd.func16, Tryd.ntmps16
    go_wp2_with (fail)
    refine (hc _).mono ?_
    rintro e w' ⟨rfl, hb⟩
    go_wp2
    go_ret
    exact ⟨ret_i (by simp [ml]), hb⟩
  · have hix := index12_2 (lp y)
    go_enter Tryd.func16, Tryd.ntmps16
    go_wp2_with (fail)
    refine (hc _).mono ?_
    rintro e w' ⟨rfl, hb⟩
    go_wp2
    go_ret
    exact ⟨ret_i (by simp [ml]), hb⟩
  · have hix := index12_3 (lp y)
    go_enter Tryd.func16, Tryd.ntmps16
    go_wp2_with (fail)
    refine (hc _).mono ?_
    rintro e w' ⟨rfl, hb⟩
    go_wp2
    go_ret
    exact ⟨ret_i (by simp [ml]), hb⟩
  · have hix := index12_4 (lp y)
    go_enter Tryd.func16, Tryd.ntmps16
    go_wp2_with (fail)
    refine (hc _).mono ?_
    rintro e w' ⟨rfl, hb⟩
    go_wp2
    go_ret
    exact ⟨ret_i (by simp [ml]), hb⟩
  · have hix := index12_5 (lp y)
    go_enter Tryd.func16, Tryd.ntmps16
    go_wp2_with (fail)
    refine (hc _).mono ?_
    rintro e w' ⟨rfl, hb⟩
    go_wp2
    go_ret
    exact ⟨ret_i (by simp [ml]), hb⟩
  · have hix := index12_6 (lp y)
    go_enter Tryd.func16, Tryd.ntmps16
    go_wp2_with (fail)
    refine (hc _).mono ?_
    rintro e w' ⟨rfl, hb⟩
    go_wp2
    go_ret
    exact ⟨ret_i (by simp [ml]), hb⟩
  · have hix := index12_7 (lp y)
    go_enter Tryd.func16, Tryd.ntmps16
    go_wp2_with (fail)
    refine (hc _).mono ?_
    rintro e w' ⟨rfl, hb⟩
    go_wp2
    go_ret
    exact ⟨ret_i (by simp [ml]), hb⟩
  · have hix := index12_8 (lp y)
    go_enter Tryd.func16, Tryd.ntmps16
    go_wp2_with (fail)
    refine (hc _).mono ?_
    rintro e w' ⟨rfl, hb⟩
    go_wp2
    go_ret
    exact ⟨ret_i (by simp [ml]), hb⟩
  · have hix := index12_9 (lp y)
    go_enter Tryd.func16, Tryd.ntmps16
    go_wp2_with (fail)
    refine (hc _).mono ?_
    rintro e w' ⟨rfl, hb⟩
    go_wp2
    go_ret
    exact ⟨ret_i (by simp [ml]), hb⟩
  · have hix := index12_10 (lp y)
    go_enter Tryd.func16, Tryd.ntmps16
    go_wp2_with (fail)
    refine (hc _).mono ?_
    rintro e w' ⟨rfl, hb⟩
    go_wp2
    go_ret
    exact ⟨ret_i (by simp [ml]), hb⟩
  · have hix := index12_11 (lp y)
    go_enter Tryd.func16, Tryd.ntmps16
    go_wp2_with (fail)
    refine (hc _).mono ?_
    rintro e w' ⟨rfl, hb⟩
    go_wp2
    go_ret
    exact ⟨ret_i (by simp [ml]), hb⟩
theorem last_any (y m : Int) (w : World) : Calls Tryd.prog 16 #[.int .i64 y, .int .i64 m] w fun e w' => e = .returned (.int .i64 (lastM y m)) ∧ Below w.heap.size w w' := by
  by_cases h : y < 1900 ∨ 2199 < y ∨ m < 1 ∨ 12 < m
  · exact last_no y m h w
  · exact last_yes y m (by omega) (by omega) (by omega) (by omega) w

/-- a day's parts, where it lies -/
def Day (w : World) (b : Nat) (y m d : Int) : Prop := w.cell? ⟨b, 0, none⟩ = some (.int .i64 y) ∧ w.cell? ⟨b, 1, none⟩ = some (.int .i64 m) ∧ w.cell? ⟨b, 2, none⟩ = some (.int .i64 d)
theorem Day.below {B : Nat} {w w' : World} {b : Nat} {y m d : Int} (h : Day w b y m d) (hb : Below B w w') (hB : b < B) : Day w' b y m d :=
  ⟨(hb.cell (p := ⟨b, 0, none⟩) hB).trans h.1, (hb.cell (p := ⟨b, 1, none⟩) hB).trans h.2.1, (hb.cell (p := ⟨b, 2, none⟩) hB).trans h.2.2⟩
theorem day_new (w : World) (y m d : Int) (t : TypeId) : Day (w.alloc (.cells #[.int .i64 y, .int .i64 m, .int .i64 d] t)) w.heap.size y m d := by
  refine ⟨?_, ?_, ?_⟩ <;> simp [World.cell?_alloc_new]

theorem sd_start (w : World) (y m d : Int) (t : TypeId) : (w.alloc (.cells #[.int .i64 y, .int .i64 m, .int .i64 d] t)).drew.cell? ⟨w.heap.size, 0, none⟩ = some (.int .i64 y) ∧ (w.alloc (.cells #[.int .i64 y, .int .i64 m, .int .i64 d] t)).drew.cell? ⟨w.heap.size, 1, none⟩ = some (.int .i64 m) ∧ (w.alloc (.cells #[.int .i64 y, .int .i64 m, .int .i64 d] t)).drew.cell? ⟨w.heap.size, 2, none⟩ = some (.int .i64 d) ∧ Below w.heap.size w (w.alloc (.cells #[.int .i64 y, .int .i64 m, .int .i64 d] t)).drew ∧ w.heap.size < (w.alloc (.cells #[.int .i64 y, .int .i64 m, .int .i64 d] t)).drew.heap.size := by
  obtain ⟨a, b, c⟩ := day_new w y m d t
  exact ⟨a, b, c, ((Below.refl _ _).alloc (Nat.le_refl _) _).drew, by show w.heap.size < (w.alloc _).heap.size; simp⟩
theorem sd_step {w W W' : World} {y m d : Int} (hb : Below W.heap.size W W') (h : W.cell? ⟨w.heap.size, 0, none⟩ = some (.int .i64 y) ∧ W.cell? ⟨w.heap.size, 1, none⟩ = some (.int .i64 m) ∧ W.cell? ⟨w.heap.size, 2, none⟩ = some (.int .i64 d) ∧ Below w.heap.size w W ∧ w.heap.size < W.heap.size) :
    W'.cell? ⟨w.heap.size, 0, none⟩ = some (.int .i64 y) ∧ W'.cell? ⟨w.heap.size, 1, none⟩ = some (.int .i64 m) ∧ W'.cell? ⟨w.heap.size, 2, none⟩ = some (.int .i64 d) ∧ Below w.heap.size w W' ∧ w.heap.size < W'.heap.size := by
  obtain ⟨a, b, c, h1, h2⟩ := h
  obtain ⟨a, b, c⟩ := Day.below ⟨a, b, c⟩ hb h2
  exact ⟨a, b, c, below_step h1 hb (by omega), by have := hb.size; omega⟩
theorem below_dn {B : Nat} {a w : World} (h : Below B a w) (k : Nat) : Below B a (w.drewN k) := ⟨h.os, h.tape, h.output, h.size, h.block⟩
set_option maxHeartbeats 1000000 in
theorem right_any (y m d : Int) (w : World) : Calls Tryd.prog 15 #[.agg #[.int .i64 y, .int .i64 m, .int .i64 d]] w fun e w' => e = .returned (.bool (dayB y m d)) ∧ Below w.heap.size w w' := by
  by_cases hd : 1 ≤ d
  · have e : dayB y m d = decide (d ≤ lastM y m) := by unfold dayB; congr 1; rw [eq_iff_iff]; omega
    rw [e]
    clear e
    generalize hv : lastM y m = v
    have hc : ∀ W, Calls Tryd.prog 16 #[.int .i64 y, .int .i64 m] W fun e w' => e = .returned (.int .i64 v) ∧ Below W.heap.size W w' := by subst hv; exact last_any y m
    clear hv
    go_enter Tryd.func15, Tryd.ntmps15
    go_wp2
    go_region_held3 (fun w' => w'.cell? ⟨w.heap.size, 0, none⟩ = some (.int .i64 y) ∧ w'.cell? ⟨w.heap.size, 1, none⟩ = some (.int .i64 m) ∧ w'.cell? ⟨w.heap.size, 2, none⟩ = some (.int .i64 d) ∧ Below w.heap.size w w' ∧ w.heap.size < w'.heap.size) ((first | exact sd_start _ _ _ _ _ | exact sd_step hb (by assumption)))
      (first | (go_at_call 16; refine (hc _).mono ?_; rintro e w' ⟨rfl, hb⟩))
    rename_i hH
    obtain ⟨_, _, _, hq, _⟩ := hH
    go_wp2
    go_ret
    exact ⟨rfl, hq⟩
  · have e : dayB y m d = false := by unfold dayB; rw [decide_eq_false_iff_not]; omega
    rw [e]
    clear e
    have hd2 : decide (1 ≤ d) = false := by simpa using hd
    go_enter Tryd.func15, Tryd.ntmps15
    go_wp2
    go_quiet (fail)
    go_wp2
    go_ret
    exact ⟨rfl, below_dn ((Below.refl _ _).alloc (Nat.le_refl _) _) _⟩
theorem right_b (y m d : Int) (b : Bool) (h : dayB y m d = b) (w : World) : Calls Tryd.prog 15 #[.agg #[.int .i64 y, .int .i64 m, .int .i64 d]] w fun e w' => e = .returned (.bool b) ∧ Below w.heap.size w w' := by
  subst h
  exact right_any y m d w
end Go.Proofs.YtkgfmanolanlhaaDoor
