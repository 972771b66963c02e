/- The walk of PeriodNames. -/
import Derived.Test.YtnpkpjnkbajnjaaDoorCuts
namespace Go.Proofs.YtnpkpjnkbajnjaaDoor
open Go.RowKit
set_option linter.unusedVariables false
set_option linter.unusedSimpArgs false

set_option maxRecDepth 100000 in
theorem pfreq_0 (s : ByteArray) (h1 : (([119, 101, 101, 107, 108, 121] : List UInt8) == s.toList) = true) (h2 : (([102, 111, 114, 116, 110, 105, 103, 104, 116, 108, 121] : List UInt8) == s.toList) = false) (h3 : (([102, 111, 117, 114, 119, 101, 101, 107, 108, 121] : List UInt8) == s.toList) = false) (h4 : (([109, 111, 110, 116, 104, 108, 121] : List UInt8) == s.toList) = false) (W : World) (hK : Kinds W) : Calls Tryd.prog 57 #[.string s] W fun e w' => e = .returned (.tuple #[.int .i64 1, .int .i64 0]) ∧ W = w' := by
  obtain ⟨k3, k4, k5, k6, k7, k8, k9, k10, k11, k12, k13, k14, hgz⟩ := hK
  go_enter Tryd.func57, Tryd.ntmps57
  go_wp2
  refine wp_loop_rounds 1 ?_
  rw [rounds_succ]
  go_wp2
  go_ret2
  exact ⟨rfl, rfl⟩
set_option maxRecDepth 100000 in
theorem pfreq_1 (s : ByteArray) (h1 : (([119, 101, 101, 107, 108, 121] : List UInt8) == s.toList) = false) (h2 : (([102, 111, 114, 116, 110, 105, 103, 104, 116, 108, 121] : List UInt8) == s.toList) = true) (h3 : (([102, 111, 117, 114, 119, 101, 101, 107, 108, 121] : List UInt8) == s.toList) = false) (h4 : (([109, 111, 110, 116, 104, 108, 121] : List UInt8) == s.toList) = false) (W : World) (hK : Kinds W) : Calls Tryd.prog 57 #[.string s] W fun e w' => e = .returned (.tuple #[.int .i64 2, .int .i64 0]) ∧ W = w' := by
  obtain ⟨k3, k4, k5, k6, k7, k8, k9, k10, k11, k12, k13, k14, hgz⟩ := hK
  go_enter Tryd.func57, Tryd.ntmps57
  go_wp2
  refine wp_loop_rounds 2 ?_
  rw [rounds_succ]
  go_wp2
  rw [rounds_succ]
  go_wp2
  go_ret2
  exact ⟨rfl, rfl⟩
set_option maxRecDepth 100000 in
theorem pfreq_2 (s : ByteArray) (h1 : (([119, 101, 101, 107, 108, 121] : List UInt8) == s.toList) = false) (h2 : (([102, 111, 114, 116, 110, 105, 103, 104, 116, 108, 121] : List UInt8) == s.toList) = false) (h3 : (([102, 111, 117, 114, 119, 101, 101, 107, 108, 121] : List UInt8) == s.toList) = true) (h4 : (([109, 111, 110, 116, 104, 108, 121] : List UInt8) == s.toList) = false) (W : World) (hK : Kinds W) : Calls Tryd.prog 57 #[.string s] W fun e w' => e = .returned (.tuple #[.int .i64 3, .int .i64 0]) ∧ W = w' := by
  obtain ⟨k3, k4, k5, k6, k7, k8, k9, k10, k11, k12, k13, k14, hgz⟩ := hK
  go_enter Tryd.func57, Tryd.ntmps57
  go_wp2
  refine wp_loop_rounds 3 ?_
  rw [rounds_succ]
  go_wp2
  rw [rounds_succ]
  go_wp2
  rw [rounds_succ]
  go_wp2
  go_ret2
  exact ⟨rfl, rfl⟩
set_option maxRecDepth 100000 in
theorem pfreq_3 (s : ByteArray) (h1 : (([119, 101, 101, 107, 108, 121] : List UInt8) == s.toList) = false) (h2 : (([102, 111, 114, 116, 110, 105, 103, 104, 116, 108, 121] : List UInt8) == s.toList) = false) (h3 : (([102, 111, 117, 114, 119, 101, 101, 107, 108, 121] : List UInt8) == s.toList) = false) (h4 : (([109, 111, 110, 116, 104, 108, 121] : List UInt8) == s.toList) = true) (W : World) (hK : Kinds W) : Calls Tryd.prog 57 #[.string s] W fun e w' => e = .returned (.tuple #[.int .i64 4, .int .i64 0]) ∧ W = w' := by
  obtain ⟨k3, k4, k5, k6, k7, k8, k9, k10, k11, k12, k13, k14, hgz⟩ := hK
  go_enter Tryd.func57, Tryd.ntmps57
  go_wp2
  refine wp_loop_rounds 4 ?_
  rw [rounds_succ]
  go_wp2
  rw [rounds_succ]
  go_wp2
  rw [rounds_succ]
  go_wp2
  rw [rounds_succ]
  go_wp2
  go_ret2
  exact ⟨rfl, rfl⟩
set_option maxRecDepth 100000 in
theorem pfreq_4 (s : ByteArray) (h1 : (([119, 101, 101, 107, 108, 121] : List UInt8) == s.toList) = false) (h2 : (([102, 111, 114, 116, 110, 105, 103, 104, 116, 108, 121] : List UInt8) == s.toList) = false) (h3 : (([102, 111, 117, 114, 119, 101, 101, 107, 108, 121] : List UInt8) == s.toList) = false) (h4 : (([109, 111, 110, 116, 104, 108, 121] : List UInt8) == s.toList) = false) (W : World) (hK : Kinds W) : Calls Tryd.prog 57 #[.string s] W fun e w' => e = .returned (.tuple #[.int .i64 0, .int .i64 40]) ∧ W = w' := by
  obtain ⟨k3, k4, k5, k6, k7, k8, k9, k10, k11, k12, k13, k14, hgz⟩ := hK
  go_enter Tryd.func57, Tryd.ntmps57
  go_wp2
  refine wp_loop_rounds 5 ?_
  rw [rounds_succ]
  go_wp2
  rw [rounds_succ]
  go_wp2
  rw [rounds_succ]
  go_wp2
  rw [rounds_succ]
  go_wp2
  rw [rounds_succ]
  go_wp2
  go_ret2
  exact ⟨rfl, rfl⟩
theorem pname_1 (W : World) (hK : Kinds W) : Calls Tryd.prog 58 #[.int .i64 1] W fun e w' => e = .returned (.string (⟨#[119, 101, 101, 107, 108, 121]⟩)) ∧ W = w' := by
  have hc := known_yes 1 (by omega) (by omega)
  obtain ⟨k3, k4, k5, k6, k7, k8, k9, k10, k11, k12, k13, k14, hgz⟩ := hK
  go_enter Tryd.func58, Tryd.ntmps58
  go_wp2_with (fail)
  refine (hc _).mono ?_
  rintro e w' ⟨rfl, rfl⟩
  go_wp2
  go_ret
  exact ⟨rfl, rfl⟩
theorem pname_2 (W : World) (hK : Kinds W) : Calls Tryd.prog 58 #[.int .i64 2] W fun e w' => e = .returned (.string (⟨#[102, 111, 114, 116, 110, 105, 103, 104, 116, 108, 121]⟩)) ∧ W = w' := by
  have hc := known_yes 2 (by omega) (by omega)
  obtain ⟨k3, k4, k5, k6, k7, k8, k9, k10, k11, k12, k13, k14, hgz⟩ := hK
  go_enter Tryd.func58, Tryd.ntmps58
  go_wp2_with (fail)
  refine (hc _).mono ?_
  rintro e w' ⟨rfl, rfl⟩
  go_wp2
  go_ret
  exact ⟨rfl, rfl⟩
theorem pname_3 (W : World) (hK : Kinds W) : Calls Tryd.prog 58 #[.int .i64 3] W fun e w' => e = .returned (.string (⟨#[102, 111, 117, 114, 119, 101, 101, 107, 108, 121]⟩)) ∧ W = w' := by
  have hc := known_yes 3 (by omega) (by omega)
  obtain ⟨k3, k4, k5, k6, k7, k8, k9, k10, k11, k12, k13, k14, hgz⟩ := hK
  go_enter Tryd.func58, Tryd.ntmps58
  go_wp2_with (fail)
  refine (hc _).mono ?_
  rintro e w' ⟨rfl, rfl⟩
  go_wp2
  go_ret
  exact ⟨rfl, rfl⟩
theorem pname_4 (W : World) (hK : Kinds W) : Calls Tryd.prog 58 #[.int .i64 4] W fun e w' => e = .returned (.string (⟨#[109, 111, 110, 116, 104, 108, 121]⟩)) ∧ W = w' := by
  have hc := known_yes 4 (by omega) (by omega)
  obtain ⟨k3, k4, k5, k6, k7, k8, k9, k10, k11, k12, k13, k14, hgz⟩ := hK
  go_enter Tryd.func58, Tryd.ntmps58
  go_wp2_with (fail)
  refine (hc _).mono ?_
  rintro e w' ⟨rfl, rfl⟩
  go_wp2
  go_ret
  exact ⟨rfl, rfl⟩
theorem pname_no (f : Int) (h : f < 1 ∨ 4 < f) (W : World) : Calls Tryd.prog 58 #[.int .i64 f] W fun e w' => e = .returned (.string ⟨#[]⟩) ∧ W = w' := by
  have hc := known_no f h
  clear h
  go_enter Tryd.func58, Tryd.ntmps58
  go_wp2_with (fail)
  refine (hc _).mono ?_
  rintro e w' ⟨rfl, rfl⟩
  go_wp2
  go_ret
  exact ⟨rfl, rfl⟩
theorem index5s_0 (W : World) : (Instr.index 70 (.agg #[.string ⟨#[]⟩, .string ⟨#[119, 101, 101, 107, 108, 121]⟩, .string ⟨#[102, 111, 114, 116, 110, 105, 103, 104, 116, 108, 121]⟩, .string ⟨#[102, 111, 117, 114, 119, 101, 101, 107, 108, 121]⟩, .string ⟨#[109, 111, 110, 116, 104, 108, 121]⟩]) (.int .i64 0)).run Tryd.prog W = .ok (.string ⟨#[]⟩) W := by kernel_rfl
theorem index5s_1 (W : World) : (Instr.index 70 (.agg #[.string ⟨#[]⟩, .string ⟨#[119, 101, 101, 107, 108, 121]⟩, .string ⟨#[102, 111, 114, 116, 110, 105, 103, 104, 116, 108, 121]⟩, .string ⟨#[102, 111, 117, 114, 119, 101, 101, 107, 108, 121]⟩, .string ⟨#[109, 111, 110, 116, 104, 108, 121]⟩]) (.int .i64 1)).run Tryd.prog W = .ok (.string ⟨#[119, 101, 101, 107, 108, 121]⟩) W := by kernel_rfl
theorem index5s_2 (W : World) : (Instr.index 70 (.agg #[.string ⟨#[]⟩, .string ⟨#[119, 101, 101, 107, 108, 121]⟩, .string ⟨#[102, 111, 114, 116, 110, 105, 103, 104, 116, 108, 121]⟩, .string ⟨#[102, 111, 117, 114, 119, 101, 101, 107, 108, 121]⟩, .string ⟨#[109, 111, 110, 116, 104, 108, 121]⟩]) (.int .i64 2)).run Tryd.prog W = .ok (.string ⟨#[102, 111, 114, 116, 110, 105, 103, 104, 116, 108, 121]⟩) W := by kernel_rfl
theorem index5s_3 (W : World) : (Instr.index 70 (.agg #[.string ⟨#[]⟩, .string ⟨#[119, 101, 101, 107, 108, 121]⟩, .string ⟨#[102, 111, 114, 116, 110, 105, 103, 104, 116, 108, 121]⟩, .string ⟨#[102, 111, 117, 114, 119, 101, 101, 107, 108, 121]⟩, .string ⟨#[109, 111, 110, 116, 104, 108, 121]⟩]) (.int .i64 3)).run Tryd.prog W = .ok (.string ⟨#[102, 111, 117, 114, 119, 101, 101, 107, 108, 121]⟩) W := by kernel_rfl
theorem index5s_4 (W : World) : (Instr.index 70 (.agg #[.string ⟨#[]⟩, .string ⟨#[119, 101, 101, 107, 108, 121]⟩, .string ⟨#[102, 111, 114, 116, 110, 105, 103, 104, 116, 108, 121]⟩, .string ⟨#[102, 111, 117, 114, 119, 101, 101, 107, 108, 121]⟩, .string ⟨#[109, 111, 110, 116, 104, 108, 121]⟩]) (.int .i64 4)).run Tryd.prog W = .ok (.string ⟨#[109, 111, 110, 116, 104, 108, 121]⟩) W := by kernel_rfl
theorem names_long (f : Int) (s : ByteArray) (W : World) (hK : Kinds W) (hl : s.size ≤ 9223372036854775807) (h : 60 < (s.size : Int)) : Calls Tryd.prog 15 #[.int .i64 f, .string s] W fun e w' => e = .returned (.bool true) ∧ Below W.heap.size W w' := by
  have hcu := cuts_any
  go_enter Tryd.func15, Tryd.ntmps15
  go_wp2_with (fail)
  refine (hcu _ hK).mono ?_
  rintro e w1 ⟨rfl, B1⟩
  go_wp2
  go_ret
  exact ⟨rfl, B1⟩
set_option maxRecDepth 100000 in
set_option maxHeartbeats 1000000 in
theorem names_1_0 (s : ByteArray) (h1 : (([119, 101, 101, 107, 108, 121] : List UInt8) == s.toList) = true) (h2 : (([102, 111, 114, 116, 110, 105, 103, 104, 116, 108, 121] : List UInt8) == s.toList) = false) (h3 : (([102, 111, 117, 114, 119, 101, 101, 107, 108, 121] : List UInt8) == s.toList) = false) (h4 : (([109, 111, 110, 116, 104, 108, 121] : List UInt8) == s.toList) = false) (W : World) (hK : Kinds W) (hl : (s.size : Int) ≤ 60) : Calls Tryd.prog 15 #[.int .i64 1, .string s] W fun e w' => e = .returned (.bool true) ∧ Below W.heap.size W w' := by
  have hcu := cuts_any
  have hfr := fun W K => pfreq_0 s h1 h2 h3 h4 W K
  have hnm := fun (W : World) (K : Kinds W) => pname_1 W K
  have hno := fun W K => nominal_any 1 W K
  rw [show nom 1 = 52 by decide] at hno
  have ix0 := index5s_0
  have ix1 := index5s_1
  have ix2 := index5s_2
  have ix3 := index5s_3
  have ix4 := index5s_4
  go_enter Tryd.func15, Tryd.ntmps15
  go_wp2_with (fail)
  refine (hcu _ hK).mono ?_
  rintro e w1 ⟨rfl, B1⟩
  have K1 := hK.below B1
  have hb2 : Below w1.heap.size w1 (w1.alloc (.cells #[.string ⟨#[]⟩, .string ⟨#[119, 101, 101, 107, 108, 121]⟩, .string ⟨#[102, 111, 114, 116, 110, 105, 103, 104, 116, 108, 121]⟩, .string ⟨#[102, 111, 117, 114, 119, 101, 101, 107, 108, 121]⟩, .string ⟨#[109, 111, 110, 116, 104, 108, 121]⟩] 70)) := (Below.refl _ _).alloc (Nat.le_refl _) _
  have K2 := K1.below hb2
  have B2 := below_step B1 hb2 B1.size
  clear hb2 hcu
  go_wp2_with (fail)
  refine (hfr _ K2).mono ?_
  rintro e w' ⟨rfl, rfl⟩
  go_wp2
  refine wp_loop_rounds 6 ?_
  rw [rounds_succ]
  go_wp2
  rw [rounds_succ]
  go_wp2
  rw [rounds_succ]
  go_wp2
  rw [rounds_succ]
  go_wp2
  rw [rounds_succ]
  go_wp2
  rw [rounds_succ]
  go_wp2_with (fail)
  refine (hnm _ K2).mono ?_
  rintro e w' ⟨rfl, rfl⟩
  go_wp2_with (fail)
  refine (hno _ K2).mono ?_
  rintro e w' ⟨rfl, rfl⟩
  go_wp2
  go_ret
  exact ⟨rfl, B2⟩
set_option maxRecDepth 100000 in
set_option maxHeartbeats 1000000 in
theorem names_1_1 (s : ByteArray) (h1 : (([119, 101, 101, 107, 108, 121] : List UInt8) == s.toList) = false) (h2 : (([102, 111, 114, 116, 110, 105, 103, 104, 116, 108, 121] : List UInt8) == s.toList) = true) (h3 : (([102, 111, 117, 114, 119, 101, 101, 107, 108, 121] : List UInt8) == s.toList) = false) (h4 : (([109, 111, 110, 116, 104, 108, 121] : List UInt8) == s.toList) = false) (W : World) (hK : Kinds W) (hl : (s.size : Int) ≤ 60) : Calls Tryd.prog 15 #[.int .i64 1, .string s] W fun e w' => e = .returned (.bool true) ∧ Below W.heap.size W w' := by
  have hcu := cuts_any
  have hfr := fun W K => pfreq_1 s h1 h2 h3 h4 W K
  have hnm := fun (W : World) (K : Kinds W) => pname_1 W K
  have hno := fun W K => nominal_any 1 W K
  rw [show nom 1 = 52 by decide] at hno
  have ix0 := index5s_0
  have ix1 := index5s_1
  have ix2 := index5s_2
  have ix3 := index5s_3
  have ix4 := index5s_4
  go_enter Tryd.func15, Tryd.ntmps15
  go_wp2_with (fail)
  refine (hcu _ hK).mono ?_
  rintro e w1 ⟨rfl, B1⟩
  have K1 := hK.below B1
  have hb2 : Below w1.heap.size w1 (w1.alloc (.cells #[.string ⟨#[]⟩, .string ⟨#[119, 101, 101, 107, 108, 121]⟩, .string ⟨#[102, 111, 114, 116, 110, 105, 103, 104, 116, 108, 121]⟩, .string ⟨#[102, 111, 117, 114, 119, 101, 101, 107, 108, 121]⟩, .string ⟨#[109, 111, 110, 116, 104, 108, 121]⟩] 70)) := (Below.refl _ _).alloc (Nat.le_refl _) _
  have K2 := K1.below hb2
  have B2 := below_step B1 hb2 B1.size
  clear hb2 hcu
  go_wp2_with (fail)
  refine (hfr _ K2).mono ?_
  rintro e w' ⟨rfl, rfl⟩
  go_wp2
  refine wp_loop_rounds 6 ?_
  rw [rounds_succ]
  go_wp2
  rw [rounds_succ]
  go_wp2
  rw [rounds_succ]
  go_wp2
  rw [rounds_succ]
  go_wp2
  rw [rounds_succ]
  go_wp2
  rw [rounds_succ]
  go_wp2_with (fail)
  refine (hnm _ K2).mono ?_
  rintro e w' ⟨rfl, rfl⟩
  go_wp2_with (fail)
  refine (hno _ K2).mono ?_
  rintro e w' ⟨rfl, rfl⟩
  go_wp2
  go_ret
  exact ⟨rfl, B2⟩
set_option maxRecDepth 100000 in
set_option maxHeartbeats 1000000 in
theorem names_1_2 (s : ByteArray) (h1 : (([119, 101, 101, 107, 108, 121] : List UInt8) == s.toList) = false) (h2 : (([102, 111, 114, 116, 110, 105, 103, 104, 116, 108, 121] : List UInt8) == s.toList) = false) (h3 : (([102, 111, 117, 114, 119, 101, 101, 107, 108, 121] : List UInt8) == s.toList) = true) (h4 : (([109, 111, 110, 116, 104, 108, 121] : List UInt8) == s.toList) = false) (W : World) (hK : Kinds W) (hl : (s.size : Int) ≤ 60) : Calls Tryd.prog 15 #[.int .i64 1, .string s] W fun e w' => e = .returned (.bool true) ∧ Below W.heap.size W w' := by
  have hcu := cuts_any
  have hfr := fun W K => pfreq_2 s h1 h2 h3 h4 W K
  have hnm := fun (W : World) (K : Kinds W) => pname_1 W K
  have hno := fun W K => nominal_any 1 W K
  rw [show nom 1 = 52 by decide] at hno
  have ix0 := index5s_0
  have ix1 := index5s_1
  have ix2 := index5s_2
  have ix3 := index5s_3
  have ix4 := index5s_4
  go_enter Tryd.func15, Tryd.ntmps15
  go_wp2_with (fail)
  refine (hcu _ hK).mono ?_
  rintro e w1 ⟨rfl, B1⟩
  have K1 := hK.below B1
  have hb2 : Below w1.heap.size w1 (w1.alloc (.cells #[.string ⟨#[]⟩, .string ⟨#[119, 101, 101, 107, 108, 121]⟩, .string ⟨#[102, 111, 114, 116, 110, 105, 103, 104, 116, 108, 121]⟩, .string ⟨#[102, 111, 117, 114, 119, 101, 101, 107, 108, 121]⟩, .string ⟨#[109, 111, 110, 116, 104, 108, 121]⟩] 70)) := (Below.refl _ _).alloc (Nat.le_refl _) _
  have K2 := K1.below hb2
  have B2 := below_step B1 hb2 B1.size
  clear hb2 hcu
  go_wp2_with (fail)
  refine (hfr _ K2).mono ?_
  rintro e w' ⟨rfl, rfl⟩
  go_wp2
  refine wp_loop_rounds 6 ?_
  rw [rounds_succ]
  go_wp2
  rw [rounds_succ]
  go_wp2
  rw [rounds_succ]
  go_wp2
  rw [rounds_succ]
  go_wp2
  rw [rounds_succ]
  go_wp2
  rw [rounds_succ]
  go_wp2_with (fail)
  refine (hnm _ K2).mono ?_
  rintro e w' ⟨rfl, rfl⟩
  go_wp2_with (fail)
  refine (hno _ K2).mono ?_
  rintro e w' ⟨rfl, rfl⟩
  go_wp2
  go_ret
  exact ⟨rfl, B2⟩
set_option maxRecDepth 100000 in
set_option maxHeartbeats 1000000 in
theorem names_1_3 (s : ByteArray) (h1 : (([119, 101, 101, 107, 108, 121] : List UInt8) == s.toList) = false) (h2 : (([102, 111, 114, 116, 110, 105, 103, 104, 116, 108, 121] : List UInt8) == s.toList) = false) (h3 : (([102, 111, 117, 114, 119, 101, 101, 107, 108, 121] : List UInt8) == s.toList) = false) (h4 : (([109, 111, 110, 116, 104, 108, 121] : List UInt8) == s.toList) = true) (W : World) (hK : Kinds W) (hl : (s.size : Int) ≤ 60) : Calls Tryd.prog 15 #[.int .i64 1, .string s] W fun e w' => e = .returned (.bool true) ∧ Below W.heap.size W w' := by
  have hcu := cuts_any
  have hfr := fun W K => pfreq_3 s h1 h2 h3 h4 W K
  have hnm := fun (W : World) (K : Kinds W) => pname_1 W K
  have hno := fun W K => nominal_any 1 W K
  rw [show nom 1 = 52 by decide] at hno
  have ix0 := index5s_0
  have ix1 := index5s_1
  have ix2 := index5s_2
  have ix3 := index5s_3
  have ix4 := index5s_4
  go_enter Tryd.func15, Tryd.ntmps15
  go_wp2_with (fail)
  refine (hcu _ hK).mono ?_
  rintro e w1 ⟨rfl, B1⟩
  have K1 := hK.below B1
  have hb2 : Below w1.heap.size w1 (w1.alloc (.cells #[.string ⟨#[]⟩, .string ⟨#[119, 101, 101, 107, 108, 121]⟩, .string ⟨#[102, 111, 114, 116, 110, 105, 103, 104, 116, 108, 121]⟩, .string ⟨#[102, 111, 117, 114, 119, 101, 101, 107, 108, 121]⟩, .string ⟨#[109, 111, 110, 116, 104, 108, 121]⟩] 70)) := (Below.refl _ _).alloc (Nat.le_refl _) _
  have K2 := K1.below hb2
  have B2 := below_step B1 hb2 B1.size
  clear hb2 hcu
  go_wp2_with (fail)
  refine (hfr _ K2).mono ?_
  rintro e w' ⟨rfl, rfl⟩
  go_wp2
  refine wp_loop_rounds 6 ?_
  rw [rounds_succ]
  go_wp2
  rw [rounds_succ]
  go_wp2
  rw [rounds_succ]
  go_wp2
  rw [rounds_succ]
  go_wp2
  rw [rounds_succ]
  go_wp2
  rw [rounds_succ]
  go_wp2_with (fail)
  refine (hnm _ K2).mono ?_
  rintro e w' ⟨rfl, rfl⟩
  go_wp2_with (fail)
  refine (hno _ K2).mono ?_
  rintro e w' ⟨rfl, rfl⟩
  go_wp2
  go_ret
  exact ⟨rfl, B2⟩
set_option maxRecDepth 100000 in
set_option maxHeartbeats 1000000 in
theorem names_1_4 (s : ByteArray) (h1 : (([119, 101, 101, 107, 108, 121] : List UInt8) == s.toList) = false) (h2 : (([102, 111, 114, 116, 110, 105, 103, 104, 116, 108, 121] : List UInt8) == s.toList) = false) (h3 : (([102, 111, 117, 114, 119, 101, 101, 107, 108, 121] : List UInt8) == s.toList) = false) (h4 : (([109, 111, 110, 116, 104, 108, 121] : List UInt8) == s.toList) = false) (W : World) (hK : Kinds W) (hl : (s.size : Int) ≤ 60) : Calls Tryd.prog 15 #[.int .i64 1, .string s] W fun e w' => e = .returned (.bool true) ∧ Below W.heap.size W w' := by
  have hcu := cuts_any
  have hfr := fun W K => pfreq_4 s h1 h2 h3 h4 W K
  have hnm := fun (W : World) (K : Kinds W) => pname_1 W K
  have hno := fun W K => nominal_any 1 W K
  rw [show nom 1 = 52 by decide] at hno
  have ix0 := index5s_0
  have ix1 := index5s_1
  have ix2 := index5s_2
  have ix3 := index5s_3
  have ix4 := index5s_4
  go_enter Tryd.func15, Tryd.ntmps15
  go_wp2_with (fail)
  refine (hcu _ hK).mono ?_
  rintro e w1 ⟨rfl, B1⟩
  have K1 := hK.below B1
  have hb2 : Below w1.heap.size w1 (w1.alloc (.cells #[.string ⟨#[]⟩, .string ⟨#[119, 101, 101, 107, 108, 121]⟩, .string ⟨#[102, 111, 114, 116, 110, 105, 103, 104, 116, 108, 121]⟩, .string ⟨#[102, 111, 117, 114, 119, 101, 101, 107, 108, 121]⟩, .string ⟨#[109, 111, 110, 116, 104, 108, 121]⟩] 70)) := (Below.refl _ _).alloc (Nat.le_refl _) _
  have K2 := K1.below hb2
  have B2 := below_step B1 hb2 B1.size
  clear hb2 hcu
  go_wp2_with (fail)
  refine (hfr _ K2).mono ?_
  rintro e w' ⟨rfl, rfl⟩
  go_wp2
  refine wp_loop_rounds 6 ?_
  rw [rounds_succ]
  go_wp2
  rw [rounds_succ]
  go_wp2
  rw [rounds_succ]
  go_wp2
  rw [rounds_succ]
  go_wp2
  rw [rounds_succ]
  go_wp2
  rw [rounds_succ]
  go_wp2_with (fail)
  refine (hnm _ K2).mono ?_
  rintro e w' ⟨rfl, rfl⟩
  go_wp2_with (fail)
  refine (hno _ K2).mono ?_
  rintro e w' ⟨rfl, rfl⟩
  go_wp2
  go_ret
  exact ⟨rfl, B2⟩
set_option maxRecDepth 100000 in
set_option maxHeartbeats 1000000 in
theorem names_2_0 (s : ByteArray) (h1 : (([119, 101, 101, 107, 108, 121] : List UInt8) == s.toList) = true) (h2 : (([102, 111, 114, 116, 110, 105, 103, 104, 116, 108, 121] : List UInt8) == s.toList) = false) (h3 : (([102, 111, 117, 114, 119, 101, 101, 107, 108, 121] : List UInt8) == s.toList) = false) (h4 : (([109, 111, 110, 116, 104, 108, 121] : List UInt8) == s.toList) = false) (W : World) (hK : Kinds W) (hl : (s.size : Int) ≤ 60) : Calls Tryd.prog 15 #[.int .i64 2, .string s] W fun e w' => e = .returned (.bool true) ∧ Below W.heap.size W w' := by
  have hcu := cuts_any
  have hfr := fun W K => pfreq_0 s h1 h2 h3 h4 W K
  have hnm := fun (W : World) (K : Kinds W) => pname_2 W K
  have hno := fun W K => nominal_any 2 W K
  rw [show nom 2 = 26 by decide] at hno
  have ix0 := index5s_0
  have ix1 := index5s_1
  have ix2 := index5s_2
  have ix3 := index5s_3
  have ix4 := index5s_4
  go_enter Tryd.func15, Tryd.ntmps15
  go_wp2_with (fail)
  refine (hcu _ hK).mono ?_
  rintro e w1 ⟨rfl, B1⟩
  have K1 := hK.below B1
  have hb2 : Below w1.heap.size w1 (w1.alloc (.cells #[.string ⟨#[]⟩, .string ⟨#[119, 101, 101, 107, 108, 121]⟩, .string ⟨#[102, 111, 114, 116, 110, 105, 103, 104, 116, 108, 121]⟩, .string ⟨#[102, 111, 117, 114, 119, 101, 101, 107, 108, 121]⟩, .string ⟨#[109, 111, 110, 116, 104, 108, 121]⟩] 70)) := (Below.refl _ _).alloc (Nat.le_refl _) _
  have K2 := K1.below hb2
  have B2 := below_step B1 hb2 B1.size
  clear hb2 hcu
  go_wp2_with (fail)
  refine (hfr _ K2).mono ?_
  rintro e w' ⟨rfl, rfl⟩
  go_wp2
  refine wp_loop_rounds 6 ?_
  rw [rounds_succ]
  go_wp2
  rw [rounds_succ]
  go_wp2
  rw [rounds_succ]
  go_wp2
  rw [rounds_succ]
  go_wp2
  rw [rounds_succ]
  go_wp2
  rw [rounds_succ]
  go_wp2_with (fail)
  refine (hnm _ K2).mono ?_
  rintro e w' ⟨rfl, rfl⟩
  go_wp2_with (fail)
  refine (hno _ K2).mono ?_
  rintro e w' ⟨rfl, rfl⟩
  go_wp2
  go_ret
  exact ⟨rfl, B2⟩
set_option maxRecDepth 100000 in
set_option maxHeartbeats 1000000 in
theorem names_2_1 (s : ByteArray) (h1 : (([119, 101, 101, 107, 108, 121] : List UInt8) == s.toList) = false) (h2 : (([102, 111, 114, 116, 110, 105, 103, 104, 116, 108, 121] : List UInt8) == s.toList) = true) (h3 : (([102, 111, 117, 114, 119, 101, 101, 107, 108, 121] : List UInt8) == s.toList) = false) (h4 : (([109, 111, 110, 116, 104, 108, 121] : List UInt8) == s.toList) = false) (W : World) (hK : Kinds W) (hl : (s.size : Int) ≤ 60) : Calls Tryd.prog 15 #[.int .i64 2, .string s] W fun e w' => e = .returned (.bool true) ∧ Below W.heap.size W w' := by
  have hcu := cuts_any
  have hfr := fun W K => pfreq_1 s h1 h2 h3 h4 W K
  have hnm := fun (W : World) (K : Kinds W) => pname_2 W K
  have hno := fun W K => nominal_any 2 W K
  rw [show nom 2 = 26 by decide] at hno
  have ix0 := index5s_0
  have ix1 := index5s_1
  have ix2 := index5s_2
  have ix3 := index5s_3
  have ix4 := index5s_4
  go_enter Tryd.func15, Tryd.ntmps15
  go_wp2_with (fail)
  refine (hcu _ hK).mono ?_
  rintro e w1 ⟨rfl, B1⟩
  have K1 := hK.below B1
  have hb2 : Below w1.heap.size w1 (w1.alloc (.cells #[.string ⟨#[]⟩, .string ⟨#[119, 101, 101, 107, 108, 121]⟩, .string ⟨#[102, 111, 114, 116, 110, 105, 103, 104, 116, 108, 121]⟩, .string ⟨#[102, 111, 117, 114, 119, 101, 101, 107, 108, 121]⟩, .string ⟨#[109, 111, 110, 116, 104, 108, 121]⟩] 70)) := (Below.refl _ _).alloc (Nat.le_refl _) _
  have K2 := K1.below hb2
  have B2 := below_step B1 hb2 B1.size
  clear hb2 hcu
  go_wp2_with (fail)
  refine (hfr _ K2).mono ?_
  rintro e w' ⟨rfl, rfl⟩
  go_wp2
  refine wp_loop_rounds 6 ?_
  rw [rounds_succ]
  go_wp2
  rw [rounds_succ]
  go_wp2
  rw [rounds_succ]
  go_wp2
  rw [rounds_succ]
  go_wp2
  rw [rounds_succ]
  go_wp2
  rw [rounds_succ]
  go_wp2_with (fail)
  refine (hnm _ K2).mono ?_
  rintro e w' ⟨rfl, rfl⟩
  go_wp2_with (fail)
  refine (hno _ K2).mono ?_
  rintro e w' ⟨rfl, rfl⟩
  go_wp2
  go_ret
  exact ⟨rfl, B2⟩
set_option maxRecDepth 100000 in
set_option maxHeartbeats 1000000 in
theorem names_2_2 (s : ByteArray) (h1 : (([119, 101, 101, 107, 108, 121] : List UInt8) == s.toList) = false) (h2 : (([102, 111, 114, 116, 110, 105, 103, 104, 116, 108, 121] : List UInt8) == s.toList) = false) (h3 : (([102, 111, 117, 114, 119, 101, 101, 107, 108, 121] : List UInt8) == s.toList) = true) (h4 : (([109, 111, 110, 116, 104, 108, 121] : List UInt8) == s.toList) = false) (W : World) (hK : Kinds W) (hl : (s.size : Int) ≤ 60) : Calls Tryd.prog 15 #[.int .i64 2, .string s] W fun e w' => e = .returned (.bool true) ∧ Below W.heap.size W w' := by
  have hcu := cuts_any
  have hfr := fun W K => pfreq_2 s h1 h2 h3 h4 W K
  have hnm := fun (W : World) (K : Kinds W) => pname_2 W K
  have hno := fun W K => nominal_any 2 W K
  rw [show nom 2 = 26 by decide] at hno
  have ix0 := index5s_0
  have ix1 := index5s_1
  have ix2 := index5s_2
  have ix3 := index5s_3
  have ix4 := index5s_4
  go_enter Tryd.func15, Tryd.ntmps15
  go_wp2_with (fail)
  refine (hcu _ hK).mono ?_
  rintro e w1 ⟨rfl, B1⟩
  have K1 := hK.below B1
  have hb2 : Below w1.heap.size w1 (w1.alloc (.cells #[.string ⟨#[]⟩, .string ⟨#[119, 101, 101, 107, 108, 121]⟩, .string ⟨#[102, 111, 114, 116, 110, 105, 103, 104, 116, 108, 121]⟩, .string ⟨#[102, 111, 117, 114, 119, 101, 101, 107, 108, 121]⟩, .string ⟨#[109, 111, 110, 116, 104, 108, 121]⟩] 70)) := (Below.refl _ _).alloc (Nat.le_refl _) _
  have K2 := K1.below hb2
  have B2 := below_step B1 hb2 B1.size
  clear hb2 hcu
  go_wp2_with (fail)
  refine (hfr _ K2).mono ?_
  rintro e w' ⟨rfl, rfl⟩
  go_wp2
  refine wp_loop_rounds 6 ?_
  rw [rounds_succ]
  go_wp2
  rw [rounds_succ]
  go_wp2
  rw [rounds_succ]
  go_wp2
  rw [rounds_succ]
  go_wp2
  rw [rounds_succ]
  go_wp2
  rw [rounds_succ]
  go_wp2_with (fail)
  refine (hnm _ K2).mono ?_
  rintro e w' ⟨rfl, rfl⟩
  go_wp2_with (fail)
  refine (hno _ K2).mono ?_
  rintro e w' ⟨rfl, rfl⟩
  go_wp2
  go_ret
  exact ⟨rfl, B2⟩
set_option maxRecDepth 100000 in
set_option maxHeartbeats 1000000 in
theorem names_2_3 (s : ByteArray) (h1 : (([119, 101, 101, 107, 108, 121] : List UInt8) == s.toList) = false) (h2 : (([102, 111, 114, 116, 110, 105, 103, 104, 116, 108, 121] : List UInt8) == s.toList) = false) (h3 : (([102, 111, 117, 114, 119, 101, 101, 107, 108, 121] : List UInt8) == s.toList) = false) (h4 : (([109, 111, 110, 116, 104, 108, 121] : List UInt8) == s.toList) = true) (W : World) (hK : Kinds W) (hl : (s.size : Int) ≤ 60) : Calls Tryd.prog 15 #[.int .i64 2, .string s] W fun e w' => e = .returned (.bool true) ∧ Below W.heap.size W w' := by
  have hcu := cuts_any
  have hfr := fun W K => pfreq_3 s h1 h2 h3 h4 W K
  have hnm := fun (W : World) (K : Kinds W) => pname_2 W K
  have hno := fun W K => nominal_any 2 W K
  rw [show nom 2 = 26 by decide] at hno
  have ix0 := index5s_0
  have ix1 := index5s_1
  have ix2 := index5s_2
  have ix3 := index5s_3
  have ix4 := index5s_4
  go_enter Tryd.func15, Tryd.ntmps15
  go_wp2_with (fail)
  refine (hcu _ hK).mono ?_
  rintro e w1 ⟨rfl, B1⟩
  have K1 := hK.below B1
  have hb2 : Below w1.heap.size w1 (w1.alloc (.cells #[.string ⟨#[]⟩, .string ⟨#[119, 101, 101, 107, 108, 121]⟩, .string ⟨#[102, 111, 114, 116, 110, 105, 103, 104, 116, 108, 121]⟩, .string ⟨#[102, 111, 117, 114, 119, 101, 101, 107, 108, 121]⟩, .string ⟨#[109, 111, 110, 116, 104, 108, 121]⟩] 70)) := (Below.refl _ _).alloc (Nat.le_refl _) _
  have K2 := K1.below hb2
  have B2 := below_step B1 hb2 B1.size
  clear hb2 hcu
  go_wp2_with (fail)
  refine (hfr _ K2).mono ?_
  rintro e w' ⟨rfl, rfl⟩
  go_wp2
  refine wp_loop_rounds 6 ?_
  rw [rounds_succ]
  go_wp2
  rw [rounds_succ]
  go_wp2
  rw [rounds_succ]
  go_wp2
  rw [rounds_succ]
  go_wp2
  rw [rounds_succ]
  go_wp2
  rw [rounds_succ]
  go_wp2_with (fail)
  refine (hnm _ K2).mono ?_
  rintro e w' ⟨rfl, rfl⟩
  go_wp2_with (fail)
  refine (hno _ K2).mono ?_
  rintro e w' ⟨rfl, rfl⟩
  go_wp2
  go_ret
  exact ⟨rfl, B2⟩
set_option maxRecDepth 100000 in
set_option maxHeartbeats 1000000 in
theorem names_2_4 (s : ByteArray) (h1 : (([119, 101, 101, 107, 108, 121] : List UInt8) == s.toList) = false) (h2 : (([102, 111, 114, 116, 110, 105, 103, 104, 116, 108, 121] : List UInt8) == s.toList) = false) (h3 : (([102, 111, 117, 114, 119, 101, 101, 107, 108, 121] : List UInt8) == s.toList) = false) (h4 : (([109, 111, 110, 116, 104, 108, 121] : List UInt8) == s.toList) = false) (W : World) (hK : Kinds W) (hl : (s.size : Int) ≤ 60) : Calls Tryd.prog 15 #[.int .i64 2, .string s] W fun e w' => e = .returned (.bool true) ∧ Below W.heap.size W w' := by
  have hcu := cuts_any
  have hfr := fun W K => pfreq_4 s h1 h2 h3 h4 W K
  have hnm := fun (W : World) (K : Kinds W) => pname_2 W K
  have hno := fun W K => nominal_any 2 W K
  rw [show nom 2 = 26 by decide] at hno
  have ix0 := index5s_0
  have ix1 := index5s_1
  have ix2 := index5s_2
  have ix3 := index5s_3
  have ix4 := index5s_4
  go_enter Tryd.func15, Tryd.ntmps15
  go_wp2_with (fail)
  refine (hcu _ hK).mono ?_
  rintro e w1 ⟨rfl, B1⟩
  have K1 := hK.below B1
  have hb2 : Below w1.heap.size w1 (w1.alloc (.cells #[.string ⟨#[]⟩, .string ⟨#[119, 101, 101, 107, 108, 121]⟩, .string ⟨#[102, 111, 114, 116, 110, 105, 103, 104, 116, 108, 121]⟩, .string ⟨#[102, 111, 117, 114, 119, 101, 101, 107, 108, 121]⟩, .string ⟨#[109, 111, 110, 116, 104, 108, 121]⟩] 70)) := (Below.refl _ _).alloc (Nat.le_refl _) _
  have K2 := K1.below hb2
  have B2 := below_step B1 hb2 B1.size
  clear hb2 hcu
  go_wp2_with (fail)
  refine (hfr _ K2).mono ?_
  rintro e w' ⟨rfl, rfl⟩
  go_wp2
  refine wp_loop_rounds 6 ?_
  rw [rounds_succ]
  go_wp2
  rw [rounds_succ]
  go_wp2
  rw [rounds_succ]
  go_wp2
  rw [rounds_succ]
  go_wp2
  rw [rounds_succ]
  go_wp2
  rw [rounds_succ]
  go_wp2_with (fail)
  refine (hnm _ K2).mono ?_
  rintro e w' ⟨rfl, rfl⟩
  go_wp2_with (fail)
  refine (hno _ K2).mono ?_
  rintro e w' ⟨rfl, rfl⟩
  go_wp2
  go_ret
  exact ⟨rfl, B2⟩
set_option maxRecDepth 100000 in
set_option maxHeartbeats 1000000 in
theorem names_3_0 (s : ByteArray) (h1 : (([119, 101, 101, 107, 108, 121] : List UInt8) == s.toList) = true) (h2 : (([102, 111, 114, 116, 110, 105, 103, 104, 116, 108, 121] : List UInt8) == s.toList) = false) (h3 : (([102, 111, 117, 114, 119, 101, 101, 107, 108, 121] : List UInt8) == s.toList) = false) (h4 : (([109, 111, 110, 116, 104, 108, 121] : List UInt8) == s.toList) = false) (W : World) (hK : Kinds W) (hl : (s.size : Int) ≤ 60) : Calls Tryd.prog 15 #[.int .i64 3, .string s] W fun e w' => e = .returned (.bool true) ∧ Below W.heap.size W w' := by
  have hcu := cuts_any
  have hfr := fun W K => pfreq_0 s h1 h2 h3 h4 W K
  have hnm := fun (W : World) (K : Kinds W) => pname_3 W K
  have hno := fun W K => nominal_any 3 W K
  rw [show nom 3 = 13 by decide] at hno
  have ix0 := index5s_0
  have ix1 := index5s_1
  have ix2 := index5s_2
  have ix3 := index5s_3
  have ix4 := index5s_4
  go_enter Tryd.func15, Tryd.ntmps15
  go_wp2_with (fail)
  refine (hcu _ hK).mono ?_
  rintro e w1 ⟨rfl, B1⟩
  have K1 := hK.below B1
  have hb2 : Below w1.heap.size w1 (w1.alloc (.cells #[.string ⟨#[]⟩, .string ⟨#[119, 101, 101, 107, 108, 121]⟩, .string ⟨#[102, 111, 114, 116, 110, 105, 103, 104, 116, 108, 121]⟩, .string ⟨#[102, 111, 117, 114, 119, 101, 101, 107, 108, 121]⟩, .string ⟨#[109, 111, 110, 116, 104, 108, 121]⟩] 70)) := (Below.refl _ _).alloc (Nat.le_refl _) _
  have K2 := K1.below hb2
  have B2 := below_step B1 hb2 B1.size
  clear hb2 hcu
  go_wp2_with (fail)
  refine (hfr _ K2).mono ?_
  rintro e w' ⟨rfl, rfl⟩
  go_wp2
  refine wp_loop_rounds 6 ?_
  rw [rounds_succ]
  go_wp2
  rw [rounds_succ]
  go_wp2
  rw [rounds_succ]
  go_wp2
  rw [rounds_succ]
  go_wp2
  rw [rounds_succ]
  go_wp2
  rw [rounds_succ]
  go_wp2_with (fail)
  refine (hnm _ K2).mono ?_
  rintro e w' ⟨rfl, rfl⟩
  go_wp2_with (fail)
  refine (hno _ K2).mono ?_
  rintro e w' ⟨rfl, rfl⟩
  go_wp2
  go_ret
  exact ⟨rfl, B2⟩
set_option maxRecDepth 100000 in
set_option maxHeartbeats 1000000 in
theorem names_3_1 (s : ByteArray) (h1 : (([119, 101, 101, 107, 108, 121] : List UInt8) == s.toList) = false) (h2 : (([102, 111, 114, 116, 110, 105, 103, 104, 116, 108, 121] : List UInt8) == s.toList) = true) (h3 : (([102, 111, 117, 114, 119, 101, 101, 107, 108, 121] : List UInt8) == s.toList) = false) (h4 : (([109, 111, 110, 116, 104, 108, 121] : List UInt8) == s.toList) = false) (W : World) (hK : Kinds W) (hl : (s.size : Int) ≤ 60) : Calls Tryd.prog 15 #[.int .i64 3, .string s] W fun e w' => e = .returned (.bool true) ∧ Below W.heap.size W w' := by
  have hcu := cuts_any
  have hfr := fun W K => pfreq_1 s h1 h2 h3 h4 W K
  have hnm := fun (W : World) (K : Kinds W) => pname_3 W K
  have hno := fun W K => nominal_any 3 W K
  rw [show nom 3 = 13 by decide] at hno
  have ix0 := index5s_0
  have ix1 := index5s_1
  have ix2 := index5s_2
  have ix3 := index5s_3
  have ix4 := index5s_4
  go_enter Tryd.func15, Tryd.ntmps15
  go_wp2_with (fail)
  refine (hcu _ hK).mono ?_
  rintro e w1 ⟨rfl, B1⟩
  have K1 := hK.below B1
  have hb2 : Below w1.heap.size w1 (w1.alloc (.cells #[.string ⟨#[]⟩, .string ⟨#[119, 101, 101, 107, 108, 121]⟩, .string ⟨#[102, 111, 114, 116, 110, 105, 103, 104, 116, 108, 121]⟩, .string ⟨#[102, 111, 117, 114, 119, 101, 101, 107, 108, 121]⟩, .string ⟨#[109, 111, 110, 116, 104, 108, 121]⟩] 70)) := (Below.refl _ _).alloc (Nat.le_refl _) _
  have K2 := K1.below hb2
  have B2 := below_step B1 hb2 B1.size
  clear hb2 hcu
  go_wp2_with (fail)
  refine (hfr _ K2).mono ?_
  rintro e w' ⟨rfl, rfl⟩
  go_wp2
  refine wp_loop_rounds 6 ?_
  rw [rounds_succ]
  go_wp2
  rw [rounds_succ]
  go_wp2
  rw [rounds_succ]
  go_wp2
  rw [rounds_succ]
  go_wp2
  rw [rounds_succ]
  go_wp2
  rw [rounds_succ]
  go_wp2_with (fail)
  refine (hnm _ K2).mono ?_
  rintro e w' ⟨rfl, rfl⟩
  go_wp2_with (fail)
  refine (hno _ K2).mono ?_
  rintro e w' ⟨rfl, rfl⟩
  go_wp2
  go_ret
  exact ⟨rfl, B2⟩
set_option maxRecDepth 100000 in
set_option maxHeartbeats 1000000 in
theorem names_3_2 (s : ByteArray) (h1 : (([119, 101, 101, 107, 108, 121] : List UInt8) == s.toList) = false) (h2 : (([102, 111, 114, 116, 110, 105, 103, 104, 116, 108, 121] : List UInt8) == s.toList) = false) (h3 : (([102, 111, 117, 114, 119, 101, 101, 107, 108, 121] : List UInt8) == s.toList) = true) (h4 : (([109, 111, 110, 116, 104, 108, 121] : List UInt8) == s.toList) = false) (W : World) (hK : Kinds W) (hl : (s.size : Int) ≤ 60) : Calls Tryd.prog 15 #[.int .i64 3, .string s] W fun e w' => e = .returned (.bool true) ∧ Below W.heap.size W w' := by
  have hcu := cuts_any
  have hfr := fun W K => pfreq_2 s h1 h2 h3 h4 W K
  have hnm := fun (W : World) (K : Kinds W) => pname_3 W K
  have hno := fun W K => nominal_any 3 W K
  rw [show nom 3 = 13 by decide] at hno
  have ix0 := index5s_0
  have ix1 := index5s_1
  have ix2 := index5s_2
  have ix3 := index5s_3
  have ix4 := index5s_4
  go_enter Tryd.func15, Tryd.ntmps15
  go_wp2_with (fail)
  refine (hcu _ hK).mono ?_
  rintro e w1 ⟨rfl, B1⟩
  have K1 := hK.below B1
  have hb2 : Below w1.heap.size w1 (w1.alloc (.cells #[.string ⟨#[]⟩, .string ⟨#[119, 101, 101, 107, 108, 121]⟩, .string ⟨#[102, 111, 114, 116, 110, 105, 103, 104, 116, 108, 121]⟩, .string ⟨#[102, 111, 117, 114, 119, 101, 101, 107, 108, 121]⟩, .string ⟨#[109, 111, 110, 116, 104, 108, 121]⟩] 70)) := (Below.refl _ _).alloc (Nat.le_refl _) _
  have K2 := K1.below hb2
  have B2 := below_step B1 hb2 B1.size
  clear hb2 hcu
  go_wp2_with (fail)
  refine (hfr _ K2).mono ?_
  rintro e w' ⟨rfl, rfl⟩
  go_wp2
  refine wp_loop_rounds 6 ?_
  rw [rounds_succ]
  go_wp2
  rw [rounds_succ]
  go_wp2
  rw [rounds_succ]
  go_wp2
  rw [rounds_succ]
  go_wp2
  rw [rounds_succ]
  go_wp2
  rw [rounds_succ]
  go_wp2_with (fail)
  refine (hnm _ K2).mono ?_
  rintro e w' ⟨rfl, rfl⟩
  go_wp2_with (fail)
  refine (hno _ K2).mono ?_
  rintro e w' ⟨rfl, rfl⟩
  go_wp2
  go_ret
  exact ⟨rfl, B2⟩
set_option maxRecDepth 100000 in
set_option maxHeartbeats 1000000 in
theorem names_3_3 (s : ByteArray) (h1 : (([119, 101, 101, 107, 108, 121] : List UInt8) == s.toList) = false) (h2 : (([102, 111, 114, 116, 110, 105, 103, 104, 116, 108, 121] : List UInt8) == s.toList) = false) (h3 : (([102, 111, 117, 114, 119, 101, 101, 107, 108, 121] : List UInt8) == s.toList) = false) (h4 : (([109, 111, 110, 116, 104, 108, 121] : List UInt8) == s.toList) = true) (W : World) (hK : Kinds W) (hl : (s.size : Int) ≤ 60) : Calls Tryd.prog 15 #[.int .i64 3, .string s] W fun e w' => e = .returned (.bool true) ∧ Below W.heap.size W w' := by
  have hcu := cuts_any
  have hfr := fun W K => pfreq_3 s h1 h2 h3 h4 W K
  have hnm := fun (W : World) (K : Kinds W) => pname_3 W K
  have hno := fun W K => nominal_any 3 W K
  rw [show nom 3 = 13 by decide] at hno
  have ix0 := index5s_0
  have ix1 := index5s_1
  have ix2 := index5s_2
  have ix3 := index5s_3
  have ix4 := index5s_4
  go_enter Tryd.func15, Tryd.ntmps15
  go_wp2_with (fail)
  refine (hcu _ hK).mono ?_
  rintro e w1 ⟨rfl, B1⟩
  have K1 := hK.below B1
  have hb2 : Below w1.heap.size w1 (w1.alloc (.cells #[.string ⟨#[]⟩, .string ⟨#[119, 101, 101, 107, 108, 121]⟩, .string ⟨#[102, 111, 114, 116, 110, 105, 103, 104, 116, 108, 121]⟩, .string ⟨#[102, 111, 117, 114, 119, 101, 101, 107, 108, 121]⟩, .string ⟨#[109, 111, 110, 116, 104, 108, 121]⟩] 70)) := (Below.refl _ _).alloc (Nat.le_refl _) _
  have K2 := K1.below hb2
  have B2 := below_step B1 hb2 B1.size
  clear hb2 hcu
  go_wp2_with (fail)
  refine (hfr _ K2).mono ?_
  rintro e w' ⟨rfl, rfl⟩
  go_wp2
  refine wp_loop_rounds 6 ?_
  rw [rounds_succ]
  go_wp2
  rw [rounds_succ]
  go_wp2
  rw [rounds_succ]
  go_wp2
  rw [rounds_succ]
  go_wp2
  rw [rounds_succ]
  go_wp2
  rw [rounds_succ]
  go_wp2_with (fail)
  refine (hnm _ K2).mono ?_
  rintro e w' ⟨rfl, rfl⟩
  go_wp2_with (fail)
  refine (hno _ K2).mono ?_
  rintro e w' ⟨rfl, rfl⟩
  go_wp2
  go_ret
  exact ⟨rfl, B2⟩
set_option maxRecDepth 100000 in
set_option maxHeartbeats 1000000 in
theorem names_3_4 (s : ByteArray) (h1 : (([119, 101, 101, 107, 108, 121] : List UInt8) == s.toList) = false) (h2 : (([102, 111, 114, 116, 110, 105, 103, 104, 116, 108, 121] : List UInt8) == s.toList) = false) (h3 : (([102, 111, 117, 114, 119, 101, 101, 107, 108, 121] : List UInt8) == s.toList) = false) (h4 : (([109, 111, 110, 116, 104, 108, 121] : List UInt8) == s.toList) = false) (W : World) (hK : Kinds W) (hl : (s.size : Int) ≤ 60) : Calls Tryd.prog 15 #[.int .i64 3, .string s] W fun e w' => e = .returned (.bool true) ∧ Below W.heap.size W w' := by
  have hcu := cuts_any
  have hfr := fun W K => pfreq_4 s h1 h2 h3 h4 W K
  have hnm := fun (W : World) (K : Kinds W) => pname_3 W K
  have hno := fun W K => nominal_any 3 W K
  rw [show nom 3 = 13 by decide] at hno
  have ix0 := index5s_0
  have ix1 := index5s_1
  have ix2 := index5s_2
  have ix3 := index5s_3
  have ix4 := index5s_4
  go_enter Tryd.func15, Tryd.ntmps15
  go_wp2_with (fail)
  refine (hcu _ hK).mono ?_
  rintro e w1 ⟨rfl, B1⟩
  have K1 := hK.below B1
  have hb2 : Below w1.heap.size w1 (w1.alloc (.cells #[.string ⟨#[]⟩, .string ⟨#[119, 101, 101, 107, 108, 121]⟩, .string ⟨#[102, 111, 114, 116, 110, 105, 103, 104, 116, 108, 121]⟩, .string ⟨#[102, 111, 117, 114, 119, 101, 101, 107, 108, 121]⟩, .string ⟨#[109, 111, 110, 116, 104, 108, 121]⟩] 70)) := (Below.refl _ _).alloc (Nat.le_refl _) _
  have K2 := K1.below hb2
  have B2 := below_step B1 hb2 B1.size
  clear hb2 hcu
  go_wp2_with (fail)
  refine (hfr _ K2).mono ?_
  rintro e w' ⟨rfl, rfl⟩
  go_wp2
  refine wp_loop_rounds 6 ?_
  rw [rounds_succ]
  go_wp2
  rw [rounds_succ]
  go_wp2
  rw [rounds_succ]
  go_wp2
  rw [rounds_succ]
  go_wp2
  rw [rounds_succ]
  go_wp2
  rw [rounds_succ]
  go_wp2_with (fail)
  refine (hnm _ K2).mono ?_
  rintro e w' ⟨rfl, rfl⟩
  go_wp2_with (fail)
  refine (hno _ K2).mono ?_
  rintro e w' ⟨rfl, rfl⟩
  go_wp2
  go_ret
  exact ⟨rfl, B2⟩
set_option maxRecDepth 100000 in
set_option maxHeartbeats 1000000 in
theorem names_4_0 (s : ByteArray) (h1 : (([119, 101, 101, 107, 108, 121] : List UInt8) == s.toList) = true) (h2 : (([102, 111, 114, 116, 110, 105, 103, 104, 116, 108, 121] : List UInt8) == s.toList) = false) (h3 : (([102, 111, 117, 114, 119, 101, 101, 107, 108, 121] : List UInt8) == s.toList) = false) (h4 : (([109, 111, 110, 116, 104, 108, 121] : List UInt8) == s.toList) = false) (W : World) (hK : Kinds W) (hl : (s.size : Int) ≤ 60) : Calls Tryd.prog 15 #[.int .i64 4, .string s] W fun e w' => e = .returned (.bool true) ∧ Below W.heap.size W w' := by
  have hcu := cuts_any
  have hfr := fun W K => pfreq_0 s h1 h2 h3 h4 W K
  have hnm := fun (W : World) (K : Kinds W) => pname_4 W K
  have hno := fun W K => nominal_any 4 W K
  rw [show nom 4 = 12 by decide] at hno
  have ix0 := index5s_0
  have ix1 := index5s_1
  have ix2 := index5s_2
  have ix3 := index5s_3
  have ix4 := index5s_4
  go_enter Tryd.func15, Tryd.ntmps15
  go_wp2_with (fail)
  refine (hcu _ hK).mono ?_
  rintro e w1 ⟨rfl, B1⟩
  have K1 := hK.below B1
  have hb2 : Below w1.heap.size w1 (w1.alloc (.cells #[.string ⟨#[]⟩, .string ⟨#[119, 101, 101, 107, 108, 121]⟩, .string ⟨#[102, 111, 114, 116, 110, 105, 103, 104, 116, 108, 121]⟩, .string ⟨#[102, 111, 117, 114, 119, 101, 101, 107, 108, 121]⟩, .string ⟨#[109, 111, 110, 116, 104, 108, 121]⟩] 70)) := (Below.refl _ _).alloc (Nat.le_refl _) _
  have K2 := K1.below hb2
  have B2 := below_step B1 hb2 B1.size
  clear hb2 hcu
  go_wp2_with (fail)
  refine (hfr _ K2).mono ?_
  rintro e w' ⟨rfl, rfl⟩
  go_wp2
  refine wp_loop_rounds 6 ?_
  rw [rounds_succ]
  go_wp2
  rw [rounds_succ]
  go_wp2
  rw [rounds_succ]
  go_wp2
  rw [rounds_succ]
  go_wp2
  rw [rounds_succ]
  go_wp2
  rw [rounds_succ]
  go_wp2_with (fail)
  refine (hnm _ K2).mono ?_
  rintro e w' ⟨rfl, rfl⟩
  go_wp2_with (fail)
  refine (hno _ K2).mono ?_
  rintro e w' ⟨rfl, rfl⟩
  go_wp2
  go_ret
  exact ⟨rfl, B2⟩
set_option maxRecDepth 100000 in
set_option maxHeartbeats 1000000 in
theorem names_4_1 (s : ByteArray) (h1 : (([119, 101, 101, 107, 108, 121] : List UInt8) == s.toList) = false) (h2 : (([102, 111, 114, 116, 110, 105, 103, 104, 116, 108, 121] : List UInt8) == s.toList) = true) (h3 : (([102, 111, 117, 114, 119, 101, 101, 107, 108, 121] : List UInt8) == s.toList) = false) (h4 : (([109, 111, 110, 116, 104, 108, 121] : List UInt8) == s.toList) = false) (W : World) (hK : Kinds W) (hl : (s.size : Int) ≤ 60) : Calls Tryd.prog 15 #[.int .i64 4, .string s] W fun e w' => e = .returned (.bool true) ∧ Below W.heap.size W w' := by
  have hcu := cuts_any
  have hfr := fun W K => pfreq_1 s h1 h2 h3 h4 W K
  have hnm := fun (W : World) (K : Kinds W) => pname_4 W K
  have hno := fun W K => nominal_any 4 W K
  rw [show nom 4 = 12 by decide] at hno
  have ix0 := index5s_0
  have ix1 := index5s_1
  have ix2 := index5s_2
  have ix3 := index5s_3
  have ix4 := index5s_4
  go_enter Tryd.func15, Tryd.ntmps15
  go_wp2_with (fail)
  refine (hcu _ hK).mono ?_
  rintro e w1 ⟨rfl, B1⟩
  have K1 := hK.below B1
  have hb2 : Below w1.heap.size w1 (w1.alloc (.cells #[.string ⟨#[]⟩, .string ⟨#[119, 101, 101, 107, 108, 121]⟩, .string ⟨#[102, 111, 114, 116, 110, 105, 103, 104, 116, 108, 121]⟩, .string ⟨#[102, 111, 117, 114, 119, 101, 101, 107, 108, 121]⟩, .string ⟨#[109, 111, 110, 116, 104, 108, 121]⟩] 70)) := (Below.refl _ _).alloc (Nat.le_refl _) _
  have K2 := K1.below hb2
  have B2 := below_step B1 hb2 B1.size
  clear hb2 hcu
  go_wp2_with (fail)
  refine (hfr _ K2).mono ?_
  rintro e w' ⟨rfl, rfl⟩
  go_wp2
  refine wp_loop_rounds 6 ?_
  rw [rounds_succ]
  go_wp2
  rw [rounds_succ]
  go_wp2
  rw [rounds_succ]
  go_wp2
  rw [rounds_succ]
  go_wp2
  rw [rounds_succ]
  go_wp2
  rw [rounds_succ]
  go_wp2_with (fail)
  refine (hnm _ K2).mono ?_
  rintro e w' ⟨rfl, rfl⟩
  go_wp2_with (fail)
  refine (hno _ K2).mono ?_
  rintro e w' ⟨rfl, rfl⟩
  go_wp2
  go_ret
  exact ⟨rfl, B2⟩
set_option maxRecDepth 100000 in
set_option maxHeartbeats 1000000 in
theorem names_4_2 (s : ByteArray) (h1 : (([119, 101, 101, 107, 108, 121] : List UInt8) == s.toList) = false) (h2 : (([102, 111, 114, 116, 110, 105, 103, 104, 116, 108, 121] : List UInt8) == s.toList) = false) (h3 : (([102, 111, 117, 114, 119, 101, 101, 107, 108, 121] : List UInt8) == s.toList) = true) (h4 : (([109, 111, 110, 116, 104, 108, 121] : List UInt8) == s.toList) = false) (W : World) (hK : Kinds W) (hl : (s.size : Int) ≤ 60) : Calls Tryd.prog 15 #[.int .i64 4, .string s] W fun e w' => e = .returned (.bool true) ∧ Below W.heap.size W w' := by
  have hcu := cuts_any
  have hfr := fun W K => pfreq_2 s h1 h2 h3 h4 W K
  have hnm := fun (W : World) (K : Kinds W) => pname_4 W K
  have hno := fun W K => nominal_any 4 W K
  rw [show nom 4 = 12 by decide] at hno
  have ix0 := index5s_0
  have ix1 := index5s_1
  have ix2 := index5s_2
  have ix3 := index5s_3
  have ix4 := index5s_4
  go_enter Tryd.func15, Tryd.ntmps15
  go_wp2_with (fail)
  refine (hcu _ hK).mono ?_
  rintro e w1 ⟨rfl, B1⟩
  have K1 := hK.below B1
  have hb2 : Below w1.heap.size w1 (w1.alloc (.cells #[.string ⟨#[]⟩, .string ⟨#[119, 101, 101, 107, 108, 121]⟩, .string ⟨#[102, 111, 114, 116, 110, 105, 103, 104, 116, 108, 121]⟩, .string ⟨#[102, 111, 117, 114, 119, 101, 101, 107, 108, 121]⟩, .string ⟨#[109, 111, 110, 116, 104, 108, 121]⟩] 70)) := (Below.refl _ _).alloc (Nat.le_refl _) _
  have K2 := K1.below hb2
  have B2 := below_step B1 hb2 B1.size
  clear hb2 hcu
  go_wp2_with (fail)
  refine (hfr _ K2).mono ?_
  rintro e w' ⟨rfl, rfl⟩
  go_wp2
  refine wp_loop_rounds 6 ?_
  rw [rounds_succ]
  go_wp2
  rw [rounds_succ]
  go_wp2
  rw [rounds_succ]
  go_wp2
  rw [rounds_succ]
  go_wp2
  rw [rounds_succ]
  go_wp2
  rw [rounds_succ]
  go_wp2_with (fail)
  refine (hnm _ K2).mono ?_
  rintro e w' ⟨rfl, rfl⟩
  go_wp2_with (fail)
  refine (hno _ K2).mono ?_
  rintro e w' ⟨rfl, rfl⟩
  go_wp2
  go_ret
  exact ⟨rfl, B2⟩
set_option maxRecDepth 100000 in
set_option maxHeartbeats 1000000 in
theorem names_4_3 (s : ByteArray) (h1 : (([119, 101, 101, 107, 108, 121] : List UInt8) == s.toList) = false) (h2 : (([102, 111, 114, 116, 110, 105, 103, 104, 116, 108, 121] : List UInt8) == s.toList) = false) (h3 : (([102, 111, 117, 114, 119, 101, 101, 107, 108, 121] : List UInt8) == s.toList) = false) (h4 : (([109, 111, 110, 116, 104, 108, 121] : List UInt8) == s.toList) = true) (W : World) (hK : Kinds W) (hl : (s.size : Int) ≤ 60) : Calls Tryd.prog 15 #[.int .i64 4, .string s] W fun e w' => e = .returned (.bool true) ∧ Below W.heap.size W w' := by
  have hcu := cuts_any
  have hfr := fun W K => pfreq_3 s h1 h2 h3 h4 W K
  have hnm := fun (W : World) (K : Kinds W) => pname_4 W K
  have hno := fun W K => nominal_any 4 W K
  rw [show nom 4 = 12 by decide] at hno
  have ix0 := index5s_0
  have ix1 := index5s_1
  have ix2 := index5s_2
  have ix3 := index5s_3
  have ix4 := index5s_4
  go_enter Tryd.func15, Tryd.ntmps15
  go_wp2_with (fail)
  refine (hcu _ hK).mono ?_
  rintro e w1 ⟨rfl, B1⟩
  have K1 := hK.below B1
  have hb2 : Below w1.heap.size w1 (w1.alloc (.cells #[.string ⟨#[]⟩, .string ⟨#[119, 101, 101, 107, 108, 121]⟩, .string ⟨#[102, 111, 114, 116, 110, 105, 103, 104, 116, 108, 121]⟩, .string ⟨#[102, 111, 117, 114, 119, 101, 101, 107, 108, 121]⟩, .string ⟨#[109, 111, 110, 116, 104, 108, 121]⟩] 70)) := (Below.refl _ _).alloc (Nat.le_refl _) _
  have K2 := K1.below hb2
  have B2 := below_step B1 hb2 B1.size
  clear hb2 hcu
  go_wp2_with (fail)
  refine (hfr _ K2).mono ?_
  rintro e w' ⟨rfl, rfl⟩
  go_wp2
  refine wp_loop_rounds 6 ?_
  rw [rounds_succ]
  go_wp2
  rw [rounds_succ]
  go_wp2
  rw [rounds_succ]
  go_wp2
  rw [rounds_succ]
  go_wp2
  rw [rounds_succ]
  go_wp2
  rw [rounds_succ]
  go_wp2_with (fail)
  refine (hnm _ K2).mono ?_
  rintro e w' ⟨rfl, rfl⟩
  go_wp2_with (fail)
  refine (hno _ K2).mono ?_
  rintro e w' ⟨rfl, rfl⟩
  go_wp2
  go_ret
  exact ⟨rfl, B2⟩
set_option maxRecDepth 100000 in
set_option maxHeartbeats 1000000 in
theorem names_4_4 (s : ByteArray) (h1 : (([119, 101, 101, 107, 108, 121] : List UInt8) == s.toList) = false) (h2 : (([102, 111, 114, 116, 110, 105, 103, 104, 116, 108, 121] : List UInt8) == s.toList) = false) (h3 : (([102, 111, 117, 114, 119, 101, 101, 107, 108, 121] : List UInt8) == s.toList) = false) (h4 : (([109, 111, 110, 116, 104, 108, 121] : List UInt8) == s.toList) = false) (W : World) (hK : Kinds W) (hl : (s.size : Int) ≤ 60) : Calls Tryd.prog 15 #[.int .i64 4, .string s] W fun e w' => e = .returned (.bool true) ∧ Below W.heap.size W w' := by
  have hcu := cuts_any
  have hfr := fun W K => pfreq_4 s h1 h2 h3 h4 W K
  have hnm := fun (W : World) (K : Kinds W) => pname_4 W K
  have hno := fun W K => nominal_any 4 W K
  rw [show nom 4 = 12 by decide] at hno
  have ix0 := index5s_0
  have ix1 := index5s_1
  have ix2 := index5s_2
  have ix3 := index5s_3
  have ix4 := index5s_4
  go_enter Tryd.func15, Tryd.ntmps15
  go_wp2_with (fail)
  refine (hcu _ hK).mono ?_
  rintro e w1 ⟨rfl, B1⟩
  have K1 := hK.below B1
  have hb2 : Below w1.heap.size w1 (w1.alloc (.cells #[.string ⟨#[]⟩, .string ⟨#[119, 101, 101, 107, 108, 121]⟩, .string ⟨#[102, 111, 114, 116, 110, 105, 103, 104, 116, 108, 121]⟩, .string ⟨#[102, 111, 117, 114, 119, 101, 101, 107, 108, 121]⟩, .string ⟨#[109, 111, 110, 116, 104, 108, 121]⟩] 70)) := (Below.refl _ _).alloc (Nat.le_refl _) _
  have K2 := K1.below hb2
  have B2 := below_step B1 hb2 B1.size
  clear hb2 hcu
  go_wp2_with (fail)
  refine (hfr _ K2).mono ?_
  rintro e w' ⟨rfl, rfl⟩
  go_wp2
  refine wp_loop_rounds 6 ?_
  rw [rounds_succ]
  go_wp2
  rw [rounds_succ]
  go_wp2
  rw [rounds_succ]
  go_wp2
  rw [rounds_succ]
  go_wp2
  rw [rounds_succ]
  go_wp2
  rw [rounds_succ]
  go_wp2_with (fail)
  refine (hnm _ K2).mono ?_
  rintro e w' ⟨rfl, rfl⟩
  go_wp2_with (fail)
  refine (hno _ K2).mono ?_
  rintro e w' ⟨rfl, rfl⟩
  go_wp2
  go_ret
  exact ⟨rfl, B2⟩
set_option maxRecDepth 100000 in
set_option maxHeartbeats 1000000 in
theorem names_lo_0 (f : Int) (hf : f < 1) (s : ByteArray) (h1 : (([119, 101, 101, 107, 108, 121] : List UInt8) == s.toList) = true) (h2 : (([102, 111, 114, 116, 110, 105, 103, 104, 116, 108, 121] : List UInt8) == s.toList) = false) (h3 : (([102, 111, 117, 114, 119, 101, 101, 107, 108, 121] : List UInt8) == s.toList) = false) (h4 : (([109, 111, 110, 116, 104, 108, 121] : List UInt8) == s.toList) = false) (W : World) (hK : Kinds W) (hl : (s.size : Int) ≤ 60) : Calls Tryd.prog 15 #[.int .i64 f, .string s] W fun e w' => e = .returned (.bool true) ∧ Below W.heap.size W w' := by
  have hcu := cuts_any
  have hfr := fun W K => pfreq_0 s h1 h2 h3 h4 W K
  have hnm := fun (W : World) (K : Kinds W) => (pname_no f (by omega) W)
  have hno := fun W K => nominal_any f W K
  rw [show nom f = 0 by unfold nom; rw [if_neg (by omega), if_neg (by omega), if_neg (by omega), if_neg (by omega)]] at hno
  have ix0 := index5s_0
  have ix1 := index5s_1
  have ix2 := index5s_2
  have ix3 := index5s_3
  have ix4 := index5s_4
  have hf2 : ¬ 0 < f := by omega
  go_enter Tryd.func15, Tryd.ntmps15
  go_wp2_with (fail)
  refine (hcu _ hK).mono ?_
  rintro e w1 ⟨rfl, B1⟩
  have K1 := hK.below B1
  have hb2 : Below w1.heap.size w1 (w1.alloc (.cells #[.string ⟨#[]⟩, .string ⟨#[119, 101, 101, 107, 108, 121]⟩, .string ⟨#[102, 111, 114, 116, 110, 105, 103, 104, 116, 108, 121]⟩, .string ⟨#[102, 111, 117, 114, 119, 101, 101, 107, 108, 121]⟩, .string ⟨#[109, 111, 110, 116, 104, 108, 121]⟩] 70)) := (Below.refl _ _).alloc (Nat.le_refl _) _
  have K2 := K1.below hb2
  have B2 := below_step B1 hb2 B1.size
  clear hb2 hcu
  go_wp2_with (fail)
  refine (hfr _ K2).mono ?_
  rintro e w' ⟨rfl, rfl⟩
  go_wp2
  refine wp_loop_rounds 6 ?_
  rw [rounds_succ]
  go_wp2
  rw [rounds_succ]
  go_wp2
  rw [rounds_succ]
  go_wp2
  rw [rounds_succ]
  go_wp2
  rw [rounds_succ]
  go_wp2
  rw [rounds_succ]
  go_wp2_with (fail)
  refine (hnm _ K2).mono ?_
  rintro e w' ⟨rfl, rfl⟩
  go_wp2_with (fail)
  refine (hno _ K2).mono ?_
  rintro e w' ⟨rfl, rfl⟩
  go_wp2
  go_ret
  exact ⟨rfl, B2⟩
set_option maxRecDepth 100000 in
set_option maxHeartbeats 1000000 in
theorem names_lo_1 (f : Int) (hf : f < 1) (s : ByteArray) (h1 : (([119, 101, 101, 107, 108, 121] : List UInt8) == s.toList) = false) (h2 : (([102, 111, 114, 116, 110, 105, 103, 104, 116, 108, 121] : List UInt8) == s.toList) = true) (h3 : (([102, 111, 117, 114, 119, 101, 101, 107, 108, 121] : List UInt8) == s.toList) = false) (h4 : (([109, 111, 110, 116, 104, 108, 121] : List UInt8) == s.toList) = false) (W : World) (hK : Kinds W) (hl : (s.size : Int) ≤ 60) : Calls Tryd.prog 15 #[.int .i64 f, .string s] W fun e w' => e = .returned (.bool true) ∧ Below W.heap.size W w' := by
  have hcu := cuts_any
  have hfr := fun W K => pfreq_1 s h1 h2 h3 h4 W K
  have hnm := fun (W : World) (K : Kinds W) => (pname_no f (by omega) W)
  have hno := fun W K => nominal_any f W K
  rw [show nom f = 0 by unfold nom; rw [if_neg (by omega), if_neg (by omega), if_neg (by omega), if_neg (by omega)]] at hno
  have ix0 := index5s_0
  have ix1 := index5s_1
  have ix2 := index5s_2
  have ix3 := index5s_3
  have ix4 := index5s_4
  have hf2 : ¬ 0 < f := by omega
  go_enter Tryd.func15, Tryd.ntmps15
  go_wp2_with (fail)
  refine (hcu _ hK).mono ?_
  rintro e w1 ⟨rfl, B1⟩
  have K1 := hK.below B1
  have hb2 : Below w1.heap.size w1 (w1.alloc (.cells #[.string ⟨#[]⟩, .string ⟨#[119, 101, 101, 107, 108, 121]⟩, .string ⟨#[102, 111, 114, 116, 110, 105, 103, 104, 116, 108, 121]⟩, .string ⟨#[102, 111, 117, 114, 119, 101, 101, 107, 108, 121]⟩, .string ⟨#[109, 111, 110, 116, 104, 108, 121]⟩] 70)) := (Below.refl _ _).alloc (Nat.le_refl _) _
  have K2 := K1.below hb2
  have B2 := below_step B1 hb2 B1.size
  clear hb2 hcu
  go_wp2_with (fail)
  refine (hfr _ K2).mono ?_
  rintro e w' ⟨rfl, rfl⟩
  go_wp2
  refine wp_loop_rounds 6 ?_
  rw [rounds_succ]
  go_wp2
  rw [rounds_succ]
  go_wp2
  rw [rounds_succ]
  go_wp2
  rw [rounds_succ]
  go_wp2
  rw [rounds_succ]
  go_wp2
  rw [rounds_succ]
  go_wp2_with (fail)
  refine (hnm _ K2).mono ?_
  rintro e w' ⟨rfl, rfl⟩
  go_wp2_with (fail)
  refine (hno _ K2).mono ?_
  rintro e w' ⟨rfl, rfl⟩
  go_wp2
  go_ret
  exact ⟨rfl, B2⟩
set_option maxRecDepth 100000 in
set_option maxHeartbeats 1000000 in
theorem names_lo_2 (f : Int) (hf : f < 1) (s : ByteArray) (h1 : (([119, 101, 101, 107, 108, 121] : List UInt8) == s.toList) = false) (h2 : (([102, 111, 114, 116, 110, 105, 103, 104, 116, 108, 121] : List UInt8) == s.toList) = false) (h3 : (([102, 111, 117, 114, 119, 101, 101, 107, 108, 121] : List UInt8) == s.toList) = true) (h4 : (([109, 111, 110, 116, 104, 108, 121] : List UInt8) == s.toList) = false) (W : World) (hK : Kinds W) (hl : (s.size : Int) ≤ 60) : Calls Tryd.prog 15 #[.int .i64 f, .string s] W fun e w' => e = .returned (.bool true) ∧ Below W.heap.size W w' := by
  have hcu := cuts_any
  have hfr := fun W K => pfreq_2 s h1 h2 h3 h4 W K
  have hnm := fun (W : World) (K : Kinds W) => (pname_no f (by omega) W)
  have hno := fun W K => nominal_any f W K
  rw [show nom f = 0 by unfold nom; rw [if_neg (by omega), if_neg (by omega), if_neg (by omega), if_neg (by omega)]] at hno
  have ix0 := index5s_0
  have ix1 := index5s_1
  have ix2 := index5s_2
  have ix3 := index5s_3
  have ix4 := index5s_4
  have hf2 : ¬ 0 < f := by omega
  go_enter Tryd.func15, Tryd.ntmps15
  go_wp2_with (fail)
  refine (hcu _ hK).mono ?_
  rintro e w1 ⟨rfl, B1⟩
  have K1 := hK.below B1
  have hb2 : Below w1.heap.size w1 (w1.alloc (.cells #[.string ⟨#[]⟩, .string ⟨#[119, 101, 101, 107, 108, 121]⟩, .string ⟨#[102, 111, 114, 116, 110, 105, 103, 104, 116, 108, 121]⟩, .string ⟨#[102, 111, 117, 114, 119, 101, 101, 107, 108, 121]⟩, .string ⟨#[109, 111, 110, 116, 104, 108, 121]⟩] 70)) := (Below.refl _ _).alloc (Nat.le_refl _) _
  have K2 := K1.below hb2
  have B2 := below_step B1 hb2 B1.size
  clear hb2 hcu
  go_wp2_with (fail)
  refine (hfr _ K2).mono ?_
  rintro e w' ⟨rfl, rfl⟩
  go_wp2
  refine wp_loop_rounds 6 ?_
  rw [rounds_succ]
  go_wp2
  rw [rounds_succ]
  go_wp2
  rw [rounds_succ]
  go_wp2
  rw [rounds_succ]
  go_wp2
  rw [rounds_succ]
  go_wp2
  rw [rounds_succ]
  go_wp2_with (fail)
  refine (hnm _ K2).mono ?_
  rintro e w' ⟨rfl, rfl⟩
  go_wp2_with (fail)
  refine (hno _ K2).mono ?_
  rintro e w' ⟨rfl, rfl⟩
  go_wp2
  go_ret
  exact ⟨rfl, B2⟩
set_option maxRecDepth 100000 in
set_option maxHeartbeats 1000000 in
theorem names_lo_3 (f : Int) (hf : f < 1) (s : ByteArray) (h1 : (([119, 101, 101, 107, 108, 121] : List UInt8) == s.toList) = false) (h2 : (([102, 111, 114, 116, 110, 105, 103, 104, 116, 108, 121] : List UInt8) == s.toList) = false) (h3 : (([102, 111, 117, 114, 119, 101, 101, 107, 108, 121] : List UInt8) == s.toList) = false) (h4 : (([109, 111, 110, 116, 104, 108, 121] : List UInt8) == s.toList) = true) (W : World) (hK : Kinds W) (hl : (s.size : Int) ≤ 60) : Calls Tryd.prog 15 #[.int .i64 f, .string s] W fun e w' => e = .returned (.bool true) ∧ Below W.heap.size W w' := by
  have hcu := cuts_any
  have hfr := fun W K => pfreq_3 s h1 h2 h3 h4 W K
  have hnm := fun (W : World) (K : Kinds W) => (pname_no f (by omega) W)
  have hno := fun W K => nominal_any f W K
  rw [show nom f = 0 by unfold nom; rw [if_neg (by omega), if_neg (by omega), if_neg (by omega), if_neg (by omega)]] at hno
  have ix0 := index5s_0
  have ix1 := index5s_1
  have ix2 := index5s_2
  have ix3 := index5s_3
  have ix4 := index5s_4
  have hf2 : ¬ 0 < f := by omega
  go_enter Tryd.func15, Tryd.ntmps15
  go_wp2_with (fail)
  refine (hcu _ hK).mono ?_
  rintro e w1 ⟨rfl, B1⟩
  have K1 := hK.below B1
  have hb2 : Below w1.heap.size w1 (w1.alloc (.cells #[.string ⟨#[]⟩, .string ⟨#[119, 101, 101, 107, 108, 121]⟩, .string ⟨#[102, 111, 114, 116, 110, 105, 103, 104, 116, 108, 121]⟩, .string ⟨#[102, 111, 117, 114, 119, 101, 101, 107, 108, 121]⟩, .string ⟨#[109, 111, 110, 116, 104, 108, 121]⟩] 70)) := (Below.refl _ _).alloc (Nat.le_refl _) _
  have K2 := K1.below hb2
  have B2 := below_step B1 hb2 B1.size
  clear hb2 hcu
  go_wp2_with (fail)
  refine (hfr _ K2).mono ?_
  rintro e w' ⟨rfl, rfl⟩
  go_wp2
  refine wp_loop_rounds 6 ?_
  rw [rounds_succ]
  go_wp2
  rw [rounds_succ]
  go_wp2
  rw [rounds_succ]
  go_wp2
  rw [rounds_succ]
  go_wp2
  rw [rounds_succ]
  go_wp2
  rw [rounds_succ]
  go_wp2_with (fail)
  refine (hnm _ K2).mono ?_
  rintro e w' ⟨rfl, rfl⟩
  go_wp2_with (fail)
  refine (hno _ K2).mono ?_
  rintro e w' ⟨rfl, rfl⟩
  go_wp2
  go_ret
  exact ⟨rfl, B2⟩
set_option maxRecDepth 100000 in
set_option maxHeartbeats 1000000 in
theorem names_lo_4 (f : Int) (hf : f < 1) (s : ByteArray) (h1 : (([119, 101, 101, 107, 108, 121] : List UInt8) == s.toList) = false) (h2 : (([102, 111, 114, 116, 110, 105, 103, 104, 116, 108, 121] : List UInt8) == s.toList) = false) (h3 : (([102, 111, 117, 114, 119, 101, 101, 107, 108, 121] : List UInt8) == s.toList) = false) (h4 : (([109, 111, 110, 116, 104, 108, 121] : List UInt8) == s.toList) = false) (W : World) (hK : Kinds W) (hl : (s.size : Int) ≤ 60) : Calls Tryd.prog 15 #[.int .i64 f, .string s] W fun e w' => e = .returned (.bool true) ∧ Below W.heap.size W w' := by
  have hcu := cuts_any
  have hfr := fun W K => pfreq_4 s h1 h2 h3 h4 W K
  have hnm := fun (W : World) (K : Kinds W) => (pname_no f (by omega) W)
  have hno := fun W K => nominal_any f W K
  rw [show nom f = 0 by unfold nom; rw [if_neg (by omega), if_neg (by omega), if_neg (by omega), if_neg (by omega)]] at hno
  have ix0 := index5s_0
  have ix1 := index5s_1
  have ix2 := index5s_2
  have ix3 := index5s_3
  have ix4 := index5s_4
  have hf2 : ¬ 0 < f := by omega
  go_enter Tryd.func15, Tryd.ntmps15
  go_wp2_with (fail)
  refine (hcu _ hK).mono ?_
  rintro e w1 ⟨rfl, B1⟩
  have K1 := hK.below B1
  have hb2 : Below w1.heap.size w1 (w1.alloc (.cells #[.string ⟨#[]⟩, .string ⟨#[119, 101, 101, 107, 108, 121]⟩, .string ⟨#[102, 111, 114, 116, 110, 105, 103, 104, 116, 108, 121]⟩, .string ⟨#[102, 111, 117, 114, 119, 101, 101, 107, 108, 121]⟩, .string ⟨#[109, 111, 110, 116, 104, 108, 121]⟩] 70)) := (Below.refl _ _).alloc (Nat.le_refl _) _
  have K2 := K1.below hb2
  have B2 := below_step B1 hb2 B1.size
  clear hb2 hcu
  go_wp2_with (fail)
  refine (hfr _ K2).mono ?_
  rintro e w' ⟨rfl, rfl⟩
  go_wp2
  refine wp_loop_rounds 6 ?_
  rw [rounds_succ]
  go_wp2
  rw [rounds_succ]
  go_wp2
  rw [rounds_succ]
  go_wp2
  rw [rounds_succ]
  go_wp2
  rw [rounds_succ]
  go_wp2
  rw [rounds_succ]
  go_wp2_with (fail)
  refine (hnm _ K2).mono ?_
  rintro e w' ⟨rfl, rfl⟩
  go_wp2_with (fail)
  refine (hno _ K2).mono ?_
  rintro e w' ⟨rfl, rfl⟩
  go_wp2
  go_ret
  exact ⟨rfl, B2⟩
set_option maxRecDepth 100000 in
set_option maxHeartbeats 1000000 in
theorem names_hi_0 (f : Int) (hf : 4 < f) (s : ByteArray) (h1 : (([119, 101, 101, 107, 108, 121] : List UInt8) == s.toList) = true) (h2 : (([102, 111, 114, 116, 110, 105, 103, 104, 116, 108, 121] : List UInt8) == s.toList) = false) (h3 : (([102, 111, 117, 114, 119, 101, 101, 107, 108, 121] : List UInt8) == s.toList) = false) (h4 : (([109, 111, 110, 116, 104, 108, 121] : List UInt8) == s.toList) = false) (W : World) (hK : Kinds W) (hl : (s.size : Int) ≤ 60) : Calls Tryd.prog 15 #[.int .i64 f, .string s] W fun e w' => e = .returned (.bool true) ∧ Below W.heap.size W w' := by
  have hcu := cuts_any
  have hfr := fun W K => pfreq_0 s h1 h2 h3 h4 W K
  have hnm := fun (W : World) (K : Kinds W) => (pname_no f (by omega) W)
  have hno := fun W K => nominal_any f W K
  rw [show nom f = 0 by unfold nom; rw [if_neg (by omega), if_neg (by omega), if_neg (by omega), if_neg (by omega)]] at hno
  have ix0 := index5s_0
  have ix1 := index5s_1
  have ix2 := index5s_2
  have ix3 := index5s_3
  have ix4 := index5s_4
  have hf2 : 0 < f := by omega
  have hf3 : ¬ f < 5 := by omega
  go_enter Tryd.func15, Tryd.ntmps15
  go_wp2_with (fail)
  refine (hcu _ hK).mono ?_
  rintro e w1 ⟨rfl, B1⟩
  have K1 := hK.below B1
  have hb2 : Below w1.heap.size w1 (w1.alloc (.cells #[.string ⟨#[]⟩, .string ⟨#[119, 101, 101, 107, 108, 121]⟩, .string ⟨#[102, 111, 114, 116, 110, 105, 103, 104, 116, 108, 121]⟩, .string ⟨#[102, 111, 117, 114, 119, 101, 101, 107, 108, 121]⟩, .string ⟨#[109, 111, 110, 116, 104, 108, 121]⟩] 70)) := (Below.refl _ _).alloc (Nat.le_refl _) _
  have K2 := K1.below hb2
  have B2 := below_step B1 hb2 B1.size
  clear hb2 hcu
  go_wp2_with (fail)
  refine (hfr _ K2).mono ?_
  rintro e w' ⟨rfl, rfl⟩
  go_wp2
  refine wp_loop_rounds 6 ?_
  rw [rounds_succ]
  go_wp2
  rw [rounds_succ]
  go_wp2
  rw [rounds_succ]
  go_wp2
  rw [rounds_succ]
  go_wp2
  rw [rounds_succ]
  go_wp2
  rw [rounds_succ]
  go_wp2_with (fail)
  refine (hnm _ K2).mono ?_
  rintro e w' ⟨rfl, rfl⟩
  go_wp2_with (fail)
  refine (hno _ K2).mono ?_
  rintro e w' ⟨rfl, rfl⟩
  go_wp2
  go_ret
  exact ⟨rfl, B2⟩
set_option maxRecDepth 100000 in
set_option maxHeartbeats 1000000 in
theorem names_hi_1 (f : Int) (hf : 4 < f) (s : ByteArray) (h1 : (([119, 101, 101, 107, 108, 121] : List UInt8) == s.toList) = false) (h2 : (([102, 111, 114, 116, 110, 105, 103, 104, 116, 108, 121] : List UInt8) == s.toList) = true) (h3 : (([102, 111, 117, 114, 119, 101, 101, 107, 108, 121] : List UInt8) == s.toList) = false) (h4 : (([109, 111, 110, 116, 104, 108, 121] : List UInt8) == s.toList) = false) (W : World) (hK : Kinds W) (hl : (s.size : Int) ≤ 60) : Calls Tryd.prog 15 #[.int .i64 f, .string s] W fun e w' => e = .returned (.bool true) ∧ Below W.heap.size W w' := by
  have hcu := cuts_any
  have hfr := fun W K => pfreq_1 s h1 h2 h3 h4 W K
  have hnm := fun (W : World) (K : Kinds W) => (pname_no f (by omega) W)
  have hno := fun W K => nominal_any f W K
  rw [show nom f = 0 by unfold nom; rw [if_neg (by omega), if_neg (by omega), if_neg (by omega), if_neg (by omega)]] at hno
  have ix0 := index5s_0
  have ix1 := index5s_1
  have ix2 := index5s_2
  have ix3 := index5s_3
  have ix4 := index5s_4
  have hf2 : 0 < f := by omega
  have hf3 : ¬ f < 5 := by omega
  go_enter Tryd.func15, Tryd.ntmps15
  go_wp2_with (fail)
  refine (hcu _ hK).mono ?_
  rintro e w1 ⟨rfl, B1⟩
  have K1 := hK.below B1
  have hb2 : Below w1.heap.size w1 (w1.alloc (.cells #[.string ⟨#[]⟩, .string ⟨#[119, 101, 101, 107, 108, 121]⟩, .string ⟨#[102, 111, 114, 116, 110, 105, 103, 104, 116, 108, 121]⟩, .string ⟨#[102, 111, 117, 114, 119, 101, 101, 107, 108, 121]⟩, .string ⟨#[109, 111, 110, 116, 104, 108, 121]⟩] 70)) := (Below.refl _ _).alloc (Nat.le_refl _) _
  have K2 := K1.below hb2
  have B2 := below_step B1 hb2 B1.size
  clear hb2 hcu
  go_wp2_with (fail)
  refine (hfr _ K2).mono ?_
  rintro e w' ⟨rfl, rfl⟩
  go_wp2
  refine wp_loop_rounds 6 ?_
  rw [rounds_succ]
  go_wp2
  rw [rounds_succ]
  go_wp2
  rw [rounds_succ]
  go_wp2
  rw [rounds_succ]
  go_wp2
  rw [rounds_succ]
  go_wp2
  rw [rounds_succ]
  go_wp2_with (fail)
  refine (hnm _ K2).mono ?_
  rintro e w' ⟨rfl, rfl⟩
  go_wp2_with (fail)
  refine (hno _ K2).mono ?_
  rintro e w' ⟨rfl, rfl⟩
  go_wp2
  go_ret
  exact ⟨rfl, B2⟩
set_option maxRecDepth 100000 in
set_option maxHeartbeats 1000000 in
theorem names_hi_2 (f : Int) (hf : 4 < f) (s : ByteArray) (h1 : (([119, 101, 101, 107, 108, 121] : List UInt8) == s.toList) = false) (h2 : (([102, 111, 114, 116, 110, 105, 103, 104, 116, 108, 121] : List UInt8) == s.toList) = false) (h3 : (([102, 111, 117, 114, 119, 101, 101, 107, 108, 121] : List UInt8) == s.toList) = true) (h4 : (([109, 111, 110, 116, 104, 108, 121] : List UInt8) == s.toList) = false) (W : World) (hK : Kinds W) (hl : (s.size : Int) ≤ 60) : Calls Tryd.prog 15 #[.int .i64 f, .string s] W fun e w' => e = .returned (.bool true) ∧ Below W.heap.size W w' := by
  have hcu := cuts_any
  have hfr := fun W K => pfreq_2 s h1 h2 h3 h4 W K
  have hnm := fun (W : World) (K : Kinds W) => (pname_no f (by omega) W)
  have hno := fun W K => nominal_any f W K
  rw [show nom f = 0 by unfold nom; rw [if_neg (by omega), if_neg (by omega), if_neg (by omega), if_neg (by omega)]] at hno
  have ix0 := index5s_0
  have ix1 := index5s_1
  have ix2 := index5s_2
  have ix3 := index5s_3
  have ix4 := index5s_4
  have hf2 : 0 < f := by omega
  have hf3 : ¬ f < 5 := by omega
  go_enter Tryd.func15, Tryd.ntmps15
  go_wp2_with (fail)
  refine (hcu _ hK).mono ?_
  rintro e w1 ⟨rfl, B1⟩
  have K1 := hK.below B1
  have hb2 : Below w1.heap.size w1 (w1.alloc (.cells #[.string ⟨#[]⟩, .string ⟨#[119, 101, 101, 107, 108, 121]⟩, .string ⟨#[102, 111, 114, 116, 110, 105, 103, 104, 116, 108, 121]⟩, .string ⟨#[102, 111, 117, 114, 119, 101, 101, 107, 108, 121]⟩, .string ⟨#[109, 111, 110, 116, 104, 108, 121]⟩] 70)) := (Below.refl _ _).alloc (Nat.le_refl _) _
  have K2 := K1.below hb2
  have B2 := below_step B1 hb2 B1.size
  clear hb2 hcu
  go_wp2_with (fail)
  refine (hfr _ K2).mono ?_
  rintro e w' ⟨rfl, rfl⟩
  go_wp2
  refine wp_loop_rounds 6 ?_
  rw [rounds_succ]
  go_wp2
  rw [rounds_succ]
  go_wp2
  rw [rounds_succ]
  go_wp2
  rw [rounds_succ]
  go_wp2
  rw [rounds_succ]
  go_wp2
  rw [rounds_succ]
  go_wp2_with (fail)
  refine (hnm _ K2).mono ?_
  rintro e w' ⟨rfl, rfl⟩
  go_wp2_with (fail)
  refine (hno _ K2).mono ?_
  rintro e w' ⟨rfl, rfl⟩
  go_wp2
  go_ret
  exact ⟨rfl, B2⟩
set_option maxRecDepth 100000 in
set_option maxHeartbeats 1000000 in
theorem names_hi_3 (f : Int) (hf : 4 < f) (s : ByteArray) (h1 : (([119, 101, 101, 107, 108, 121] : List UInt8) == s.toList) = false) (h2 : (([102, 111, 114, 116, 110, 105, 103, 104, 116, 108, 121] : List UInt8) == s.toList) = false) (h3 : (([102, 111, 117, 114, 119, 101, 101, 107, 108, 121] : List UInt8) == s.toList) = false) (h4 : (([109, 111, 110, 116, 104, 108, 121] : List UInt8) == s.toList) = true) (W : World) (hK : Kinds W) (hl : (s.size : Int) ≤ 60) : Calls Tryd.prog 15 #[.int .i64 f, .string s] W fun e w' => e = .returned (.bool true) ∧ Below W.heap.size W w' := by
  have hcu := cuts_any
  have hfr := fun W K => pfreq_3 s h1 h2 h3 h4 W K
  have hnm := fun (W : World) (K : Kinds W) => (pname_no f (by omega) W)
  have hno := fun W K => nominal_any f W K
  rw [show nom f = 0 by unfold nom; rw [if_neg (by omega), if_neg (by omega), if_neg (by omega), if_neg (by omega)]] at hno
  have ix0 := index5s_0
  have ix1 := index5s_1
  have ix2 := index5s_2
  have ix3 := index5s_3
  have ix4 := index5s_4
  have hf2 : 0 < f := by omega
  have hf3 : ¬ f < 5 := by omega
  go_enter Tryd.func15, Tryd.ntmps15
  go_wp2_with (fail)
  refine (hcu _ hK).mono ?_
  rintro e w1 ⟨rfl, B1⟩
  have K1 := hK.below B1
  have hb2 : Below w1.heap.size w1 (w1.alloc (.cells #[.string ⟨#[]⟩, .string ⟨#[119, 101, 101, 107, 108, 121]⟩, .string ⟨#[102, 111, 114, 116, 110, 105, 103, 104, 116, 108, 121]⟩, .string ⟨#[102, 111, 117, 114, 119, 101, 101, 107, 108, 121]⟩, .string ⟨#[109, 111, 110, 116, 104, 108, 121]⟩] 70)) := (Below.refl _ _).alloc (Nat.le_refl _) _
  have K2 := K1.below hb2
  have B2 := below_step B1 hb2 B1.size
  clear hb2 hcu
  go_wp2_with (fail)
  refine (hfr _ K2).mono ?_
  rintro e w' ⟨rfl, rfl⟩
  go_wp2
  refine wp_loop_rounds 6 ?_
  rw [rounds_succ]
  go_wp2
  rw [rounds_succ]
  go_wp2
  rw [rounds_succ]
  go_wp2
  rw [rounds_succ]
  go_wp2
  rw [rounds_succ]
  go_wp2
  rw [rounds_succ]
  go_wp2_with (fail)
  refine (hnm _ K2).mono ?_
  rintro e w' ⟨rfl, rfl⟩
  go_wp2_with (fail)
  refine (hno _ K2).mono ?_
  rintro e w' ⟨rfl, rfl⟩
  go_wp2
  go_ret
  exact ⟨rfl, B2⟩
set_option maxRecDepth 100000 in
set_option maxHeartbeats 1000000 in
theorem names_hi_4 (f : Int) (hf : 4 < f) (s : ByteArray) (h1 : (([119, 101, 101, 107, 108, 121] : List UInt8) == s.toList) = false) (h2 : (([102, 111, 114, 116, 110, 105, 103, 104, 116, 108, 121] : List UInt8) == s.toList) = false) (h3 : (([102, 111, 117, 114, 119, 101, 101, 107, 108, 121] : List UInt8) == s.toList) = false) (h4 : (([109, 111, 110, 116, 104, 108, 121] : List UInt8) == s.toList) = false) (W : World) (hK : Kinds W) (hl : (s.size : Int) ≤ 60) : Calls Tryd.prog 15 #[.int .i64 f, .string s] W fun e w' => e = .returned (.bool true) ∧ Below W.heap.size W w' := by
  have hcu := cuts_any
  have hfr := fun W K => pfreq_4 s h1 h2 h3 h4 W K
  have hnm := fun (W : World) (K : Kinds W) => (pname_no f (by omega) W)
  have hno := fun W K => nominal_any f W K
  rw [show nom f = 0 by unfold nom; rw [if_neg (by omega), if_neg (by omega), if_neg (by omega), if_neg (by omega)]] at hno
  have ix0 := index5s_0
  have ix1 := index5s_1
  have ix2 := index5s_2
  have ix3 := index5s_3
  have ix4 := index5s_4
  have hf2 : 0 < f := by omega
  have hf3 : ¬ f < 5 := by omega
  go_enter Tryd.func15, Tryd.ntmps15
  go_wp2_with (fail)
  refine (hcu _ hK).mono ?_
  rintro e w1 ⟨rfl, B1⟩
  have K1 := hK.below B1
  have hb2 : Below w1.heap.size w1 (w1.alloc (.cells #[.string ⟨#[]⟩, .string ⟨#[119, 101, 101, 107, 108, 121]⟩, .string ⟨#[102, 111, 114, 116, 110, 105, 103, 104, 116, 108, 121]⟩, .string ⟨#[102, 111, 117, 114, 119, 101, 101, 107, 108, 121]⟩, .string ⟨#[109, 111, 110, 116, 104, 108, 121]⟩] 70)) := (Below.refl _ _).alloc (Nat.le_refl _) _
  have K2 := K1.below hb2
  have B2 := below_step B1 hb2 B1.size
  clear hb2 hcu
  go_wp2_with (fail)
  refine (hfr _ K2).mono ?_
  rintro e w' ⟨rfl, rfl⟩
  go_wp2
  refine wp_loop_rounds 6 ?_
  rw [rounds_succ]
  go_wp2
  rw [rounds_succ]
  go_wp2
  rw [rounds_succ]
  go_wp2
  rw [rounds_succ]
  go_wp2
  rw [rounds_succ]
  go_wp2
  rw [rounds_succ]
  go_wp2_with (fail)
  refine (hnm _ K2).mono ?_
  rintro e w' ⟨rfl, rfl⟩
  go_wp2_with (fail)
  refine (hno _ K2).mono ?_
  rintro e w' ⟨rfl, rfl⟩
  go_wp2
  go_ret
  exact ⟨rfl, B2⟩
theorem names_all_0 (f : Int) (s : ByteArray) (h1 : (([119, 101, 101, 107, 108, 121] : List UInt8) == s.toList) = true) (h2 : (([102, 111, 114, 116, 110, 105, 103, 104, 116, 108, 121] : List UInt8) == s.toList) = false) (h3 : (([102, 111, 117, 114, 119, 101, 101, 107, 108, 121] : List UInt8) == s.toList) = false) (h4 : (([109, 111, 110, 116, 104, 108, 121] : List UInt8) == s.toList) = false) (W : World) (hK : Kinds W) (hl : (s.size : Int) ≤ 60) : Calls Tryd.prog 15 #[.int .i64 f, .string s] W fun e w' => e = .returned (.bool true) ∧ Below W.heap.size W w' := by
  rcases (show f < 1 ∨ f = 1 ∨ f = 2 ∨ f = 3 ∨ f = 4 ∨ 4 < f by omega) with h | rfl | rfl | rfl | rfl | h
  · exact names_lo_0 f h s h1 h2 h3 h4 W hK hl
  · exact names_1_0 s h1 h2 h3 h4 W hK hl
  · exact names_2_0 s h1 h2 h3 h4 W hK hl
  · exact names_3_0 s h1 h2 h3 h4 W hK hl
  · exact names_4_0 s h1 h2 h3 h4 W hK hl
  · exact names_hi_0 f h s h1 h2 h3 h4 W hK hl
theorem names_all_1 (f : Int) (s : ByteArray) (h1 : (([119, 101, 101, 107, 108, 121] : List UInt8) == s.toList) = false) (h2 : (([102, 111, 114, 116, 110, 105, 103, 104, 116, 108, 121] : List UInt8) == s.toList) = true) (h3 : (([102, 111, 117, 114, 119, 101, 101, 107, 108, 121] : List UInt8) == s.toList) = false) (h4 : (([109, 111, 110, 116, 104, 108, 121] : List UInt8) == s.toList) = false) (W : World) (hK : Kinds W) (hl : (s.size : Int) ≤ 60) : Calls Tryd.prog 15 #[.int .i64 f, .string s] W fun e w' => e = .returned (.bool true) ∧ Below W.heap.size W w' := by
  rcases (show f < 1 ∨ f = 1 ∨ f = 2 ∨ f = 3 ∨ f = 4 ∨ 4 < f by omega) with h | rfl | rfl | rfl | rfl | h
  · exact names_lo_1 f h s h1 h2 h3 h4 W hK hl
  · exact names_1_1 s h1 h2 h3 h4 W hK hl
  · exact names_2_1 s h1 h2 h3 h4 W hK hl
  · exact names_3_1 s h1 h2 h3 h4 W hK hl
  · exact names_4_1 s h1 h2 h3 h4 W hK hl
  · exact names_hi_1 f h s h1 h2 h3 h4 W hK hl
theorem names_all_2 (f : Int) (s : ByteArray) (h1 : (([119, 101, 101, 107, 108, 121] : List UInt8) == s.toList) = false) (h2 : (([102, 111, 114, 116, 110, 105, 103, 104, 116, 108, 121] : List UInt8) == s.toList) = false) (h3 : (([102, 111, 117, 114, 119, 101, 101, 107, 108, 121] : List UInt8) == s.toList) = true) (h4 : (([109, 111, 110, 116, 104, 108, 121] : List UInt8) == s.toList) = false) (W : World) (hK : Kinds W) (hl : (s.size : Int) ≤ 60) : Calls Tryd.prog 15 #[.int .i64 f, .string s] W fun e w' => e = .returned (.bool true) ∧ Below W.heap.size W w' := by
  rcases (show f < 1 ∨ f = 1 ∨ f = 2 ∨ f = 3 ∨ f = 4 ∨ 4 < f by omega) with h | rfl | rfl | rfl | rfl | h
  · exact names_lo_2 f h s h1 h2 h3 h4 W hK hl
  · exact names_1_2 s h1 h2 h3 h4 W hK hl
  · exact names_2_2 s h1 h2 h3 h4 W hK hl
  · exact names_3_2 s h1 h2 h3 h4 W hK hl
  · exact names_4_2 s h1 h2 h3 h4 W hK hl
  · exact names_hi_2 f h s h1 h2 h3 h4 W hK hl
theorem names_all_3 (f : Int) (s : ByteArray) (h1 : (([119, 101, 101, 107, 108, 121] : List UInt8) == s.toList) = false) (h2 : (([102, 111, 114, 116, 110, 105, 103, 104, 116, 108, 121] : List UInt8) == s.toList) = false) (h3 : (([102, 111, 117, 114, 119, 101, 101, 107, 108, 121] : List UInt8) == s.toList) = false) (h4 : (([109, 111, 110, 116, 104, 108, 121] : List UInt8) == s.toList) = true) (W : World) (hK : Kinds W) (hl : (s.size : Int) ≤ 60) : Calls Tryd.prog 15 #[.int .i64 f, .string s] W fun e w' => e = .returned (.bool true) ∧ Below W.heap.size W w' := by
  rcases (show f < 1 ∨ f = 1 ∨ f = 2 ∨ f = 3 ∨ f = 4 ∨ 4 < f by omega) with h | rfl | rfl | rfl | rfl | h
  · exact names_lo_3 f h s h1 h2 h3 h4 W hK hl
  · exact names_1_3 s h1 h2 h3 h4 W hK hl
  · exact names_2_3 s h1 h2 h3 h4 W hK hl
  · exact names_3_3 s h1 h2 h3 h4 W hK hl
  · exact names_4_3 s h1 h2 h3 h4 W hK hl
  · exact names_hi_3 f h s h1 h2 h3 h4 W hK hl
theorem names_all_4 (f : Int) (s : ByteArray) (h1 : (([119, 101, 101, 107, 108, 121] : List UInt8) == s.toList) = false) (h2 : (([102, 111, 114, 116, 110, 105, 103, 104, 116, 108, 121] : List UInt8) == s.toList) = false) (h3 : (([102, 111, 117, 114, 119, 101, 101, 107, 108, 121] : List UInt8) == s.toList) = false) (h4 : (([109, 111, 110, 116, 104, 108, 121] : List UInt8) == s.toList) = false) (W : World) (hK : Kinds W) (hl : (s.size : Int) ≤ 60) : Calls Tryd.prog 15 #[.int .i64 f, .string s] W fun e w' => e = .returned (.bool true) ∧ Below W.heap.size W w' := by
  rcases (show f < 1 ∨ f = 1 ∨ f = 2 ∨ f = 3 ∨ f = 4 ∨ 4 < f by omega) with h | rfl | rfl | rfl | rfl | h
  · exact names_lo_4 f h s h1 h2 h3 h4 W hK hl
  · exact names_1_4 s h1 h2 h3 h4 W hK hl
  · exact names_2_4 s h1 h2 h3 h4 W hK hl
  · exact names_3_4 s h1 h2 h3 h4 W hK hl
  · exact names_4_4 s h1 h2 h3 h4 W hK hl
  · exact names_hi_4 f h s h1 h2 h3 h4 W hK hl
theorem wPeriodNames (f : Int) (s : ByteArray) (W : World) (hK : Kinds W) (hl : s.size ≤ 9223372036854775807) : Calls Tryd.prog 15 #[.int .i64 f, .string s] W fun e w' => e = .returned (.bool true) ∧ Below W.heap.size W w' := by
  by_cases hs : 60 < (s.size : Int)
  · exact names_long f s W hK hl hs
  have hs : (s.size : Int) ≤ 60 := by omega
  have other : ∀ (a b : List UInt8), (a == s.toList) = true → (b == a) = false → (b == s.toList) = false := fun a b h1 h2 => by rw [← eq_of_beq h1]; exact h2
  cases h1 : ([119, 101, 101, 107, 108, 121] : List UInt8) == s.toList
  · cases h2 : ([102, 111, 114, 116, 110, 105, 103, 104, 116, 108, 121] : List UInt8) == s.toList
    · cases h3 : ([102, 111, 117, 114, 119, 101, 101, 107, 108, 121] : List UInt8) == s.toList
      · cases h4 : ([109, 111, 110, 116, 104, 108, 121] : List UInt8) == s.toList
        · exact names_all_4 f s h1 h2 h3 h4 W hK hs
        · exact names_all_3 f s h1 h2 h3 h4 W hK hs
      · exact names_all_2 f s h1 h2 h3 (other _ _ h3 (by decide)) W hK hs
    · exact names_all_1 f s h1 h2 (other _ _ h2 (by decide)) (other _ _ h2 (by decide)) W hK hs
  · exact names_all_0 f s h1 (other _ _ h1 (by decide)) (other _ _ h1 (by decide)) (other _ _ h1 (by decide)) W hK hs
end Go.Proofs.YtnpkpjnkbajnjaaDoor
