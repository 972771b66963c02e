/- The walk of PeriodWeeks. -/
import Derived.Test.YtnpkpjnkbajnjaaDoorCuts
import Derived.Test.YtnpkpjnkbajnjaaDoorPerG
namespace Go.Proofs.YtnpkpjnkbajnjaaDoor
open Go.RowKit
set_option linter.unusedVariables false
set_option linter.unusedSimpArgs false

theorem index5_1 (W : World) : (Instr.index 61 (.agg #[.int .i64 0, .int .i64 52, .int .i64 26, .int .i64 13, .int .i64 12]) (.int .i64 1)).run Tryd.prog W = .ok (.int .i64 52) W := by kernel_rfl
theorem index5_2 (W : World) : (Instr.index 61 (.agg #[.int .i64 0, .int .i64 52, .int .i64 26, .int .i64 13, .int .i64 12]) (.int .i64 2)).run Tryd.prog W = .ok (.int .i64 26) W := by kernel_rfl
theorem index5_3 (W : World) : (Instr.index 61 (.agg #[.int .i64 0, .int .i64 52, .int .i64 26, .int .i64 13, .int .i64 12]) (.int .i64 3)).run Tryd.prog W = .ok (.int .i64 13) W := by kernel_rfl
theorem index5_4 (W : World) : (Instr.index 61 (.agg #[.int .i64 0, .int .i64 52, .int .i64 26, .int .i64 13, .int .i64 12]) (.int .i64 4)).run Tryd.prog W = .ok (.int .i64 12) W := by kernel_rfl
theorem index4_1 (W : World) : (Instr.index 68 (.agg #[.int .i64 0, .int .i64 7, .int .i64 14, .int .i64 28]) (.int .i64 1)).run Tryd.prog W = .ok (.int .i64 7) W := by kernel_rfl
theorem index4_2 (W : World) : (Instr.index 68 (.agg #[.int .i64 0, .int .i64 7, .int .i64 14, .int .i64 28]) (.int .i64 2)).run Tryd.prog W = .ok (.int .i64 14) W := by kernel_rfl
theorem index4_3 (W : World) : (Instr.index 68 (.agg #[.int .i64 0, .int .i64 7, .int .i64 14, .int .i64 28]) (.int .i64 3)).run Tryd.prog W = .ok (.int .i64 28) W := by kernel_rfl

set_option maxRecDepth 100000 in
theorem weeks_nil (f y m d k e0 : Int) (w : World) (hK : Kinds w) (hn : ∀ w, Calls Tryd.prog 47 #[.int .i64 f, .agg #[.int .i64 y, .int .i64 m, .int .i64 d]] w fun e w' => e = .returned (.tuple #[.pointer none, .int .i64 e0]) ∧ Below w.heap.size w w') :
    Calls Tryd.prog 13 #[.int .i64 f, .agg #[.int .i64 y, .int .i64 m, .int .i64 d], .int .i64 k] w fun e w' => e = .returned (.bool true) ∧ Below w.heap.size w w' := by
  have hcu := cuts_any
  have D0 := day_new w y m d 33
  have B0 : Below w.heap.size w (w.alloc (.cells #[.int .i64 y, .int .i64 m, .int .i64 d] 33)) := (Below.refl _ _).alloc (Nat.le_refl _) _
  have K0 := hK.below B0
  go_enter Tryd.func13, Tryd.ntmps13
  go_wp2_with (fail)
  refine (hcu _ K0).mono ?_
  rintro e w1 ⟨rfl, hb⟩
  have D1 := D0.below hb (by simp)
  have K1 := K0.below hb
  have B1 := below_step B0 hb B0.size
  have z1 : w.heap.size < w1.heap.size := by have := hb.size; simp at this; omega
  obtain ⟨c0, c1, c2⟩ := id D1
  clear hb D0 K0 B0 hcu hK
  go_wp2_with (fail)
  refine (hn _).mono ?_
  rintro e w2 ⟨rfl, hb⟩
  have B2 := below_step B1 hb B1.size
  go_wp2
  go_ret
  exact ⟨rfl, B2⟩

set_option maxRecDepth 100000 in
set_option maxHeartbeats 2000000 in
theorem weeks_out (f y m d k : Int) (w : World) (hK : Kinds w) (hf : 1 ≤ f) (hf' : f ≤ 4) (h : yrB y m d = true) (hk : k < 1 ∨ cnt f y m d < k) :
    Calls Tryd.prog 13 #[.int .i64 f, .agg #[.int .i64 y, .int .i64 m, .int .i64 d], .int .i64 k] w fun e w' => e = .returned (.bool true) ∧ Below w.heap.size w w' := by
  have hn := fun w K => new_ok f y m d hf hf' h w K
  have hsp := fun p W Y => span_no p f y m d k W Y h hf hf' hk
  have hpa := fun p W Y => part_no p f y m d k W Y h hf hf' hk
  have hct := fun p W Y => count_any p f y m d W Y h hf hf'
  generalize cnt f y m d = c at *
  have hcases : k < 1 ∨ (¬ k < 1 ∧ c < k) := by omega
  clear hk
  have hcu := cuts_any
  have D0 := day_new w y m d 33
  have B0 : Below w.heap.size w (w.alloc (.cells #[.int .i64 y, .int .i64 m, .int .i64 d] 33)) := (Below.refl _ _).alloc (Nat.le_refl _) _
  have K0 := hK.below B0
  go_enter Tryd.func13, Tryd.ntmps13
  go_wp2_with (fail)
  refine (hcu _ K0).mono ?_
  rintro e w1 ⟨rfl, hb⟩
  have D1 := D0.below hb (by simp)
  have K1 := K0.below hb
  have B1 := below_step B0 hb B0.size
  have z1 : w.heap.size < w1.heap.size := by have := hb.size; simp at this; omega
  obtain ⟨c0, c1, c2⟩ := id D1
  clear hb D0 K0 B0 hcu hK
  go_wp2_with (fail)
  refine (hn _ K1).mono ?_
  rintro e w2 ⟨p, rfl, z2, Y2, hb⟩
  have B2 := below_step B1 hb B1.size
  clear hb K1 B1 D1 hn
  go_wp2_with (fail)
  refine (hsp p _ Y2).mono ?_
  rintro e w3 ⟨rfl, hb⟩
  have B3 := below_step B2 hb B2.size
  have Y3 := Y2.below hb
  have T4 := box2_new w3 0 0 0 0 0 0 33 33
  have hb2 := two_base w3 #[.int .i64 0, .int .i64 0, .int .i64 0] #[.int .i64 0, .int .i64 0, .int .i64 0] 33 33
  have Y4 := Y3.below hb2
  have B4 := below_step B3 hb2 B3.size
  clear hb hb2 Y2 B2 Y3 B3 hsp
  go_wp2_with (fail)
  refine (hpa p _ Y4).mono ?_
  rintro e w4 ⟨rfl, hb⟩
  have B5 := below_step B4 hb B4.size
  have Y5 := Y4.below hb
  have T5 := T4.below hb
  clear hb Y4 B4 T4 hpa
  rcases hcases with g | ⟨g0, g⟩
  · obtain ⟨⟨t0, t1, t2⟩, ⟨t3, t4, t5⟩, _⟩ := id T5
    go_wp2
    go_ret
    exact ⟨rfl, B5⟩
  · go_wp2_with (fail)
    refine (hct p _ Y5).mono ?_
    rintro e w5 ⟨rfl, hb⟩
    have B6 := below_step B5 hb B5.size
    obtain ⟨⟨t0, t1, t2⟩, ⟨t3, t4, t5⟩, _⟩ := T5.below hb
    clear hb
    go_wp2
    go_ret
    exact ⟨rfl, B6⟩

set_option maxRecDepth 100000 in
set_option maxHeartbeats 4000000 in
theorem weeks_1 (y m d k : Int) (w : World) (hK : Kinds w) (h : yrB y m d = true) (hk : 1 ≤ k) (hk' : k ≤ cnt 1 y m d) :
    Calls Tryd.prog 13 #[.int .i64 1, .agg #[.int .i64 y, .int .i64 m, .int .i64 d], .int .i64 k] w fun e w' => e = .returned (.bool true) ∧ Below w.heap.size w w' := by
  have hm1 := (dayB_yes (yrB_yes h).1).2.2.1
  have hn := fun w K => new_ok 1 y m d (by omega) (by omega) h w K
  have hsp := fun p W Y => span_yes p 1 y m d k W Y h (by omega) (by omega) hk hk'
  have hpa := fun p W Y => part_yes p 1 y m d k W Y h (by omega) (by omega) hk hk'
  have hct := fun p W Y => count_any p 1 y m d W Y h (by omega) (by omega)
  obtain ⟨⟨d1, d2⟩, ⟨d3, d4⟩, d5, d6⟩ := per_days (f := 1) (by omega) (by omega) h hk hk'
  have hbt := between_yes _ _ _ _ _ _ d1 d3
  rw [d2, d4] at hbt
  have hnm : nom 1 = 52 := by decide
  rw [hnm] at hpa
  have hix := index5_1
  have hix4 := index4_1
  have hlen := per_len (f := 1) (by omega) (by omega) h hk hk'
  rw [show pd 1 = 7 by decide] at hlen
  clear d1 d2 d3 d4 d5 d6 h hnm
  have cnt_le := (cnt_bd (f := 1) (y := y) (m := m) (d := d) (by omega) (by omega) hm1).2
  generalize cnt 1 y m d = c at *
  generalize yOf (pb 1 y m d k) = u1 at *
  generalize mOf (pb 1 y m d k) = u2 at *
  generalize dOf (pb 1 y m d k) = u3 at *
  generalize yOf (pe 1 y m d k) = u4 at *
  generalize mOf (pe 1 y m d k) = u5 at *
  generalize dOf (pe 1 y m d k) = u6 at *
  generalize pe 1 y m d k - pb 1 y m d k = b at *
  have hcb : c ≤ 53 := (cnt_le)
  rcases hlen with g | ⟨g1, g2⟩
  · have g' : (b == 6) = true := by simp; omega
    clear g
    have hcu := cuts_any
    have D0 := day_new w y m d 33
    have B0 : Below w.heap.size w (w.alloc (.cells #[.int .i64 y, .int .i64 m, .int .i64 d] 33)) := (Below.refl _ _).alloc (Nat.le_refl _) _
    have K0 := hK.below B0
    go_enter Tryd.func13, Tryd.ntmps13
    go_wp2_with (fail)
    refine (hcu _ K0).mono ?_
    rintro e w1 ⟨rfl, hb⟩
    have D1 := D0.below hb (by simp)
    have K1 := K0.below hb
    have B1 := below_step B0 hb B0.size
    have z1 : w.heap.size < w1.heap.size := by have := hb.size; simp at this; omega
    obtain ⟨c0, c1, c2⟩ := id D1
    clear hb D0 K0 B0 hcu hK
    go_wp2_with (fail)
    refine (hn _ K1).mono ?_
    rintro e w2 ⟨p, rfl, z2, Y2, hb⟩
    have B2 := below_step B1 hb B1.size
    have D2 := D1.below hb z1
    have hz2 : w.heap.size < w2.heap.size := by have := hb.size; omega
    clear hb K1 B1 D1 hn
    go_wp2_with (fail)
    refine (hsp p _ Y2).mono ?_
    rintro e w3 ⟨rfl, hb⟩
    have B3 := below_step B2 hb B2.size
    have Y3 := Y2.below hb
    have D3 := D2.below hb hz2
    have hz3 : w.heap.size < w3.heap.size := by have := hb.size; omega
    have T4 := box2_new w3 u1 u2 u3 u4 u5 u6 33 33
    have hb2 := two_base w3 #[.int .i64 u1, .int .i64 u2, .int .i64 u3] #[.int .i64 u4, .int .i64 u5, .int .i64 u6] 33 33
    have Y4 := Y3.below hb2
    have B4 := below_step B3 hb2 B3.size
    have D4 := D3.below hb2 hz3
    clear hb hb2 Y2 B2 Y3 B3 hsp D2 D3
    go_wp2_with (fail)
    refine (hpa p _ Y4).mono ?_
    rintro e w4 ⟨rfl, hb⟩
    have B5 := below_step B4 hb B4.size
    have Y5 := Y4.below hb
    have T5 := T4.below hb
    have D5 := D4.below hb (by simp; omega)
    have hz4 : w.heap.size < w4.heap.size := by have := hb.size; simp at this; omega
    clear hb Y4 B4 T4 hpa D4
    go_wp2_with (fail)
    refine (hct p _ Y5).mono ?_
    rintro e w5 ⟨rfl, hb⟩
    have B6 := below_step B5 hb B5.size
    have Y6 := Y5.below hb
    have T6 := T5.below hb
    have D6 := D5.below hb hz4
    have hz5 : w.heap.size < w5.heap.size := by have := hb.size; omega
    obtain ⟨⟨t0, t1, t2⟩, ⟨t3, t4, t5⟩, hz6⟩ := id T6
    clear hb Y5 B5 T5 D5
    go_wp2_with (fail)
    refine (hbt _).mono ?_
    rintro e w6 ⟨rfl, hb⟩
    have B7 := below_step B6 hb B6.size
    have Y7 := Y6.below hb
    have T7 := T6.below hb
    have D7 := D6.below hb hz5
    have hz7 : w.heap.size < w6.heap.size := by have := hb.size; omega
    clear hb Y6 B6 T6 D6 hbt t0 t1 t2 t3 t4 t5
    obtain ⟨⟨t0, t1, t2⟩, ⟨t3, t4, t5⟩, hz8⟩ := id T7
    obtain ⟨s0, s1, s2⟩ := id D7
    go_wp2
    go_ret
    exact ⟨rfl, B7⟩
  · have g3 : (k == c) = true := by simpa using g1
    clear g1
    by_cases g : b = 6
    · have g' : (b == 6) = true := by simp; omega
      clear g
      have hcu := cuts_any
      have D0 := day_new w y m d 33
      have B0 : Below w.heap.size w (w.alloc (.cells #[.int .i64 y, .int .i64 m, .int .i64 d] 33)) := (Below.refl _ _).alloc (Nat.le_refl _) _
      have K0 := hK.below B0
      go_enter Tryd.func13, Tryd.ntmps13
      go_wp2_with (fail)
      refine (hcu _ K0).mono ?_
      rintro e w1 ⟨rfl, hb⟩
      have D1 := D0.below hb (by simp)
      have K1 := K0.below hb
      have B1 := below_step B0 hb B0.size
      have z1 : w.heap.size < w1.heap.size := by have := hb.size; simp at this; omega
      obtain ⟨c0, c1, c2⟩ := id D1
      clear hb D0 K0 B0 hcu hK
      go_wp2_with (fail)
      refine (hn _ K1).mono ?_
      rintro e w2 ⟨p, rfl, z2, Y2, hb⟩
      have B2 := below_step B1 hb B1.size
      have D2 := D1.below hb z1
      have hz2 : w.heap.size < w2.heap.size := by have := hb.size; omega
      clear hb K1 B1 D1 hn
      go_wp2_with (fail)
      refine (hsp p _ Y2).mono ?_
      rintro e w3 ⟨rfl, hb⟩
      have B3 := below_step B2 hb B2.size
      have Y3 := Y2.below hb
      have D3 := D2.below hb hz2
      have hz3 : w.heap.size < w3.heap.size := by have := hb.size; omega
      have T4 := box2_new w3 u1 u2 u3 u4 u5 u6 33 33
      have hb2 := two_base w3 #[.int .i64 u1, .int .i64 u2, .int .i64 u3] #[.int .i64 u4, .int .i64 u5, .int .i64 u6] 33 33
      have Y4 := Y3.below hb2
      have B4 := below_step B3 hb2 B3.size
      have D4 := D3.below hb2 hz3
      clear hb hb2 Y2 B2 Y3 B3 hsp D2 D3
      go_wp2_with (fail)
      refine (hpa p _ Y4).mono ?_
      rintro e w4 ⟨rfl, hb⟩
      have B5 := below_step B4 hb B4.size
      have Y5 := Y4.below hb
      have T5 := T4.below hb
      have D5 := D4.below hb (by simp; omega)
      have hz4 : w.heap.size < w4.heap.size := by have := hb.size; simp at this; omega
      clear hb Y4 B4 T4 hpa D4
      go_wp2_with (fail)
      refine (hct p _ Y5).mono ?_
      rintro e w5 ⟨rfl, hb⟩
      have B6 := below_step B5 hb B5.size
      have Y6 := Y5.below hb
      have T6 := T5.below hb
      have D6 := D5.below hb hz4
      have hz5 : w.heap.size < w5.heap.size := by have := hb.size; omega
      obtain ⟨⟨t0, t1, t2⟩, ⟨t3, t4, t5⟩, hz6⟩ := id T6
      clear hb Y5 B5 T5 D5
      go_wp2_with (fail)
      refine (hbt _).mono ?_
      rintro e w6 ⟨rfl, hb⟩
      have B7 := below_step B6 hb B6.size
      have Y7 := Y6.below hb
      have T7 := T6.below hb
      have D7 := D6.below hb hz5
      have hz7 : w.heap.size < w6.heap.size := by have := hb.size; omega
      clear hb Y6 B6 T6 D6 hbt t0 t1 t2 t3 t4 t5
      obtain ⟨⟨t0, t1, t2⟩, ⟨t3, t4, t5⟩, hz8⟩ := id T7
      obtain ⟨s0, s1, s2⟩ := id D7
      go_wp2
      go_ret
      exact ⟨rfl, B7⟩
    · have g' : (b == 6) = false := by simp; omega
      clear g
      have hcu := cuts_any
      have D0 := day_new w y m d 33
      have B0 : Below w.heap.size w (w.alloc (.cells #[.int .i64 y, .int .i64 m, .int .i64 d] 33)) := (Below.refl _ _).alloc (Nat.le_refl _) _
      have K0 := hK.below B0
      go_enter Tryd.func13, Tryd.ntmps13
      go_wp2_with (fail)
      refine (hcu _ K0).mono ?_
      rintro e w1 ⟨rfl, hb⟩
      have D1 := D0.below hb (by simp)
      have K1 := K0.below hb
      have B1 := below_step B0 hb B0.size
      have z1 : w.heap.size < w1.heap.size := by have := hb.size; simp at this; omega
      obtain ⟨c0, c1, c2⟩ := id D1
      clear hb D0 K0 B0 hcu hK
      go_wp2_with (fail)
      refine (hn _ K1).mono ?_
      rintro e w2 ⟨p, rfl, z2, Y2, hb⟩
      have B2 := below_step B1 hb B1.size
      have D2 := D1.below hb z1
      have hz2 : w.heap.size < w2.heap.size := by have := hb.size; omega
      clear hb K1 B1 D1 hn
      go_wp2_with (fail)
      refine (hsp p _ Y2).mono ?_
      rintro e w3 ⟨rfl, hb⟩
      have B3 := below_step B2 hb B2.size
      have Y3 := Y2.below hb
      have D3 := D2.below hb hz2
      have hz3 : w.heap.size < w3.heap.size := by have := hb.size; omega
      have T4 := box2_new w3 u1 u2 u3 u4 u5 u6 33 33
      have hb2 := two_base w3 #[.int .i64 u1, .int .i64 u2, .int .i64 u3] #[.int .i64 u4, .int .i64 u5, .int .i64 u6] 33 33
      have Y4 := Y3.below hb2
      have B4 := below_step B3 hb2 B3.size
      have D4 := D3.below hb2 hz3
      clear hb hb2 Y2 B2 Y3 B3 hsp D2 D3
      go_wp2_with (fail)
      refine (hpa p _ Y4).mono ?_
      rintro e w4 ⟨rfl, hb⟩
      have B5 := below_step B4 hb B4.size
      have Y5 := Y4.below hb
      have T5 := T4.below hb
      have D5 := D4.below hb (by simp; omega)
      have hz4 : w.heap.size < w4.heap.size := by have := hb.size; simp at this; omega
      clear hb Y4 B4 T4 hpa D4
      go_wp2_with (fail)
      refine (hct p _ Y5).mono ?_
      rintro e w5 ⟨rfl, hb⟩
      have B6 := below_step B5 hb B5.size
      have Y6 := Y5.below hb
      have T6 := T5.below hb
      have D6 := D5.below hb hz4
      have hz5 : w.heap.size < w5.heap.size := by have := hb.size; omega
      obtain ⟨⟨t0, t1, t2⟩, ⟨t3, t4, t5⟩, hz6⟩ := id T6
      clear hb Y5 B5 T5 D5
      go_wp2_with (fail)
      refine (hbt _).mono ?_
      rintro e w6 ⟨rfl, hb⟩
      have B7 := below_step B6 hb B6.size
      have Y7 := Y6.below hb
      have T7 := T6.below hb
      have D7 := D6.below hb hz5
      have hz7 : w.heap.size < w6.heap.size := by have := hb.size; omega
      clear hb Y6 B6 T6 D6 hbt t0 t1 t2 t3 t4 t5
      obtain ⟨⟨t0, t1, t2⟩, ⟨t3, t4, t5⟩, hz8⟩ := id T7
      obtain ⟨s0, s1, s2⟩ := id D7
      go_wp2_with (fail)
      refine (hct p _ Y7).mono ?_
      rintro e w7 ⟨rfl, hb⟩
      have B8 := below_step B7 hb B7.size
      go_wp2
      go_ret
      exact ⟨rfl, B8⟩

set_option maxRecDepth 100000 in
set_option maxHeartbeats 4000000 in
theorem weeks_2 (y m d k : Int) (w : World) (hK : Kinds w) (h : yrB y m d = true) (hk : 1 ≤ k) (hk' : k ≤ cnt 2 y m d) :
    Calls Tryd.prog 13 #[.int .i64 2, .agg #[.int .i64 y, .int .i64 m, .int .i64 d], .int .i64 k] w fun e w' => e = .returned (.bool true) ∧ Below w.heap.size w w' := by
  have hm1 := (dayB_yes (yrB_yes h).1).2.2.1
  have hn := fun w K => new_ok 2 y m d (by omega) (by omega) h w K
  have hsp := fun p W Y => span_yes p 2 y m d k W Y h (by omega) (by omega) hk hk'
  have hpa := fun p W Y => part_yes p 2 y m d k W Y h (by omega) (by omega) hk hk'
  have hct := fun p W Y => count_any p 2 y m d W Y h (by omega) (by omega)
  obtain ⟨⟨d1, d2⟩, ⟨d3, d4⟩, d5, d6⟩ := per_days (f := 2) (by omega) (by omega) h hk hk'
  have hbt := between_yes _ _ _ _ _ _ d1 d3
  rw [d2, d4] at hbt
  have hnm : nom 2 = 26 := by decide
  rw [hnm] at hpa
  have hix := index5_2
  have hix4 := index4_2
  have hlen := per_len (f := 2) (by omega) (by omega) h hk hk'
  rw [show pd 2 = 14 by decide] at hlen
  clear d1 d2 d3 d4 d5 d6 h hnm
  have cnt_le := (cnt_bd (f := 2) (y := y) (m := m) (d := d) (by omega) (by omega) hm1).2
  generalize cnt 2 y m d = c at *
  generalize yOf (pb 2 y m d k) = u1 at *
  generalize mOf (pb 2 y m d k) = u2 at *
  generalize dOf (pb 2 y m d k) = u3 at *
  generalize yOf (pe 2 y m d k) = u4 at *
  generalize mOf (pe 2 y m d k) = u5 at *
  generalize dOf (pe 2 y m d k) = u6 at *
  generalize pe 2 y m d k - pb 2 y m d k = b at *
  have hcb : c ≤ 53 := (cnt_le)
  rcases hlen with g | ⟨g1, g2⟩
  · have g' : (b == 13) = true := by simp; omega
    clear g
    have hcu := cuts_any
    have D0 := day_new w y m d 33
    have B0 : Below w.heap.size w (w.alloc (.cells #[.int .i64 y, .int .i64 m, .int .i64 d] 33)) := (Below.refl _ _).alloc (Nat.le_refl _) _
    have K0 := hK.below B0
    go_enter Tryd.func13, Tryd.ntmps13
    go_wp2_with (fail)
    refine (hcu _ K0).mono ?_
    rintro e w1 ⟨rfl, hb⟩
    have D1 := D0.below hb (by simp)
    have K1 := K0.below hb
    have B1 := below_step B0 hb B0.size
    have z1 : w.heap.size < w1.heap.size := by have := hb.size; simp at this; omega
    obtain ⟨c0, c1, c2⟩ := id D1
    clear hb D0 K0 B0 hcu hK
    go_wp2_with (fail)
    refine (hn _ K1).mono ?_
    rintro e w2 ⟨p, rfl, z2, Y2, hb⟩
    have B2 := below_step B1 hb B1.size
    have D2 := D1.below hb z1
    have hz2 : w.heap.size < w2.heap.size := by have := hb.size; omega
    clear hb K1 B1 D1 hn
    go_wp2_with (fail)
    refine (hsp p _ Y2).mono ?_
    rintro e w3 ⟨rfl, hb⟩
    have B3 := below_step B2 hb B2.size
    have Y3 := Y2.below hb
    have D3 := D2.below hb hz2
    have hz3 : w.heap.size < w3.heap.size := by have := hb.size; omega
    have T4 := box2_new w3 u1 u2 u3 u4 u5 u6 33 33
    have hb2 := two_base w3 #[.int .i64 u1, .int .i64 u2, .int .i64 u3] #[.int .i64 u4, .int .i64 u5, .int .i64 u6] 33 33
    have Y4 := Y3.below hb2
    have B4 := below_step B3 hb2 B3.size
    have D4 := D3.below hb2 hz3
    clear hb hb2 Y2 B2 Y3 B3 hsp D2 D3
    go_wp2_with (fail)
    refine (hpa p _ Y4).mono ?_
    rintro e w4 ⟨rfl, hb⟩
    have B5 := below_step B4 hb B4.size
    have Y5 := Y4.below hb
    have T5 := T4.below hb
    have D5 := D4.below hb (by simp; omega)
    have hz4 : w.heap.size < w4.heap.size := by have := hb.size; simp at this; omega
    clear hb Y4 B4 T4 hpa D4
    go_wp2_with (fail)
    refine (hct p _ Y5).mono ?_
    rintro e w5 ⟨rfl, hb⟩
    have B6 := below_step B5 hb B5.size
    have Y6 := Y5.below hb
    have T6 := T5.below hb
    have D6 := D5.below hb hz4
    have hz5 : w.heap.size < w5.heap.size := by have := hb.size; omega
    obtain ⟨⟨t0, t1, t2⟩, ⟨t3, t4, t5⟩, hz6⟩ := id T6
    clear hb Y5 B5 T5 D5
    go_wp2_with (fail)
    refine (hbt _).mono ?_
    rintro e w6 ⟨rfl, hb⟩
    have B7 := below_step B6 hb B6.size
    have Y7 := Y6.below hb
    have T7 := T6.below hb
    have D7 := D6.below hb hz5
    have hz7 : w.heap.size < w6.heap.size := by have := hb.size; omega
    clear hb Y6 B6 T6 D6 hbt t0 t1 t2 t3 t4 t5
    obtain ⟨⟨t0, t1, t2⟩, ⟨t3, t4, t5⟩, hz8⟩ := id T7
    obtain ⟨s0, s1, s2⟩ := id D7
    go_wp2
    go_ret
    exact ⟨rfl, B7⟩
  · have g3 : (k == c) = true := by simpa using g1
    clear g1
    by_cases g : b = 13
    · have g' : (b == 13) = true := by simp; omega
      clear g
      have hcu := cuts_any
      have D0 := day_new w y m d 33
      have B0 : Below w.heap.size w (w.alloc (.cells #[.int .i64 y, .int .i64 m, .int .i64 d] 33)) := (Below.refl _ _).alloc (Nat.le_refl _) _
      have K0 := hK.below B0
      go_enter Tryd.func13, Tryd.ntmps13
      go_wp2_with (fail)
      refine (hcu _ K0).mono ?_
      rintro e w1 ⟨rfl, hb⟩
      have D1 := D0.below hb (by simp)
      have K1 := K0.below hb
      have B1 := below_step B0 hb B0.size
      have z1 : w.heap.size < w1.heap.size := by have := hb.size; simp at this; omega
      obtain ⟨c0, c1, c2⟩ := id D1
      clear hb D0 K0 B0 hcu hK
      go_wp2_with (fail)
      refine (hn _ K1).mono ?_
      rintro e w2 ⟨p, rfl, z2, Y2, hb⟩
      have B2 := below_step B1 hb B1.size
      have D2 := D1.below hb z1
      have hz2 : w.heap.size < w2.heap.size := by have := hb.size; omega
      clear hb K1 B1 D1 hn
      go_wp2_with (fail)
      refine (hsp p _ Y2).mono ?_
      rintro e w3 ⟨rfl, hb⟩
      have B3 := below_step B2 hb B2.size
      have Y3 := Y2.below hb
      have D3 := D2.below hb hz2
      have hz3 : w.heap.size < w3.heap.size := by have := hb.size; omega
      have T4 := box2_new w3 u1 u2 u3 u4 u5 u6 33 33
      have hb2 := two_base w3 #[.int .i64 u1, .int .i64 u2, .int .i64 u3] #[.int .i64 u4, .int .i64 u5, .int .i64 u6] 33 33
      have Y4 := Y3.below hb2
      have B4 := below_step B3 hb2 B3.size
      have D4 := D3.below hb2 hz3
      clear hb hb2 Y2 B2 Y3 B3 hsp D2 D3
      go_wp2_with (fail)
      refine (hpa p _ Y4).mono ?_
      rintro e w4 ⟨rfl, hb⟩
      have B5 := below_step B4 hb B4.size
      have Y5 := Y4.below hb
      have T5 := T4.below hb
      have D5 := D4.below hb (by simp; omega)
      have hz4 : w.heap.size < w4.heap.size := by have := hb.size; simp at this; omega
      clear hb Y4 B4 T4 hpa D4
      go_wp2_with (fail)
      refine (hct p _ Y5).mono ?_
      rintro e w5 ⟨rfl, hb⟩
      have B6 := below_step B5 hb B5.size
      have Y6 := Y5.below hb
      have T6 := T5.below hb
      have D6 := D5.below hb hz4
      have hz5 : w.heap.size < w5.heap.size := by have := hb.size; omega
      obtain ⟨⟨t0, t1, t2⟩, ⟨t3, t4, t5⟩, hz6⟩ := id T6
      clear hb Y5 B5 T5 D5
      go_wp2_with (fail)
      refine (hbt _).mono ?_
      rintro e w6 ⟨rfl, hb⟩
      have B7 := below_step B6 hb B6.size
      have Y7 := Y6.below hb
      have T7 := T6.below hb
      have D7 := D6.below hb hz5
      have hz7 : w.heap.size < w6.heap.size := by have := hb.size; omega
      clear hb Y6 B6 T6 D6 hbt t0 t1 t2 t3 t4 t5
      obtain ⟨⟨t0, t1, t2⟩, ⟨t3, t4, t5⟩, hz8⟩ := id T7
      obtain ⟨s0, s1, s2⟩ := id D7
      go_wp2
      go_ret
      exact ⟨rfl, B7⟩
    · have g' : (b == 13) = false := by simp; omega
      clear g
      have hcu := cuts_any
      have D0 := day_new w y m d 33
      have B0 : Below w.heap.size w (w.alloc (.cells #[.int .i64 y, .int .i64 m, .int .i64 d] 33)) := (Below.refl _ _).alloc (Nat.le_refl _) _
      have K0 := hK.below B0
      go_enter Tryd.func13, Tryd.ntmps13
      go_wp2_with (fail)
      refine (hcu _ K0).mono ?_
      rintro e w1 ⟨rfl, hb⟩
      have D1 := D0.below hb (by simp)
      have K1 := K0.below hb
      have B1 := below_step B0 hb B0.size
      have z1 : w.heap.size < w1.heap.size := by have := hb.size; simp at this; omega
      obtain ⟨c0, c1, c2⟩ := id D1
      clear hb D0 K0 B0 hcu hK
      go_wp2_with (fail)
      refine (hn _ K1).mono ?_
      rintro e w2 ⟨p, rfl, z2, Y2, hb⟩
      have B2 := below_step B1 hb B1.size
      have D2 := D1.below hb z1
      have hz2 : w.heap.size < w2.heap.size := by have := hb.size; omega
      clear hb K1 B1 D1 hn
      go_wp2_with (fail)
      refine (hsp p _ Y2).mono ?_
      rintro e w3 ⟨rfl, hb⟩
      have B3 := below_step B2 hb B2.size
      have Y3 := Y2.below hb
      have D3 := D2.below hb hz2
      have hz3 : w.heap.size < w3.heap.size := by have := hb.size; omega
      have T4 := box2_new w3 u1 u2 u3 u4 u5 u6 33 33
      have hb2 := two_base w3 #[.int .i64 u1, .int .i64 u2, .int .i64 u3] #[.int .i64 u4, .int .i64 u5, .int .i64 u6] 33 33
      have Y4 := Y3.below hb2
      have B4 := below_step B3 hb2 B3.size
      have D4 := D3.below hb2 hz3
      clear hb hb2 Y2 B2 Y3 B3 hsp D2 D3
      go_wp2_with (fail)
      refine (hpa p _ Y4).mono ?_
      rintro e w4 ⟨rfl, hb⟩
      have B5 := below_step B4 hb B4.size
      have Y5 := Y4.below hb
      have T5 := T4.below hb
      have D5 := D4.below hb (by simp; omega)
      have hz4 : w.heap.size < w4.heap.size := by have := hb.size; simp at this; omega
      clear hb Y4 B4 T4 hpa D4
      go_wp2_with (fail)
      refine (hct p _ Y5).mono ?_
      rintro e w5 ⟨rfl, hb⟩
      have B6 := below_step B5 hb B5.size
      have Y6 := Y5.below hb
      have T6 := T5.below hb
      have D6 := D5.below hb hz4
      have hz5 : w.heap.size < w5.heap.size := by have := hb.size; omega
      obtain ⟨⟨t0, t1, t2⟩, ⟨t3, t4, t5⟩, hz6⟩ := id T6
      clear hb Y5 B5 T5 D5
      go_wp2_with (fail)
      refine (hbt _).mono ?_
      rintro e w6 ⟨rfl, hb⟩
      have B7 := below_step B6 hb B6.size
      have Y7 := Y6.below hb
      have T7 := T6.below hb
      have D7 := D6.below hb hz5
      have hz7 : w.heap.size < w6.heap.size := by have := hb.size; omega
      clear hb Y6 B6 T6 D6 hbt t0 t1 t2 t3 t4 t5
      obtain ⟨⟨t0, t1, t2⟩, ⟨t3, t4, t5⟩, hz8⟩ := id T7
      obtain ⟨s0, s1, s2⟩ := id D7
      go_wp2_with (fail)
      refine (hct p _ Y7).mono ?_
      rintro e w7 ⟨rfl, hb⟩
      have B8 := below_step B7 hb B7.size
      go_wp2
      go_ret
      exact ⟨rfl, B8⟩

set_option maxRecDepth 100000 in
set_option maxHeartbeats 4000000 in
theorem weeks_3 (y m d k : Int) (w : World) (hK : Kinds w) (h : yrB y m d = true) (hk : 1 ≤ k) (hk' : k ≤ cnt 3 y m d) :
    Calls Tryd.prog 13 #[.int .i64 3, .agg #[.int .i64 y, .int .i64 m, .int .i64 d], .int .i64 k] w fun e w' => e = .returned (.bool true) ∧ Below w.heap.size w w' := by
  have hm1 := (dayB_yes (yrB_yes h).1).2.2.1
  have hn := fun w K => new_ok 3 y m d (by omega) (by omega) h w K
  have hsp := fun p W Y => span_yes p 3 y m d k W Y h (by omega) (by omega) hk hk'
  have hpa := fun p W Y => part_yes p 3 y m d k W Y h (by omega) (by omega) hk hk'
  have hct := fun p W Y => count_any p 3 y m d W Y h (by omega) (by omega)
  obtain ⟨⟨d1, d2⟩, ⟨d3, d4⟩, d5, d6⟩ := per_days (f := 3) (by omega) (by omega) h hk hk'
  have hbt := between_yes _ _ _ _ _ _ d1 d3
  rw [d2, d4] at hbt
  have hnm : nom 3 = 13 := by decide
  rw [hnm] at hpa
  have hix := index5_3
  have hix4 := index4_3
  have hlen := per_len (f := 3) (by omega) (by omega) h hk hk'
  rw [show pd 3 = 28 by decide] at hlen
  clear d1 d2 d3 d4 d5 d6 h hnm
  have cnt_le := (cnt_bd (f := 3) (y := y) (m := m) (d := d) (by omega) (by omega) hm1).2
  generalize cnt 3 y m d = c at *
  generalize yOf (pb 3 y m d k) = u1 at *
  generalize mOf (pb 3 y m d k) = u2 at *
  generalize dOf (pb 3 y m d k) = u3 at *
  generalize yOf (pe 3 y m d k) = u4 at *
  generalize mOf (pe 3 y m d k) = u5 at *
  generalize dOf (pe 3 y m d k) = u6 at *
  generalize pe 3 y m d k - pb 3 y m d k = b at *
  have hcb : c ≤ 53 := (cnt_le)
  rcases hlen with g | ⟨g1, g2⟩
  · have g' : (b == 27) = true := by simp; omega
    clear g
    have hcu := cuts_any
    have D0 := day_new w y m d 33
    have B0 : Below w.heap.size w (w.alloc (.cells #[.int .i64 y, .int .i64 m, .int .i64 d] 33)) := (Below.refl _ _).alloc (Nat.le_refl _) _
    have K0 := hK.below B0
    go_enter Tryd.func13, Tryd.ntmps13
    go_wp2_with (fail)
    refine (hcu _ K0).mono ?_
    rintro e w1 ⟨rfl, hb⟩
    have D1 := D0.below hb (by simp)
    have K1 := K0.below hb
    have B1 := below_step B0 hb B0.size
    have z1 : w.heap.size < w1.heap.size := by have := hb.size; simp at this; omega
    obtain ⟨c0, c1, c2⟩ := id D1
    clear hb D0 K0 B0 hcu hK
    go_wp2_with (fail)
    refine (hn _ K1).mono ?_
    rintro e w2 ⟨p, rfl, z2, Y2, hb⟩
    have B2 := below_step B1 hb B1.size
    have D2 := D1.below hb z1
    have hz2 : w.heap.size < w2.heap.size := by have := hb.size; omega
    clear hb K1 B1 D1 hn
    go_wp2_with (fail)
    refine (hsp p _ Y2).mono ?_
    rintro e w3 ⟨rfl, hb⟩
    have B3 := below_step B2 hb B2.size
    have Y3 := Y2.below hb
    have D3 := D2.below hb hz2
    have hz3 : w.heap.size < w3.heap.size := by have := hb.size; omega
    have T4 := box2_new w3 u1 u2 u3 u4 u5 u6 33 33
    have hb2 := two_base w3 #[.int .i64 u1, .int .i64 u2, .int .i64 u3] #[.int .i64 u4, .int .i64 u5, .int .i64 u6] 33 33
    have Y4 := Y3.below hb2
    have B4 := below_step B3 hb2 B3.size
    have D4 := D3.below hb2 hz3
    clear hb hb2 Y2 B2 Y3 B3 hsp D2 D3
    go_wp2_with (fail)
    refine (hpa p _ Y4).mono ?_
    rintro e w4 ⟨rfl, hb⟩
    have B5 := below_step B4 hb B4.size
    have Y5 := Y4.below hb
    have T5 := T4.below hb
    have D5 := D4.below hb (by simp; omega)
    have hz4 : w.heap.size < w4.heap.size := by have := hb.size; simp at this; omega
    clear hb Y4 B4 T4 hpa D4
    go_wp2_with (fail)
    refine (hct p _ Y5).mono ?_
    rintro e w5 ⟨rfl, hb⟩
    have B6 := below_step B5 hb B5.size
    have Y6 := Y5.below hb
    have T6 := T5.below hb
    have D6 := D5.below hb hz4
    have hz5 : w.heap.size < w5.heap.size := by have := hb.size; omega
    obtain ⟨⟨t0, t1, t2⟩, ⟨t3, t4, t5⟩, hz6⟩ := id T6
    clear hb Y5 B5 T5 D5
    go_wp2_with (fail)
    refine (hbt _).mono ?_
    rintro e w6 ⟨rfl, hb⟩
    have B7 := below_step B6 hb B6.size
    have Y7 := Y6.below hb
    have T7 := T6.below hb
    have D7 := D6.below hb hz5
    have hz7 : w.heap.size < w6.heap.size := by have := hb.size; omega
    clear hb Y6 B6 T6 D6 hbt t0 t1 t2 t3 t4 t5
    obtain ⟨⟨t0, t1, t2⟩, ⟨t3, t4, t5⟩, hz8⟩ := id T7
    obtain ⟨s0, s1, s2⟩ := id D7
    go_wp2
    go_ret
    exact ⟨rfl, B7⟩
  · have g3 : (k == c) = true := by simpa using g1
    clear g1
    by_cases g : b = 27
    · have g' : (b == 27) = true := by simp; omega
      clear g
      have hcu := cuts_any
      have D0 := day_new w y m d 33
      have B0 : Below w.heap.size w (w.alloc (.cells #[.int .i64 y, .int .i64 m, .int .i64 d] 33)) := (Below.refl _ _).alloc (Nat.le_refl _) _
      have K0 := hK.below B0
      go_enter Tryd.func13, Tryd.ntmps13
      go_wp2_with (fail)
      refine (hcu _ K0).mono ?_
      rintro e w1 ⟨rfl, hb⟩
      have D1 := D0.below hb (by simp)
      have K1 := K0.below hb
      have B1 := below_step B0 hb B0.size
      have z1 : w.heap.size < w1.heap.size := by have := hb.size; simp at this; omega
      obtain ⟨c0, c1, c2⟩ := id D1
      clear hb D0 K0 B0 hcu hK
      go_wp2_with (fail)
      refine (hn _ K1).mono ?_
      rintro e w2 ⟨p, rfl, z2, Y2, hb⟩
      have B2 := below_step B1 hb B1.size
      have D2 := D1.below hb z1
      have hz2 : w.heap.size < w2.heap.size := by have := hb.size; omega
      clear hb K1 B1 D1 hn
      go_wp2_with (fail)
      refine (hsp p _ Y2).mono ?_
      rintro e w3 ⟨rfl, hb⟩
      have B3 := below_step B2 hb B2.size
      have Y3 := Y2.below hb
      have D3 := D2.below hb hz2
      have hz3 : w.heap.size < w3.heap.size := by have := hb.size; omega
      have T4 := box2_new w3 u1 u2 u3 u4 u5 u6 33 33
      have hb2 := two_base w3 #[.int .i64 u1, .int .i64 u2, .int .i64 u3] #[.int .i64 u4, .int .i64 u5, .int .i64 u6] 33 33
      have Y4 := Y3.below hb2
      have B4 := below_step B3 hb2 B3.size
      have D4 := D3.below hb2 hz3
      clear hb hb2 Y2 B2 Y3 B3 hsp D2 D3
      go_wp2_with (fail)
      refine (hpa p _ Y4).mono ?_
      rintro e w4 ⟨rfl, hb⟩
      have B5 := below_step B4 hb B4.size
      have Y5 := Y4.below hb
      have T5 := T4.below hb
      have D5 := D4.below hb (by simp; omega)
      have hz4 : w.heap.size < w4.heap.size := by have := hb.size; simp at this; omega
      clear hb Y4 B4 T4 hpa D4
      go_wp2_with (fail)
      refine (hct p _ Y5).mono ?_
      rintro e w5 ⟨rfl, hb⟩
      have B6 := below_step B5 hb B5.size
      have Y6 := Y5.below hb
      have T6 := T5.below hb
      have D6 := D5.below hb hz4
      have hz5 : w.heap.size < w5.heap.size := by have := hb.size; omega
      obtain ⟨⟨t0, t1, t2⟩, ⟨t3, t4, t5⟩, hz6⟩ := id T6
      clear hb Y5 B5 T5 D5
      go_wp2_with (fail)
      refine (hbt _).mono ?_
      rintro e w6 ⟨rfl, hb⟩
      have B7 := below_step B6 hb B6.size
      have Y7 := Y6.below hb
      have T7 := T6.below hb
      have D7 := D6.below hb hz5
      have hz7 : w.heap.size < w6.heap.size := by have := hb.size; omega
      clear hb Y6 B6 T6 D6 hbt t0 t1 t2 t3 t4 t5
      obtain ⟨⟨t0, t1, t2⟩, ⟨t3, t4, t5⟩, hz8⟩ := id T7
      obtain ⟨s0, s1, s2⟩ := id D7
      go_wp2
      go_ret
      exact ⟨rfl, B7⟩
    · have g' : (b == 27) = false := by simp; omega
      clear g
      have hcu := cuts_any
      have D0 := day_new w y m d 33
      have B0 : Below w.heap.size w (w.alloc (.cells #[.int .i64 y, .int .i64 m, .int .i64 d] 33)) := (Below.refl _ _).alloc (Nat.le_refl _) _
      have K0 := hK.below B0
      go_enter Tryd.func13, Tryd.ntmps13
      go_wp2_with (fail)
      refine (hcu _ K0).mono ?_
      rintro e w1 ⟨rfl, hb⟩
      have D1 := D0.below hb (by simp)
      have K1 := K0.below hb
      have B1 := below_step B0 hb B0.size
      have z1 : w.heap.size < w1.heap.size := by have := hb.size; simp at this; omega
      obtain ⟨c0, c1, c2⟩ := id D1
      clear hb D0 K0 B0 hcu hK
      go_wp2_with (fail)
      refine (hn _ K1).mono ?_
      rintro e w2 ⟨p, rfl, z2, Y2, hb⟩
      have B2 := below_step B1 hb B1.size
      have D2 := D1.below hb z1
      have hz2 : w.heap.size < w2.heap.size := by have := hb.size; omega
      clear hb K1 B1 D1 hn
      go_wp2_with (fail)
      refine (hsp p _ Y2).mono ?_
      rintro e w3 ⟨rfl, hb⟩
      have B3 := below_step B2 hb B2.size
      have Y3 := Y2.below hb
      have D3 := D2.below hb hz2
      have hz3 : w.heap.size < w3.heap.size := by have := hb.size; omega
      have T4 := box2_new w3 u1 u2 u3 u4 u5 u6 33 33
      have hb2 := two_base w3 #[.int .i64 u1, .int .i64 u2, .int .i64 u3] #[.int .i64 u4, .int .i64 u5, .int .i64 u6] 33 33
      have Y4 := Y3.below hb2
      have B4 := below_step B3 hb2 B3.size
      have D4 := D3.below hb2 hz3
      clear hb hb2 Y2 B2 Y3 B3 hsp D2 D3
      go_wp2_with (fail)
      refine (hpa p _ Y4).mono ?_
      rintro e w4 ⟨rfl, hb⟩
      have B5 := below_step B4 hb B4.size
      have Y5 := Y4.below hb
      have T5 := T4.below hb
      have D5 := D4.below hb (by simp; omega)
      have hz4 : w.heap.size < w4.heap.size := by have := hb.size; simp at this; omega
      clear hb Y4 B4 T4 hpa D4
      go_wp2_with (fail)
      refine (hct p _ Y5).mono ?_
      rintro e w5 ⟨rfl, hb⟩
      have B6 := below_step B5 hb B5.size
      have Y6 := Y5.below hb
      have T6 := T5.below hb
      have D6 := D5.below hb hz4
      have hz5 : w.heap.size < w5.heap.size := by have := hb.size; omega
      obtain ⟨⟨t0, t1, t2⟩, ⟨t3, t4, t5⟩, hz6⟩ := id T6
      clear hb Y5 B5 T5 D5
      go_wp2_with (fail)
      refine (hbt _).mono ?_
      rintro e w6 ⟨rfl, hb⟩
      have B7 := below_step B6 hb B6.size
      have Y7 := Y6.below hb
      have T7 := T6.below hb
      have D7 := D6.below hb hz5
      have hz7 : w.heap.size < w6.heap.size := by have := hb.size; omega
      clear hb Y6 B6 T6 D6 hbt t0 t1 t2 t3 t4 t5
      obtain ⟨⟨t0, t1, t2⟩, ⟨t3, t4, t5⟩, hz8⟩ := id T7
      obtain ⟨s0, s1, s2⟩ := id D7
      go_wp2_with (fail)
      refine (hct p _ Y7).mono ?_
      rintro e w7 ⟨rfl, hb⟩
      have B8 := below_step B7 hb B7.size
      go_wp2
      go_ret
      exact ⟨rfl, B8⟩


/-- a period's first day and the year's, held while a month's last day is asked -/
def MW (w : World) (a b c : Int) (q : Nat) (d : Int) (W : World) : Prop := W.cell? ⟨q, 0, none⟩ = some (.int .i64 a) ∧ W.cell? ⟨q, 1, none⟩ = some (.int .i64 b) ∧ W.cell? ⟨q, 2, none⟩ = some (.int .i64 c) ∧ W.cell? ⟨w.heap.size, 2, none⟩ = some (.int .i64 d) ∧ Below w.heap.size w W ∧ q < W.heap.size ∧ w.heap.size < W.heap.size
theorem MW.step {w : World} {a b c : Int} {q : Nat} {d : Int} {W W' : World} (hb : Below W.heap.size W W') (S : MW w a b c q d W) : MW w a b c q d W' := by
  obtain ⟨h0, h1, h2, h3, hB, z1, z2⟩ := S
  have hs := hB.size
  have g : ∀ (bb oo : Nat), bb < W.heap.size → W'.cell? ⟨bb, oo, none⟩ = W.cell? ⟨bb, oo, none⟩ := fun bb oo hl => hb.cell (p := ⟨bb, oo, none⟩) hl
  exact ⟨(g _ _ z1).trans h0, (g _ _ z1).trans h1, (g _ _ z1).trans h2, (g _ _ z2).trans h3, below_step hB hb hs, by have := hb.size; omega, by have := hb.size; omega⟩
theorem last_month_4 {y m d k : Int} (h : yrB y m d = true) (hk : 1 ≤ k) (hk' : k ≤ cnt 4 y m d) : lastM (yOf (pb 4 y m d k)) (mOf (pb 4 y m d k)) = ml (yOf (pb 4 y m d k)) (mOf (pb 4 y m d k)) := by
  obtain ⟨n1, n2, n3, n4⟩ := pb_bd (f := 4) (by omega) (by omega) h hk hk'
  obtain ⟨a1, a2, a3, a4, _⟩ := dayB_yes (of_bd _ n3 (by omega)).1
  unfold lastM
  rw [if_pos ⟨a1, a2, a3, a4⟩]
theorem month_day_4 {y m d k : Int} (h : yrB y m d = true) (hk : 1 ≤ k) (hk' : k ≤ cnt 4 y m d) : True ∧ (dOf (pb 4 y m d k) = d ∨ (dOf (pb 4 y m d k) < d ∧ dOf (pb 4 y m d k) = ml (yOf (pb 4 y m d k)) (mOf (pb 4 y m d k)))) := by
  refine ⟨trivial, ?_⟩
  obtain ⟨p1, p2, p3⟩ := pb_month h hk (by simp [cnt] at hk'; omega)
  rw [← p1, ← p2, ← p3]
  unfold dM
  split
  · left; rfl
  · right; exact ⟨by omega, rfl⟩
set_option maxRecDepth 100000 in
set_option maxHeartbeats 4000000 in
theorem weeks_4 (y m d k : Int) (w : World) (hK : Kinds w) (h : yrB y m d = true) (hk : 1 ≤ k) (hk' : k ≤ cnt 4 y m d) :
    Calls Tryd.prog 13 #[.int .i64 4, .agg #[.int .i64 y, .int .i64 m, .int .i64 d], .int .i64 k] w fun e w' => e = .returned (.bool true) ∧ Below w.heap.size w w' := by
  have hm1 := (dayB_yes (yrB_yes h).1).2.2.1
  have hn := fun w K => new_ok 4 y m d (by omega) (by omega) h w K
  have hsp := fun p W Y => span_yes p 4 y m d k W Y h (by omega) (by omega) hk hk'
  have hpa := fun p W Y => part_yes p 4 y m d k W Y h (by omega) (by omega) hk hk'
  have hct := fun p W Y => count_any p 4 y m d W Y h (by omega) (by omega)
  obtain ⟨⟨d1, d2⟩, ⟨d3, d4⟩, d5, d6⟩ := per_days (f := 4) (by omega) (by omega) h hk hk'
  have hbt := between_yes _ _ _ _ _ _ d1 d3
  rw [d2, d4] at hbt
  have hnm : nom 4 = 12 := by decide
  rw [hnm] at hpa
  have hix := index5_4
  have hlm := last_month_4 h hk hk'
  obtain ⟨m1, m2⟩ := month_day_4 h hk hk'
  have hmo := month_any (yOf (pb 4 y m d k)) (mOf (pb 4 y m d k))
  rw [hlm] at hmo
  clear d1 d2 d3 d4 d5 d6 h hnm
  have cnt_le := (cnt_bd (f := 4) (y := y) (m := m) (d := d) (by omega) (by omega) hm1).2
  generalize cnt 4 y m d = c at *
  generalize ml (yOf (pb 4 y m d k)) (mOf (pb 4 y m d k)) = lm at *
  generalize yOf (pb 4 y m d k) = u1 at *
  generalize mOf (pb 4 y m d k) = u2 at *
  generalize dOf (pb 4 y m d k) = u3 at *
  generalize pe 4 y m d k - pb 4 y m d k = b at *
  generalize yOf (pe 4 y m d k) = u4 at *
  generalize mOf (pe 4 y m d k) = u5 at *
  generalize dOf (pe 4 y m d k) = u6 at *
  clear hlm
  have hm3 : u3 = d ∨ (u3 < d ∧ u3 = lm) := by
    rcases m2 with q | q
    · left; omega
    · right; omega
  clear m1 m2
  rcases hm3 with g | ⟨g1, g2⟩
  · have g' : (u3 == d) = true := by simpa using g
    clear g
    have hcu := cuts_any
    have D0 := day_new w y m d 33
    have B0 : Below w.heap.size w (w.alloc (.cells #[.int .i64 y, .int .i64 m, .int .i64 d] 33)) := (Below.refl _ _).alloc (Nat.le_refl _) _
    have K0 := hK.below B0
    go_enter Tryd.func13, Tryd.ntmps13
    go_wp2_with (fail)
    refine (hcu _ K0).mono ?_
    rintro e w1 ⟨rfl, hb⟩
    have D1 := D0.below hb (by simp)
    have K1 := K0.below hb
    have B1 := below_step B0 hb B0.size
    have z1 : w.heap.size < w1.heap.size := by have := hb.size; simp at this; omega
    obtain ⟨c0, c1, c2⟩ := id D1
    clear hb D0 K0 B0 hcu hK
    go_wp2_with (fail)
    refine (hn _ K1).mono ?_
    rintro e w2 ⟨p, rfl, z2, Y2, hb⟩
    have B2 := below_step B1 hb B1.size
    have D2 := D1.below hb z1
    have hz2 : w.heap.size < w2.heap.size := by have := hb.size; omega
    clear hb K1 B1 D1 hn
    go_wp2_with (fail)
    refine (hsp p _ Y2).mono ?_
    rintro e w3 ⟨rfl, hb⟩
    have B3 := below_step B2 hb B2.size
    have Y3 := Y2.below hb
    have D3 := D2.below hb hz2
    have hz3 : w.heap.size < w3.heap.size := by have := hb.size; omega
    have T4 := box2_new w3 u1 u2 u3 u4 u5 u6 33 33
    have hb2 := two_base w3 #[.int .i64 u1, .int .i64 u2, .int .i64 u3] #[.int .i64 u4, .int .i64 u5, .int .i64 u6] 33 33
    have Y4 := Y3.below hb2
    have B4 := below_step B3 hb2 B3.size
    have D4 := D3.below hb2 hz3
    clear hb hb2 Y2 B2 Y3 B3 hsp D2 D3
    go_wp2_with (fail)
    refine (hpa p _ Y4).mono ?_
    rintro e w4 ⟨rfl, hb⟩
    have B5 := below_step B4 hb B4.size
    have Y5 := Y4.below hb
    have T5 := T4.below hb
    have D5 := D4.below hb (by simp; omega)
    have hz4 : w.heap.size < w4.heap.size := by have := hb.size; simp at this; omega
    clear hb Y4 B4 T4 hpa D4
    go_wp2_with (fail)
    refine (hct p _ Y5).mono ?_
    rintro e w5 ⟨rfl, hb⟩
    have B6 := below_step B5 hb B5.size
    have Y6 := Y5.below hb
    have T6 := T5.below hb
    have D6 := D5.below hb hz4
    have hz5 : w.heap.size < w5.heap.size := by have := hb.size; omega
    obtain ⟨⟨t0, t1, t2⟩, ⟨t3, t4, t5⟩, hz6⟩ := id T6
    clear hb Y5 B5 T5 D5
    go_wp2_with (fail)
    refine (hbt _).mono ?_
    rintro e w6 ⟨rfl, hb⟩
    have B7 := below_step B6 hb B6.size
    have Y7 := Y6.below hb
    have T7 := T6.below hb
    have D7 := D6.below hb hz5
    have hz7 : w.heap.size < w6.heap.size := by have := hb.size; omega
    clear hb Y6 B6 T6 D6 hbt t0 t1 t2 t3 t4 t5
    obtain ⟨⟨t0, t1, t2⟩, ⟨t3, t4, t5⟩, hz8⟩ := id T7
    obtain ⟨s0, s1, s2⟩ := id D7
    go_wp2
    go_quiet (fail)
    go_wp2
    go_ret
    exact ⟨rfl, below_dn B7 _⟩
  · have g' : (u3 == d) = false := by simp; omega
    have g3 : (u3 == lm) = true := by simpa using g2
    clear g2
    have hcu := cuts_any
    have D0 := day_new w y m d 33
    have B0 : Below w.heap.size w (w.alloc (.cells #[.int .i64 y, .int .i64 m, .int .i64 d] 33)) := (Below.refl _ _).alloc (Nat.le_refl _) _
    have K0 := hK.below B0
    go_enter Tryd.func13, Tryd.ntmps13
    go_wp2_with (fail)
    refine (hcu _ K0).mono ?_
    rintro e w1 ⟨rfl, hb⟩
    have D1 := D0.below hb (by simp)
    have K1 := K0.below hb
    have B1 := below_step B0 hb B0.size
    have z1 : w.heap.size < w1.heap.size := by have := hb.size; simp at this; omega
    obtain ⟨c0, c1, c2⟩ := id D1
    clear hb D0 K0 B0 hcu hK
    go_wp2_with (fail)
    refine (hn _ K1).mono ?_
    rintro e w2 ⟨p, rfl, z2, Y2, hb⟩
    have B2 := below_step B1 hb B1.size
    have D2 := D1.below hb z1
    have hz2 : w.heap.size < w2.heap.size := by have := hb.size; omega
    clear hb K1 B1 D1 hn
    go_wp2_with (fail)
    refine (hsp p _ Y2).mono ?_
    rintro e w3 ⟨rfl, hb⟩
    have B3 := below_step B2 hb B2.size
    have Y3 := Y2.below hb
    have D3 := D2.below hb hz2
    have hz3 : w.heap.size < w3.heap.size := by have := hb.size; omega
    have T4 := box2_new w3 u1 u2 u3 u4 u5 u6 33 33
    have hb2 := two_base w3 #[.int .i64 u1, .int .i64 u2, .int .i64 u3] #[.int .i64 u4, .int .i64 u5, .int .i64 u6] 33 33
    have Y4 := Y3.below hb2
    have B4 := below_step B3 hb2 B3.size
    have D4 := D3.below hb2 hz3
    clear hb hb2 Y2 B2 Y3 B3 hsp D2 D3
    go_wp2_with (fail)
    refine (hpa p _ Y4).mono ?_
    rintro e w4 ⟨rfl, hb⟩
    have B5 := below_step B4 hb B4.size
    have Y5 := Y4.below hb
    have T5 := T4.below hb
    have D5 := D4.below hb (by simp; omega)
    have hz4 : w.heap.size < w4.heap.size := by have := hb.size; simp at this; omega
    clear hb Y4 B4 T4 hpa D4
    go_wp2_with (fail)
    refine (hct p _ Y5).mono ?_
    rintro e w5 ⟨rfl, hb⟩
    have B6 := below_step B5 hb B5.size
    have Y6 := Y5.below hb
    have T6 := T5.below hb
    have D6 := D5.below hb hz4
    have hz5 : w.heap.size < w5.heap.size := by have := hb.size; omega
    obtain ⟨⟨t0, t1, t2⟩, ⟨t3, t4, t5⟩, hz6⟩ := id T6
    clear hb Y5 B5 T5 D5
    go_wp2_with (fail)
    refine (hbt _).mono ?_
    rintro e w6 ⟨rfl, hb⟩
    have B7 := below_step B6 hb B6.size
    have Y7 := Y6.below hb
    have T7 := T6.below hb
    have D7 := D6.below hb hz5
    have hz7 : w.heap.size < w6.heap.size := by have := hb.size; omega
    clear hb Y6 B6 T6 D6 hbt t0 t1 t2 t3 t4 t5
    obtain ⟨⟨t0, t1, t2⟩, ⟨t3, t4, t5⟩, hz8⟩ := id T7
    obtain ⟨s0, s1, s2⟩ := id D7
    go_wp2
    have N0 : MW w u1 u2 u3 w3.heap.size d w6 := ⟨t0, t1, t2, s2, B7, by omega, hz7⟩
    have N1 := N0.step (Below.refl _ _).drew
    go_region_held3 (fun W => W.cell? ⟨w3.heap.size, 0, none⟩ = some (.int .i64 u1) ∧ W.cell? ⟨w3.heap.size, 1, none⟩ = some (.int .i64 u2) ∧ W.cell? ⟨w3.heap.size, 2, none⟩ = some (.int .i64 u3) ∧ W.cell? ⟨w.heap.size, 2, none⟩ = some (.int .i64 d) ∧ Below w.heap.size w W ∧ w3.heap.size < W.heap.size ∧ w.heap.size < W.heap.size)
      ((first | exact N1 | exact MW.step hb (by assumption)))
      (first | (go_at_call 30; (with_reducible refine (hmo _).mono ?_); rintro e w7 ⟨rfl, hb⟩))
    rename_i hH
    obtain ⟨_, _, _, _, B8, _⟩ := hH
    go_wp2
    go_ret
    exact ⟨rfl, B8⟩

theorem wPeriodWeeks (f y m d k : Int) (W : World) (hK : Kinds W) : Calls Tryd.prog 13 #[.int .i64 f, .agg #[.int .i64 y, .int .i64 m, .int .i64 d], .int .i64 k] W fun e w' => e = .returned (.bool true) ∧ Below W.heap.size W w' := by
  by_cases hf : 1 ≤ f ∧ f ≤ 4
  · cases h : yrB y m d
    · exact weeks_nil f y m d k 30 W hK (new_date f y m d hf.1 hf.2 h)
    · by_cases hk : 1 ≤ k ∧ k ≤ cnt f y m d
      · obtain ⟨k1, k2⟩ := hk
        rcases freq_cases hf.1 hf.2 with rfl | rfl | rfl | rfl
        · exact weeks_1 y m d k W hK h k1 k2
        · exact weeks_2 y m d k W hK h k1 k2
        · exact weeks_3 y m d k W hK h k1 k2
        · exact weeks_4 y m d k W hK h k1 k2
      · exact weeks_out f y m d k W hK hf.1 hf.2 h (by omega)
  · exact weeks_nil f y m d k 40 W hK (new_freq f y m d (by omega))

end Go.Proofs.YtnpkpjnkbajnjaaDoor
