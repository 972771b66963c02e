/- The walk of PeriodOutside. -/
import Derived.Test.YtnpkpjnkbajnjaaDoorCuts
import Derived.Test.YtnpkpjnkbajnjaaDoorRefDateC
namespace Go.Proofs.YtnpkpjnkbajnjaaDoor
open Go.RowKit
set_option linter.unusedVariables false
set_option linter.unusedSimpArgs false

/-- two days' boxes, and a year, held while something is asked -/
def OS (w : World) (p : Nat) (f y m d a b c : Int) (W : World) : Prop := W.cell? ⟨w.heap.size, 0, none⟩ = some (.int .i64 y) ∧ W.cell? ⟨w.heap.size, 1, none⟩ = some (.int .i64 m) ∧ W.cell? ⟨w.heap.size, 2, none⟩ = some (.int .i64 d) ∧
  W.cell? ⟨w.heap.size + 1, 0, none⟩ = some (.int .i64 a) ∧ W.cell? ⟨w.heap.size + 1, 1, none⟩ = some (.int .i64 b) ∧ W.cell? ⟨w.heap.size + 1, 2, none⟩ = some (.int .i64 c) ∧ Yr W p f y m d ∧ Below w.heap.size w W ∧ w.heap.size + 1 < W.heap.size
theorem OS.step {w : World} {p : Nat} {f y m d a b c : Int} {W W' : World} (hb : Below W.heap.size W W') (S : OS w p f y m d a b c W) : OS w p f y m d a b c W' := by
  obtain ⟨h0, h1, h2, h3, h4, h5, Y, hB, z⟩ := S
  have hs := hB.size
  have g : ∀ (bb oo : Nat), bb < W.heap.size → W'.cell? ⟨bb, oo, none⟩ = W.cell? ⟨bb, oo, none⟩ := fun bb oo hl => hb.cell (p := ⟨bb, oo, none⟩) hl
  exact ⟨(g _ _ (by omega)).trans h0, (g _ _ (by omega)).trans h1, (g _ _ (by omega)).trans h2, (g _ _ z).trans h3, (g _ _ z).trans h4, (g _ _ z).trans h5, Y.below hb, below_step hB hb hs, by have := hb.size; omega⟩

set_option maxRecDepth 100000 in
theorem outside_nil (f y m d a b c e0 : Int) (w : World) (hK : Kinds w) (hn : ∀ w, Calls Tryd.prog 47 #[.int .i64 f, .agg #[.int .i64 y, .int .i64 m, .int .i64 d]] w fun e w' => e = .returned (.tuple #[.pointer none, .int .i64 e0]) ∧ Below w.heap.size w w') :
    Calls Tryd.prog 14 #[.int .i64 f, .agg #[.int .i64 y, .int .i64 m, .int .i64 d], .agg #[.int .i64 a, .int .i64 b, .int .i64 c]] w fun e w' => e = .returned (.bool true) ∧ Below w.heap.size w w' := by
  have hcu := cuts_any
  have T0 := box2_new w y m d a b c 33 33
  have B0 := two_base w #[.int .i64 y, .int .i64 m, .int .i64 d] #[.int .i64 a, .int .i64 b, .int .i64 c] 33 33
  have K0 := hK.below B0
  go_enter Tryd.func14, Tryd.ntmps14
  go_wp2_with (fail)
  refine (hcu _ K0).mono ?_
  rintro e w1 ⟨rfl, hb⟩
  have T1 := T0.below hb
  have K1 := K0.below hb
  have B1 := below_step B0 hb B0.size
  obtain ⟨⟨c0, c1, c2⟩, ⟨d0, d1, d2⟩, hz1⟩ := id T1
  clear hb T0 K0 B0 hcu hK
  go_wp2_with (fail)
  refine (hn _).mono ?_
  rintro e w2 ⟨rfl, hb⟩
  have B2 := below_step B1 hb B1.size
  go_wp2
  go_ret
  exact ⟨rfl, B2⟩

set_option maxRecDepth 100000 in
set_option maxHeartbeats 2000000 in
theorem outside_c1 (f y m d a b c : Int) (w : World) (hK : Kinds w) (hf : 1 ≤ f) (hf' : f ≤ 4) (h : yrB y m d = true) (hd : dayB a b c = false) :
    Calls Tryd.prog 14 #[.int .i64 f, .agg #[.int .i64 y, .int .i64 m, .int .i64 d], .agg #[.int .i64 a, .int .i64 b, .int .i64 c]] w fun e w' => e = .returned (.bool true) ∧ Below w.heap.size w w' := by
  have hn := fun w K => new_ok f y m d hf hf' h w K
  have hrm := rnumber_yes y m d (yrB_yes h).1
  obtain ⟨_, _, nm3, nm4⟩ := num_bd (yrB_yes h).1
  have hrd := rnumber_no a b c hd
  have hix := fun p W Y => index_bad p f y m d a b c W Y hd
  have hcu := cuts_any
  have T0 := box2_new w y m d a b c 33 33
  have B0 := two_base w #[.int .i64 y, .int .i64 m, .int .i64 d] #[.int .i64 a, .int .i64 b, .int .i64 c] 33 33
  have K0 := hK.below B0
  go_enter Tryd.func14, Tryd.ntmps14
  go_wp2_with (fail)
  refine (hcu _ K0).mono ?_
  rintro e w1 ⟨rfl, hb⟩
  have T1 := T0.below hb
  have K1 := K0.below hb
  have B1 := below_step B0 hb B0.size
  obtain ⟨⟨c0, c1, c2⟩, ⟨d0, d1, d2⟩, hz1⟩ := id T1
  clear hb T0 K0 B0 hcu hK
  go_wp2_with (fail)
  refine (hn _ K1).mono ?_
  rintro e w2 ⟨p, rfl, z2, Y2, hb⟩
  have T2 := T1.below hb
  have B2 := below_step B1 hb B1.size
  obtain ⟨⟨c0, c1, c2⟩, ⟨d0, d1, d2⟩, hz2⟩ := id T2
  clear hb T1 K1 B1
  have O2 : OS w p f y m d a b c w2 := ⟨c0, c1, c2, d0, d1, d2, Y2, B2, hz2⟩
  go_wp2_with (fail)
  refine (hix p _ Y2).mono ?_
  rintro e w3 ⟨rfl, hb⟩
  have O3 := (O2.step hb)
  have O4 := O3.step (Below.refl _ _).drew
  clear hb T2 B2 O2 Y2 hn hix
  go_wp2
  go_region_held3 (fun W => W.cell? ⟨w.heap.size, 0, none⟩ = some (.int .i64 y) ∧ W.cell? ⟨w.heap.size, 1, none⟩ = some (.int .i64 m) ∧ W.cell? ⟨w.heap.size, 2, none⟩ = some (.int .i64 d) ∧ W.cell? ⟨w.heap.size + 1, 0, none⟩ = some (.int .i64 a) ∧ W.cell? ⟨w.heap.size + 1, 1, none⟩ = some (.int .i64 b) ∧ W.cell? ⟨w.heap.size + 1, 2, none⟩ = some (.int .i64 c) ∧ Yr W p f y m d ∧ Below w.heap.size w W ∧ w.heap.size + 1 < W.heap.size)
    ((first | exact O4 | exact OS.step hb (by assumption)))
    (first
      | (go_at_call 27; (with_reducible refine (hrd _).mono ?_); rintro e w4 ⟨rfl, hb⟩)
      | (go_at_call 27; (with_reducible refine (hrm _).mono ?_); rintro e w4 ⟨rfl, hb⟩))
  rename_i hH
  obtain ⟨_, _, _, _, _, _, Y5, B5, hz5⟩ := hH
  clear hb O3 O4
  go_wp2
  go_ret
  exact ⟨rfl, B5⟩

set_option maxRecDepth 100000 in
set_option maxHeartbeats 2000000 in
theorem outside_c2 (f y m d a b c : Int) (w : World) (hK : Kinds w) (hf : 1 ≤ f) (hf' : f ≤ 4) (h : yrB y m d = true) (hd : dayB a b c = true) (ho : num a b c < num y m d) :
    Calls Tryd.prog 14 #[.int .i64 f, .agg #[.int .i64 y, .int .i64 m, .int .i64 d], .agg #[.int .i64 a, .int .i64 b, .int .i64 c]] w fun e w' => e = .returned (.bool true) ∧ Below w.heap.size w w' := by
  have hn := fun w K => new_ok f y m d hf hf' h w K
  have hrm := rnumber_yes y m d (yrB_yes h).1
  obtain ⟨_, _, nm3, nm4⟩ := num_bd (yrB_yes h).1
  have hrd := rnumber_yes a b c hd
  obtain ⟨_, _, nd3, nd4⟩ := num_bd hd
  have hix := fun p W Y => index_early p f y m d a b c W Y h hd ho
  generalize num a b c = n at *
  generalize num y m d = n0 at *
  have hcu := cuts_any
  have T0 := box2_new w y m d a b c 33 33
  have B0 := two_base w #[.int .i64 y, .int .i64 m, .int .i64 d] #[.int .i64 a, .int .i64 b, .int .i64 c] 33 33
  have K0 := hK.below B0
  go_enter Tryd.func14, Tryd.ntmps14
  go_wp2_with (fail)
  refine (hcu _ K0).mono ?_
  rintro e w1 ⟨rfl, hb⟩
  have T1 := T0.below hb
  have K1 := K0.below hb
  have B1 := below_step B0 hb B0.size
  obtain ⟨⟨c0, c1, c2⟩, ⟨d0, d1, d2⟩, hz1⟩ := id T1
  clear hb T0 K0 B0 hcu hK
  go_wp2_with (fail)
  refine (hn _ K1).mono ?_
  rintro e w2 ⟨p, rfl, z2, Y2, hb⟩
  have T2 := T1.below hb
  have B2 := below_step B1 hb B1.size
  obtain ⟨⟨c0, c1, c2⟩, ⟨d0, d1, d2⟩, hz2⟩ := id T2
  clear hb T1 K1 B1
  have O2 : OS w p f y m d a b c w2 := ⟨c0, c1, c2, d0, d1, d2, Y2, B2, hz2⟩
  go_wp2_with (fail)
  refine (hix p _ Y2).mono ?_
  rintro e w3 ⟨rfl, hb⟩
  have O3 := (O2.step hb)
  have O4 := O3.step (Below.refl _ _).drew
  clear hb T2 B2 O2 Y2 hn hix
  go_wp2
  go_region_held3 (fun W => W.cell? ⟨w.heap.size, 0, none⟩ = some (.int .i64 y) ∧ W.cell? ⟨w.heap.size, 1, none⟩ = some (.int .i64 m) ∧ W.cell? ⟨w.heap.size, 2, none⟩ = some (.int .i64 d) ∧ W.cell? ⟨w.heap.size + 1, 0, none⟩ = some (.int .i64 a) ∧ W.cell? ⟨w.heap.size + 1, 1, none⟩ = some (.int .i64 b) ∧ W.cell? ⟨w.heap.size + 1, 2, none⟩ = some (.int .i64 c) ∧ Yr W p f y m d ∧ Below w.heap.size w W ∧ w.heap.size + 1 < W.heap.size)
    ((first | exact O4 | exact OS.step hb (by assumption)))
    (first
      | (go_at_call 27; (with_reducible refine (hrd _).mono ?_); rintro e w4 ⟨rfl, hb⟩)
      | (go_at_call 27; (with_reducible refine (hrm _).mono ?_); rintro e w4 ⟨rfl, hb⟩))
  rename_i hH
  obtain ⟨_, _, _, _, _, _, Y5, B5, hz5⟩ := hH
  clear hb O3 O4
  go_wp2
  go_ret
  exact ⟨rfl, B5⟩

set_option maxRecDepth 100000 in
set_option maxHeartbeats 2000000 in
theorem outside_c3 (f y m d a b c : Int) (w : World) (hK : Kinds w) (hf : 1 ≤ f) (hf' : f ≤ 4) (h : yrB y m d = true) (hd : dayB a b c = true) (ho : yend y m d < num a b c) :
    Calls Tryd.prog 14 #[.int .i64 f, .agg #[.int .i64 y, .int .i64 m, .int .i64 d], .agg #[.int .i64 a, .int .i64 b, .int .i64 c]] w fun e w' => e = .returned (.bool true) ∧ Below w.heap.size w w' := by
  have hn := fun w K => new_ok f y m d hf hf' h w K
  have hrm := rnumber_yes y m d (yrB_yes h).1
  obtain ⟨_, _, nm3, nm4⟩ := num_bd (yrB_yes h).1
  have hrd := rnumber_yes a b c hd
  obtain ⟨_, _, nd3, nd4⟩ := num_bd hd
  have hix := fun p W Y => index_late p f y m d a b c W Y h hd ho
  have hen := fun p W Y => endd_any p f y m d W Y
  obtain ⟨e1, e2, e3, e4⟩ := end_day h
  have hrl := rnumber_yes _ _ _ e1
  rw [e2] at hrl
  have hl := year_bd (y := y) (d := d) (dayB_yes (yrB_yes h).1).2.2.1
  have g0 : ¬ num a b c < num y m d := by omega
  clear e1 e2
  generalize num a b c = n at *
  generalize num y m d = n0 at *
  have hcu := cuts_any
  have T0 := box2_new w y m d a b c 33 33
  have B0 := two_base w #[.int .i64 y, .int .i64 m, .int .i64 d] #[.int .i64 a, .int .i64 b, .int .i64 c] 33 33
  have K0 := hK.below B0
  go_enter Tryd.func14, Tryd.ntmps14
  go_wp2_with (fail)
  refine (hcu _ K0).mono ?_
  rintro e w1 ⟨rfl, hb⟩
  have T1 := T0.below hb
  have K1 := K0.below hb
  have B1 := below_step B0 hb B0.size
  obtain ⟨⟨c0, c1, c2⟩, ⟨d0, d1, d2⟩, hz1⟩ := id T1
  clear hb T0 K0 B0 hcu hK
  go_wp2_with (fail)
  refine (hn _ K1).mono ?_
  rintro e w2 ⟨p, rfl, z2, Y2, hb⟩
  have T2 := T1.below hb
  have B2 := below_step B1 hb B1.size
  obtain ⟨⟨c0, c1, c2⟩, ⟨d0, d1, d2⟩, hz2⟩ := id T2
  clear hb T1 K1 B1
  have O2 : OS w p f y m d a b c w2 := ⟨c0, c1, c2, d0, d1, d2, Y2, B2, hz2⟩
  go_wp2_with (fail)
  refine (hix p _ Y2).mono ?_
  rintro e w3 ⟨rfl, hb⟩
  have O3 := (O2.step hb)
  have O4 := O3.step (Below.refl _ _).drew
  clear hb T2 B2 O2 Y2 hn hix
  go_wp2
  go_region_held3 (fun W => W.cell? ⟨w.heap.size, 0, none⟩ = some (.int .i64 y) ∧ W.cell? ⟨w.heap.size, 1, none⟩ = some (.int .i64 m) ∧ W.cell? ⟨w.heap.size, 2, none⟩ = some (.int .i64 d) ∧ W.cell? ⟨w.heap.size + 1, 0, none⟩ = some (.int .i64 a) ∧ W.cell? ⟨w.heap.size + 1, 1, none⟩ = some (.int .i64 b) ∧ W.cell? ⟨w.heap.size + 1, 2, none⟩ = some (.int .i64 c) ∧ Yr W p f y m d ∧ Below w.heap.size w W ∧ w.heap.size + 1 < W.heap.size)
    ((first | exact O4 | exact OS.step hb (by assumption)))
    (first
      | (go_at_call 27; (with_reducible refine (hrd _).mono ?_); rintro e w4 ⟨rfl, hb⟩)
      | (go_at_call 27; (with_reducible refine (hrm _).mono ?_); rintro e w4 ⟨rfl, hb⟩))
  rename_i hH
  obtain ⟨_, _, _, _, _, _, Y5, B5, hz5⟩ := hH
  clear hb O3 O4
  go_wp2_with (fail)
  refine (hen _ _ Y5).mono ?_
  rintro e w5 ⟨rfl, hb⟩
  have B6 := below_step B5 hb B5.size
  clear hb B5
  go_wp2_with (fail)
  refine (hrl _).mono ?_
  rintro e w6 ⟨rfl, hb⟩
  have B7 := below_step B6 hb B6.size
  clear hb B6
  go_wp2
  go_ret
  exact ⟨rfl, B7⟩

set_option maxRecDepth 100000 in
set_option maxHeartbeats 2000000 in
theorem outside_c4 (f y m d a b c : Int) (w : World) (hK : Kinds w) (hf : 1 ≤ f) (hf' : f ≤ 4) (h : yrB y m d = true) (hd : dayB a b c = true) (ho : num y m d ≤ num a b c) (ho' : num a b c ≤ yend y m d) :
    Calls Tryd.prog 14 #[.int .i64 f, .agg #[.int .i64 y, .int .i64 m, .int .i64 d], .agg #[.int .i64 a, .int .i64 b, .int .i64 c]] w fun e w' => e = .returned (.bool true) ∧ Below w.heap.size w w' := by
  have hn := fun w K => new_ok f y m d hf hf' h w K
  have hrm := rnumber_yes y m d (yrB_yes h).1
  obtain ⟨_, _, nm3, nm4⟩ := num_bd (yrB_yes h).1
  have hrd := rnumber_yes a b c hd
  obtain ⟨_, _, nd3, nd4⟩ := num_bd hd
  have hix := fun p W Y => index_in p f y m d a b c W Y h hd hf hf' ho ho'
  have hen := fun p W Y => endd_any p f y m d W Y
  obtain ⟨e1, e2, e3, e4⟩ := end_day h
  have hrl := rnumber_yes _ _ _ e1
  rw [e2] at hrl
  have hl := year_bd (y := y) (d := d) (dayB_yes (yrB_yes h).1).2.2.1
  have g0 : ¬ num a b c < num y m d := by omega
  clear e1 e2
  have hct := fun p W Y => count_any p f y m d W Y h hf hf'
  generalize num a b c = n at *
  generalize num y m d = n0 at *
  have hcu := cuts_any
  have T0 := box2_new w y m d a b c 33 33
  have B0 := two_base w #[.int .i64 y, .int .i64 m, .int .i64 d] #[.int .i64 a, .int .i64 b, .int .i64 c] 33 33
  have K0 := hK.below B0
  go_enter Tryd.func14, Tryd.ntmps14
  go_wp2_with (fail)
  refine (hcu _ K0).mono ?_
  rintro e w1 ⟨rfl, hb⟩
  have T1 := T0.below hb
  have K1 := K0.below hb
  have B1 := below_step B0 hb B0.size
  obtain ⟨⟨c0, c1, c2⟩, ⟨d0, d1, d2⟩, hz1⟩ := id T1
  clear hb T0 K0 B0 hcu hK
  go_wp2_with (fail)
  refine (hn _ K1).mono ?_
  rintro e w2 ⟨p, rfl, z2, Y2, hb⟩
  have T2 := T1.below hb
  have B2 := below_step B1 hb B1.size
  obtain ⟨⟨c0, c1, c2⟩, ⟨d0, d1, d2⟩, hz2⟩ := id T2
  clear hb T1 K1 B1
  have O2 : OS w p f y m d a b c w2 := ⟨c0, c1, c2, d0, d1, d2, Y2, B2, hz2⟩
  go_wp2_with (fail)
  refine (hix p _ Y2).mono ?_
  rintro e w3 ⟨k, k1, k2, k3, k4, rfl, hb⟩
  have O3 := (O2.step hb)
  have O4 := O3.step (Below.refl _ _).drew
  clear hb T2 B2 O2 Y2 hn hix
  go_wp2
  go_region_held3 (fun W => W.cell? ⟨w.heap.size, 0, none⟩ = some (.int .i64 y) ∧ W.cell? ⟨w.heap.size, 1, none⟩ = some (.int .i64 m) ∧ W.cell? ⟨w.heap.size, 2, none⟩ = some (.int .i64 d) ∧ W.cell? ⟨w.heap.size + 1, 0, none⟩ = some (.int .i64 a) ∧ W.cell? ⟨w.heap.size + 1, 1, none⟩ = some (.int .i64 b) ∧ W.cell? ⟨w.heap.size + 1, 2, none⟩ = some (.int .i64 c) ∧ Yr W p f y m d ∧ Below w.heap.size w W ∧ w.heap.size + 1 < W.heap.size)
    ((first | exact O4 | exact OS.step hb (by assumption)))
    (first
      | (go_at_call 27; (with_reducible refine (hrd _).mono ?_); rintro e w4 ⟨rfl, hb⟩)
      | (go_at_call 27; (with_reducible refine (hrm _).mono ?_); rintro e w4 ⟨rfl, hb⟩))
  rename_i hH
  obtain ⟨_, _, _, _, _, _, Y5, B5, hz5⟩ := hH
  clear hb O3 O4
  clear k3 k4
  go_wp2_with (fail)
  refine (hen _ _ Y5).mono ?_
  rintro e w5 ⟨rfl, hb⟩
  have B6 := below_step B5 hb B5.size
  have Y6 := Y5.below hb
  clear hb B5 Y5
  go_wp2_with (fail)
  refine (hrl _).mono ?_
  rintro e w6 ⟨rfl, hb⟩
  have B7 := below_step B6 hb B6.size
  have Y7 := Y6.below hb
  clear hb B6 Y6
  go_wp2_with (fail)
  refine (hct _ _ Y7).mono ?_
  rintro e w7 ⟨rfl, hb⟩
  have B8 := below_step B7 hb B7.size
  clear hb B7 Y7
  go_wp2
  go_ret
  exact ⟨rfl, B8⟩

theorem wPeriodOutside (f y m d a b c : Int) (W : World) (hK : Kinds W) : Calls Tryd.prog 14 #[.int .i64 f, .agg #[.int .i64 y, .int .i64 m, .int .i64 d], .agg #[.int .i64 a, .int .i64 b, .int .i64 c]] W fun e w' => e = .returned (.bool true) ∧ Below W.heap.size W w' := by
  by_cases hf : 1 ≤ f ∧ f ≤ 4
  · cases h : yrB y m d
    · exact outside_nil f y m d a b c 30 W hK (new_date f y m d hf.1 hf.2 h)
    · cases hd : dayB a b c
      · exact outside_c1 f y m d a b c W hK hf.1 hf.2 h hd
      · by_cases h1 : num a b c < num y m d
        · exact outside_c2 f y m d a b c W hK hf.1 hf.2 h hd h1
        · by_cases h2 : yend y m d < num a b c
          · exact outside_c3 f y m d a b c W hK hf.1 hf.2 h hd h2
          · exact outside_c4 f y m d a b c W hK hf.1 hf.2 h hd (by omega) (by omega)
  · exact outside_nil f y m d a b c 40 W hK (new_freq f y m d (by omega))
end Go.Proofs.YtnpkpjnkbajnjaaDoor
