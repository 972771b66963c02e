/- The walk of PeriodMakes. -/
import Derived.Test.YtnpkpjnkbajnjaaDoorCuts
import Derived.Test.YtnpkpjnkbajnjaaDoorRefDateC
namespace Go.Proofs.YtnpkpjnkbajnjaaDoor
open Go.RowKit
set_option linter.unusedVariables false
set_option linter.unusedSimpArgs false

/-- a year's first day, the same day a year on, and the year, held while something is asked -/
def MZ (w : World) (q p p' : Nat) (f y m d : Int) (two : Bool) (W : World) : Prop := W.cell? ⟨w.heap.size, 0, none⟩ = some (.int .i64 y) ∧ W.cell? ⟨w.heap.size, 1, none⟩ = some (.int .i64 m) ∧ W.cell? ⟨w.heap.size, 2, none⟩ = some (.int .i64 d) ∧
  W.cell? ⟨q, 0, none⟩ = some (.int .i64 (y + 1)) ∧ W.cell? ⟨q, 1, none⟩ = some (.int .i64 m) ∧ W.cell? ⟨q, 2, none⟩ = some (.int .i64 d) ∧ Yr W p f y m d ∧ (two = true → Yr W p' f (y + 1) m d) ∧ Below w.heap.size w W ∧ q < W.heap.size ∧ w.heap.size < W.heap.size
theorem MZ.step {w : World} {q p p' : Nat} {f y m d : Int} {two : Bool} {W W' : World} (hb : Below W.heap.size W W') (S : MZ w q p p' f y m d two W) : MZ w q p p' f y m d two W' := by
  obtain ⟨h0, h1, h2, h3, h4, h5, Y, Y2, hB, z1, z2⟩ := S
  have hs := hB.size
  have g : ∀ (bb oo : Nat), bb < W.heap.size → W'.cell? ⟨bb, oo, none⟩ = W.cell? ⟨bb, oo, none⟩ := fun bb oo hl => hb.cell (p := ⟨bb, oo, none⟩) hl
  exact ⟨(g _ _ z2).trans h0, (g _ _ z2).trans h1, (g _ _ z2).trans h2, (g _ _ z1).trans h3, (g _ _ z1).trans h4, (g _ _ z1).trans h5, Y.below hb, fun t => (Y2 t).below hb, below_step hB hb hs, by have := hb.size; omega, by have := hb.size; omega⟩
/-- all of it but what the walk reads -/
def MR (w : World) (q p p' : Nat) (f y m d : Int) (two : Bool) (W : World) : Prop := Yr W p f y m d ∧ (two = true → Yr W p' f (y + 1) m d) ∧ Below w.heap.size w W ∧ q < W.heap.size ∧ w.heap.size < W.heap.size
def MQ (w : World) (q p p' : Nat) (f y m d : Int) (two : Bool) (W : World) : Prop := W.cell? ⟨w.heap.size, 0, none⟩ = some (.int .i64 y) ∧ W.cell? ⟨w.heap.size, 1, none⟩ = some (.int .i64 m) ∧ W.cell? ⟨w.heap.size, 2, none⟩ = some (.int .i64 d) ∧
  W.cell? ⟨q, 0, none⟩ = some (.int .i64 (y + 1)) ∧ W.cell? ⟨q, 1, none⟩ = some (.int .i64 m) ∧ W.cell? ⟨q, 2, none⟩ = some (.int .i64 d) ∧ MR w q p p' f y m d two W
theorem MQ.of {w : World} {q p p' : Nat} {f y m d : Int} {two : Bool} {W : World} (S : MZ w q p p' f y m d two W) : MQ w q p p' f y m d two W := S
theorem MQ.to {w : World} {q p p' : Nat} {f y m d : Int} {two : Bool} {W : World} (S : MQ w q p p' f y m d two W) : MZ w q p p' f y m d two W := S
theorem MQ.step {w : World} {q p p' : Nat} {f y m d : Int} {two : Bool} {W W' : World} (hb : Below W.heap.size W W') (S : MQ w q p p' f y m d two W) : MQ w q p p' f y m d two W' := MZ.step hb S
theorem index5v_1 (a b c : Int) (W : World) : (Instr.index 61 (.agg #[.int .i64 0, .int .i64 a, .int .i64 b, .int .i64 c, .int .i64 12]) (.int .i64 1)).run Tryd.prog W = .ok (.int .i64 a) W := by kernel_rfl
theorem index5v_2 (a b c : Int) (W : World) : (Instr.index 61 (.agg #[.int .i64 0, .int .i64 a, .int .i64 b, .int .i64 c, .int .i64 12]) (.int .i64 2)).run Tryd.prog W = .ok (.int .i64 b) W := by kernel_rfl
theorem index5v_3 (a b c : Int) (W : World) : (Instr.index 61 (.agg #[.int .i64 0, .int .i64 a, .int .i64 b, .int .i64 c, .int .i64 12]) (.int .i64 3)).run Tryd.prog W = .ok (.int .i64 c) W := by kernel_rfl
theorem index5v_4 (a b c : Int) (W : World) : (Instr.index 61 (.agg #[.int .i64 0, .int .i64 a, .int .i64 b, .int .i64 c, .int .i64 12]) (.int .i64 4)).run Tryd.prog W = .ok (.int .i64 12) W := by kernel_rfl

set_option maxRecDepth 100000 in
theorem makes_freq (f y m d : Int) (w : World) (hK : Kinds w) (h : f < 1 ∨ 4 < f) :
    Calls Tryd.prog 11 #[.int .i64 f, .agg #[.int .i64 y, .int .i64 m, .int .i64 d]] w fun e w' => e = .returned (.bool true) ∧ Below w.heap.size w w' := by
  have hn := new_freq f y m d h
  have hcases : f < 1 ∨ (¬ f < 1 ∧ 4 < f) := by omega
  clear h
  have hcu := cuts_any
  have D0 := day_new w y m d 33
  have B0 : Below w.heap.size w (w.alloc (.cells #[.int .i64 y, .int .i64 m, .int .i64 d] 33)) := (Below.refl _ _).alloc (Nat.le_refl _) _
  have K0 := hK.below B0
  go_enter Tryd.func11, Tryd.ntmps11
  go_wp2_with (fail)
  refine (hcu _ K0).mono ?_
  rintro e w1 ⟨rfl, hb⟩
  have D1 := D0.below hb (by simp)
  have K1 := K0.below hb
  have B1 := below_step B0 hb B0.size
  have z1 : w.heap.size < w1.heap.size := by have := hb.size; simp at this; omega
  obtain ⟨c0, c1, c2⟩ := id D1
  clear hb D0 K0 B0 hcu hK
  go_wp2_with (fail)
  refine (hn _).mono ?_
  rintro e w2 ⟨rfl, hb⟩
  have B2 := below_step B1 hb B1.size
  rcases hcases with g | ⟨g0, g⟩
  · go_wp2
    go_ret
    exact ⟨rfl, B2⟩
  · go_wp2
    go_ret
    exact ⟨rfl, B2⟩

set_option maxRecDepth 100000 in
theorem makes_no (f y m d : Int) (w : World) (hK : Kinds w) (hf : 1 ≤ f) (hf' : f ≤ 4) (h : yrB y m d = false) (hm : (dayB y m d && mtB (mt y m 12)) = false) :
    Calls Tryd.prog 11 #[.int .i64 f, .agg #[.int .i64 y, .int .i64 m, .int .i64 d]] w fun e w' => e = .returned (.bool true) ∧ Below w.heap.size w w' := by
  have hn := new_date f y m d hf hf' h
  have hr := rmonths_out y m d 12 (by omega) (by omega) hm
  clear h hm
  have hcu := cuts_any
  have D0 := day_new w y m d 33
  have B0 : Below w.heap.size w (w.alloc (.cells #[.int .i64 y, .int .i64 m, .int .i64 d] 33)) := (Below.refl _ _).alloc (Nat.le_refl _) _
  have K0 := hK.below B0
  go_enter Tryd.func11, Tryd.ntmps11
  go_wp2_with (fail)
  refine (hcu _ K0).mono ?_
  rintro e w1 ⟨rfl, hb⟩
  have D1 := D0.below hb (by simp)
  have K1 := K0.below hb
  have B1 := below_step B0 hb B0.size
  have z1 : w.heap.size < w1.heap.size := by have := hb.size; simp at this; omega
  obtain ⟨c0, c1, c2⟩ := id D1
  clear hb D0 K0 B0 hcu hK
  go_wp2_with (fail)
  refine (hn _).mono ?_
  rintro e w2 ⟨rfl, hb⟩
  have B2 := below_step B1 hb B1.size
  have D2 := D1.below hb z1
  have hz2 : w.heap.size < w2.heap.size := by have := hb.size; omega
  clear hb c0 c1 c2
  obtain ⟨c0, c1, c2⟩ := id D2
  go_wp2_with (fail)
  refine (hr _).mono ?_
  rintro e w3 ⟨a, b, c, rfl, hb⟩
  have B3 := below_step B2 hb B2.size
  go_wp2
  go_ret
  exact ⟨rfl, B3.alloc B3.size _⟩
set_option maxRecDepth 100000 in
theorem makes_29 (f y : Int) (w : World) (hK : Kinds w) (hf : 1 ≤ f) (hf' : f ≤ 4) (hd : dayB y 2 29 = true) (hm : mtB (mt y 2 12) = true) :
    Calls Tryd.prog 11 #[.int .i64 f, .agg #[.int .i64 y, .int .i64 2, .int .i64 29]] w fun e w' => e = .returned (.bool true) ∧ Below w.heap.size w w' := by
  have hn := new_date f y 2 29 hf hf' (by unfold yrB; simp)
  have hr := rmonths_yes y 2 29 12 hd (by omega) (by omega) hm
  generalize yM (mt y 2 12) = a at *
  generalize mM (mt y 2 12) = b at *
  generalize dM (mt y 2 12) 29 = c at *
  clear hd hm
  have hcu := cuts_any
  have D0 := day_new w y 2 29 33
  have B0 : Below w.heap.size w (w.alloc (.cells #[.int .i64 y, .int .i64 2, .int .i64 29] 33)) := (Below.refl _ _).alloc (Nat.le_refl _) _
  have K0 := hK.below B0
  go_enter Tryd.func11, Tryd.ntmps11
  go_wp2_with (fail)
  refine (hcu _ K0).mono ?_
  rintro e w1 ⟨rfl, hb⟩
  have D1 := D0.below hb (by simp)
  have K1 := K0.below hb
  have B1 := below_step B0 hb B0.size
  have z1 : w.heap.size < w1.heap.size := by have := hb.size; simp at this; omega
  obtain ⟨c0, c1, c2⟩ := id D1
  clear hb D0 K0 B0 hcu hK
  go_wp2_with (fail)
  refine (hn _).mono ?_
  rintro e w2 ⟨rfl, hb⟩
  have B2 := below_step B1 hb B1.size
  have D2 := D1.below hb z1
  have hz2 : w.heap.size < w2.heap.size := by have := hb.size; omega
  clear hb c0 c1 c2
  obtain ⟨c0, c1, c2⟩ := id D2
  go_wp2_with (fail)
  refine (hr _).mono ?_
  rintro e w3 ⟨rfl, hb⟩
  have B3 := below_step B2 hb B2.size
  have D3 := (D2.below hb hz2).below (w' := w3.alloc (.cells #[.int .i64 a, .int .i64 b, .int .i64 c] 33)) ((Below.refl _ _).alloc (Nat.le_refl _) _) (by have := hb.size; omega)
  obtain ⟨x0, x1, x2⟩ := D3
  go_wp2
  go_ret
  exact ⟨rfl, B3.alloc B3.size _⟩

set_option maxRecDepth 100000 in
set_option maxHeartbeats 8000000 in
theorem makes_yes (f y m d : Int) (w : World) (hK : Kinds w) (hf : 1 ≤ f) (hf' : f ≤ 4) (h : yrB y m d = true) :
    Calls Tryd.prog 11 #[.int .i64 f, .agg #[.int .i64 y, .int .i64 m, .int .i64 d]] w fun e w' => e = .returned (.bool true) ∧ Below w.heap.size w w' := by
  obtain ⟨y0, y1, y2⟩ := yrB_yes h
  have hm1 := (dayB_yes y0).2.2.1
  obtain ⟨b1, b2, b3, b4, b5, b6⟩ := dayB_yes y0
  have hn := fun w K => new_ok f y m d hf hf' h w K
  have hr := rmonths_yes y m d 12 y0 (by omega) (by omega) (mt_in b1 y1 b3 b4 (by omega) (by omega))
  obtain ⟨q1, q2, q3⟩ := month_year y0 y2
  rw [q1, q2, q3] at hr
  have hst := fun p W Y => start_any p f y m d W Y
  have hfq := fun p W Y => freq_any p f y m d W Y
  have hg : (m == 2) = false ∨ ((m == 2) = true ∧ (d == 29) = false) := by
    by_cases hm2 : m = 2
    · right
      exact ⟨by simpa using hm2, by simp; omega⟩
    · left; simpa using hm2
  have HH := Lib.hid h
  have hnd := next_day h
  have y29 := y2
  obtain ⟨E1, E2, E3, E4⟩ := end_day h
  have hbt := between_yes _ _ _ _ _ _ y0 E1
  rw [E2] at hbt
  have hen := fun p W Y => endd_any p f y m d W Y
  have hr1 := rnumber_yes (y + 1) m d hnd
  have hr2 := rnumber_yes y m d y0
  have hE : num (y + 1) m d = yend y m d + 1 := by unfold yend; omega
  rw [hE] at hr1
  have hyb := year_bd (y := y) (d := d) hm1
  obtain ⟨_, _, s1, s2⟩ := num_bd y0
  have hct1 := fun p W (Y : Yr W p 1 y m d) => count_any p 1 y m d W Y h (by omega) (by omega)
  have hct2 := fun p W (Y : Yr W p 2 y m d) => count_any p 2 y m d W Y h (by omega) (by omega)
  have hct3 := fun p W (Y : Yr W p 3 y m d) => count_any p 3 y m d W Y h (by omega) (by omega)
  have hct4 := fun p W (Y : Yr W p 4 y m d) => count_any p 4 y m d W Y h (by omega) (by omega)
  rw [show cnt 1 y m d = (yend y m d + 1 - num y m d + 6) / 7 by simp [cnt, pd]; omega] at hct1
  rw [show cnt 2 y m d = (yend y m d + 1 - num y m d + 13) / 14 by simp [cnt, pd]; omega] at hct2
  rw [show cnt 3 y m d = (yend y m d + 1 - num y m d + 27) / 28 by simp [cnt, pd]; omega] at hct3
  rw [show cnt 4 y m d = 12 by simp [cnt]] at hct4
  have hno1 : ∀ W, Kinds W → Calls Tryd.prog 53 #[.int .i64 1] W fun e w' => e = .returned (.int .i64 52) ∧ W = w' := fun W K => nominal_any 1 W K
  have hno2 : ∀ W, Kinds W → Calls Tryd.prog 53 #[.int .i64 2] W fun e w' => e = .returned (.int .i64 26) ∧ W = w' := fun W K => nominal_any 2 W K
  have hno3 : ∀ W, Kinds W → Calls Tryd.prog 53 #[.int .i64 3] W fun e w' => e = .returned (.int .i64 13) ∧ W = w' := fun W K => nominal_any 3 W K
  have hno4 : ∀ W, Kinds W → Calls Tryd.prog 53 #[.int .i64 4] W fun e w' => e = .returned (.int .i64 12) ∧ W = w' := fun W K => nominal_any 4 W K
  obtain ⟨hyb1, hyb2⟩ := hyb
  clear h y0 y2 q1 q2 q3 b6 E1 E2 hE
  generalize num y m d = s at *
  generalize yOf (yend y m d) = t1 at *
  generalize mOf (yend y m d) = t2 at *
  generalize dOf (yend y m d) = t3 at *
  generalize yend y m d = E at *
  have l1 : (E + 1 - s + 6) / 7 ≤ 53 := by omega
  have l2 : 52 ≤ (E + 1 - s + 6) / 7 := by omega
  have l3 : (E + 1 - s + 13) / 14 ≤ 53 := by omega
  have l4 : 26 ≤ (E + 1 - s + 13) / 14 := by omega
  have l5 : (E + 1 - s + 27) / 28 ≤ 53 := by omega
  have l6 : 13 ≤ (E + 1 - s + 27) / 28 := by omega
  have l7 : (E - s != E + 1 - s - 1) = false := by simp; omega
  clear hm1
  have hcu := cuts_any
  have D0 := day_new w y m d 33
  have B0 : Below w.heap.size w (w.alloc (.cells #[.int .i64 y, .int .i64 m, .int .i64 d] 33)) := (Below.refl _ _).alloc (Nat.le_refl _) _
  have K0 := hK.below B0
  go_enter Tryd.func11, Tryd.ntmps11
  go_wp2_with (fail)
  refine (hcu _ K0).mono ?_
  rintro e w1 ⟨rfl, hb⟩
  have D1 := D0.below hb (by simp)
  have K1 := K0.below hb
  have B1 := below_step B0 hb B0.size
  have z1 : w.heap.size < w1.heap.size := by have := hb.size; simp at this; omega
  obtain ⟨c0, c1, c2⟩ := id D1
  clear hb D0 K0 B0 hcu hK
  go_wp2_with (fail)
  refine (hn _ K1).mono ?_
  rintro e w2 ⟨p, rfl, zp, Y2, hb⟩
  have B2 := below_step B1 hb B1.size
  have D2 := D1.below hb z1
  have hz2 : w.heap.size < w2.heap.size := by have := hb.size; omega
  clear hb K1 B1 D1 hn c0 c1 c2
  obtain ⟨c0, c1, c2⟩ := id D2
  rcases hg with g | ⟨g, g'⟩
  all_goals
    go_wp2_with (fail)
    (with_reducible refine (hr _).mono ?_)
    rintro e w3 ⟨rfl, hb⟩
    have B3 := below_step B2 hb B2.size
    have D3 := D2.below hb hz2
    have Y3 := Y2.below hb
    have hz3 : w.heap.size < w3.heap.size := by have := hb.size; omega
    have hb2 : Below w3.heap.size w3 (w3.alloc (.cells #[.int .i64 (y + 1), .int .i64 m, .int .i64 d] 33)) := (Below.refl _ _).alloc (Nat.le_refl _) _
    obtain ⟨x0, x1, x2⟩ := D3.below hb2 hz3
    obtain ⟨n0, n1, n2⟩ := day_new w3 (y + 1) m d 33
    have Q0 : MQ w w3.heap.size p p f y m d false (w3.alloc (.cells #[.int .i64 (y + 1), .int .i64 m, .int .i64 d] 33)) := ⟨x0, x1, x2, n0, n1, n2, Y3.below hb2, fun t => Bool.noConfusion t, below_step B3 hb2 B3.size, by simp, by have := hb2.size; omega⟩
    clear hb hb2 B2 D2 Y2 B3 D3 Y3 c0 c1 c2
    have Q0d := Q0.step (Below.refl _ _).drew
    have YY := Q0d.2.2.2.2.2.2.1
    go_wp2
    go_region_held3 (fun W => W.cell? ⟨w.heap.size, 0, none⟩ = some (.int .i64 y) ∧ W.cell? ⟨w.heap.size, 1, none⟩ = some (.int .i64 m) ∧ W.cell? ⟨w.heap.size, 2, none⟩ = some (.int .i64 d) ∧ W.cell? ⟨w3.heap.size, 0, none⟩ = some (.int .i64 (y + 1)) ∧ W.cell? ⟨w3.heap.size, 1, none⟩ = some (.int .i64 m) ∧ W.cell? ⟨w3.heap.size, 2, none⟩ = some (.int .i64 d) ∧ MR w w3.heap.size p p f y m d false W)
      ((first | exact Q0d | exact MQ.step hb (by assumption)))
      (first
        | (go_at_call 48; (with_reducible refine (hst _ _ YY).mono ?_); rintro e w5 ⟨rfl, hb⟩)
        | (go_at_call 49; refine (hfq _ _ (by first | exact YY | exact Yr.below YY hb)).mono ?_; rintro e w6 ⟨rfl, rfl⟩))
    rename_i hH
    have Q1 : MQ w w3.heap.size p p f y m d false w5 := hH
    clear hH hb Q0 Q0d YY
    have Q1d := Q1.step (Below.refl _ _).drew
    have YY := Q1d.2.2.2.2.2.2.1
    go_wp2
    go_region_held3 (fun W => W.cell? ⟨w.heap.size, 0, none⟩ = some (.int .i64 y) ∧ W.cell? ⟨w.heap.size, 1, none⟩ = some (.int .i64 m) ∧ W.cell? ⟨w.heap.size, 2, none⟩ = some (.int .i64 d) ∧ W.cell? ⟨w3.heap.size, 0, none⟩ = some (.int .i64 (y + 1)) ∧ W.cell? ⟨w3.heap.size, 1, none⟩ = some (.int .i64 m) ∧ W.cell? ⟨w3.heap.size, 2, none⟩ = some (.int .i64 d) ∧ MR w w3.heap.size p p f y m d false W)
      ((first | exact Q1d | exact MQ.step hb (by assumption)))
      (first
        | (go_at_call 27; (with_reducible refine (hr1 _).mono ?_); rintro e w7 ⟨rfl, hb⟩)
        | (go_at_call 27; (with_reducible refine (hr2 _).mono ?_); rintro e w7 ⟨rfl, hb⟩))
    rename_i hH
    have Q2 : MQ w w3.heap.size p p f y m d false w7 := hH
    clear hH hb Q1 Q1d YY
    have Q2d := Q2.step (Below.refl _ _).drew
    have YY := Q2d.2.2.2.2.2.2.1
    go_wp2
    go_region_held3 (fun W => W.cell? ⟨w.heap.size, 0, none⟩ = some (.int .i64 y) ∧ W.cell? ⟨w.heap.size, 1, none⟩ = some (.int .i64 m) ∧ W.cell? ⟨w.heap.size, 2, none⟩ = some (.int .i64 d) ∧ W.cell? ⟨w3.heap.size, 0, none⟩ = some (.int .i64 (y + 1)) ∧ W.cell? ⟨w3.heap.size, 1, none⟩ = some (.int .i64 m) ∧ W.cell? ⟨w3.heap.size, 2, none⟩ = some (.int .i64 d) ∧ MR w w3.heap.size p p f y m d false W)
      ((first | exact Q2d | exact MQ.step hb (by assumption)))
      (first
        | (go_at_call 50; (with_reducible refine (hen _ _ YY).mono ?_); rintro e w9 ⟨rfl, hb⟩)
        | (go_at_call 35; (with_reducible refine (hbt _).mono ?_); rintro e w9 ⟨rfl, hb⟩))
    rename_i hH
    have Q3 : MQ w w3.heap.size p p f y m d false w9 := hH
    clear hH hb Q2 Q2d YY
    by_cases more : y + 1 ≤ 2198
    · have hy' : yrB (y + 1) m d = true := yrB_mk hnd more y29
      have hnx := next_ok p f y m d _ Q3.2.2.2.2.2.2.1 HH.out hf hf' hy'
      have hrr := rmonths_yes (y + 1) m d 12 hnd (by omega) (by omega) (mt_in (by omega) more b3 b4 (by omega) (by omega))
      have hst' := fun p W Y => start_any p f (y + 1) m d W Y
      have hfq' := fun p W Y => freq_any p f (y + 1) m d W Y
      generalize yM (mt (y + 1) m 12) = a1 at *
      generalize mM (mt (y + 1) m 12) = a2 at *
      generalize dM (mt (y + 1) m 12) d = a3 at *
      clear hy'
      obtain ⟨x0, x1, x2, x3, x4, x5, _⟩ := id Q3
      go_wp2_with (fail)
      refine hnx.mono ?_
      rintro e w10 ⟨p', rfl, zp', Y', hb⟩
      have Q4 := Q3.step hb
      replace Q4 : MQ w w3.heap.size p p' f y m d true w10 := ⟨Q4.1, Q4.2.1, Q4.2.2.1, Q4.2.2.2.1, Q4.2.2.2.2.1, Q4.2.2.2.2.2.1, Q4.2.2.2.2.2.2.1, fun _ => Y', Q4.2.2.2.2.2.2.2.2.1, Q4.2.2.2.2.2.2.2.2.2.1, Q4.2.2.2.2.2.2.2.2.2.2⟩
      clear hb hnx Q3 Y' x0 x1 x2 x3 x4 x5
      obtain ⟨x0, x1, x2, x3, x4, x5, _⟩ := id Q4
      go_wp2_with (fail)
      (with_reducible refine (hrr _).mono ?_)
      rintro e w11 ⟨rfl, hb⟩
      have Q5 := (Q4.step hb).step (W' := w11.alloc (.cells #[.int .i64 a1, .int .i64 a2, .int .i64 a3] 33)) ((Below.refl _ _).alloc (Nat.le_refl _) _)
      clear hb Q4 hrr x0 x1 x2 x3 x4 x5
      have Q5d := Q5.step (Below.refl _ _).drew
      have YY := Q5d.2.2.2.2.2.2.1
      have YY2 := Q5d.2.2.2.2.2.2.2.1 rfl
      go_wp2
      go_region_held3 (fun W => W.cell? ⟨w.heap.size, 0, none⟩ = some (.int .i64 y) ∧ W.cell? ⟨w.heap.size, 1, none⟩ = some (.int .i64 m) ∧ W.cell? ⟨w.heap.size, 2, none⟩ = some (.int .i64 d) ∧ W.cell? ⟨w3.heap.size, 0, none⟩ = some (.int .i64 (y + 1)) ∧ W.cell? ⟨w3.heap.size, 1, none⟩ = some (.int .i64 m) ∧ W.cell? ⟨w3.heap.size, 2, none⟩ = some (.int .i64 d) ∧ MR w w3.heap.size p p' f y m d true W)
        ((first | exact Q5d | exact MQ.step hb (by assumption)))
        (first
          | (go_at_call 48; (with_reducible refine (hst' _ _ YY2).mono ?_); rintro e w13 ⟨rfl, hb⟩)
          | (go_at_call 49; refine (hfq' _ _ (by first | exact YY2 | exact Yr.below YY2 hb)).mono ?_; rintro e w14 ⟨rfl, rfl⟩))
      rename_i hH
      have Q6 : MQ w w3.heap.size p p' f y m d true w13 := hH
      clear hH hb Q5 Q5d YY
      have YF := Q6.2.2.2.2.2.2.1
      have BF := Q6.2.2.2.2.2.2.2.2.1
      clear Q6 hst hst' hfq hfq' hen hbt hr hr1 hr2
      rcases freq_cases hf hf' with rfl | rfl | rfl | rfl
      · have hct := hct1
        have hno := hno1
        have ix := index5v_1
        go_wp2_with (fail)
        refine (hct _ _ YF).mono ?_
        rintro e w20 ⟨rfl, hb⟩
        have B20 := below_step BF hb BF.size
        have Y20 := YF.below hb
        clear hb
        go_wp2_with (fail)
        refine (hno _ Y20.1).mono ?_
        rintro e w21 ⟨rfl, rfl⟩
        go_wp2
        go_ret
        exact ⟨rfl, B20⟩
      · have hct := hct2
        have hno := hno2
        have ix := index5v_2
        go_wp2_with (fail)
        refine (hct _ _ YF).mono ?_
        rintro e w20 ⟨rfl, hb⟩
        have B20 := below_step BF hb BF.size
        have Y20 := YF.below hb
        clear hb
        go_wp2_with (fail)
        refine (hno _ Y20.1).mono ?_
        rintro e w21 ⟨rfl, rfl⟩
        go_wp2
        go_ret
        exact ⟨rfl, B20⟩
      · have hct := hct3
        have hno := hno3
        have ix := index5v_3
        go_wp2_with (fail)
        refine (hct _ _ YF).mono ?_
        rintro e w20 ⟨rfl, hb⟩
        have B20 := below_step BF hb BF.size
        have Y20 := YF.below hb
        clear hb
        go_wp2_with (fail)
        refine (hno _ Y20.1).mono ?_
        rintro e w21 ⟨rfl, rfl⟩
        go_wp2
        go_ret
        exact ⟨rfl, B20⟩
      · have hct := hct4
        have hno := hno4
        have ix := index5v_4
        go_wp2_with (fail)
        refine (hct _ _ YF).mono ?_
        rintro e w20 ⟨rfl, hb⟩
        have B20 := below_step BF hb BF.size
        have Y20 := YF.below hb
        clear hb
        go_wp2_with (fail)
        refine (hno _ Y20.1).mono ?_
        rintro e w21 ⟨rfl, rfl⟩
        go_wp2
        go_ret
        exact ⟨rfl, B20⟩
    · have hy' : yrB (y + 1) m d = false := by
        cases q : yrB (y + 1) m d
        · rfl
        · exact absurd (yrB_yes q).2.1 more
      have hnx := next_no p f y m d _ Q3.2.2.2.2.2.2.1 HH.out hf hf' hy'
      have hrr := rmonths_out (y + 1) m d 12 (by omega) (by omega) (by rw [hnd, Bool.true_and]; unfold mtB mt; rw [decide_eq_false_iff_not]; omega)
      clear hy'
      obtain ⟨x0, x1, x2, x3, x4, x5, _⟩ := id Q3
      go_wp2_with (fail)
      refine hnx.mono ?_
      rintro e w10 ⟨rfl, hb⟩
      have Q4 := Q3.step hb
      clear hb hnx Q3 x0 x1 x2 x3 x4 x5
      obtain ⟨x0, x1, x2, x3, x4, x5, _⟩ := id Q4
      go_wp2_with (fail)
      refine (hrr _).mono ?_
      rintro e w11 ⟨a1, a2, a3, rfl, hb⟩
      have Q5 := (Q4.step hb).step (W' := w11.alloc (.cells #[.int .i64 a1, .int .i64 a2, .int .i64 a3] 33)) ((Below.refl _ _).alloc (Nat.le_refl _) _)
      clear hb Q4 hrr x0 x1 x2 x3 x4 x5
      have YF := Q5.2.2.2.2.2.2.1
      have BF := Q5.2.2.2.2.2.2.2.2.1
      clear Q5 hst hfq hen hbt hr hr1 hr2
      rcases freq_cases hf hf' with rfl | rfl | rfl | rfl
      · have hct := hct1
        have hno := hno1
        have ix := index5v_1
        go_wp2_with (fail)
        refine (hct _ _ YF).mono ?_
        rintro e w20 ⟨rfl, hb⟩
        have B20 := below_step BF hb BF.size
        have Y20 := YF.below hb
        clear hb
        go_wp2_with (fail)
        refine (hno _ Y20.1).mono ?_
        rintro e w21 ⟨rfl, rfl⟩
        go_wp2
        go_ret
        exact ⟨rfl, B20⟩
      · have hct := hct2
        have hno := hno2
        have ix := index5v_2
        go_wp2_with (fail)
        refine (hct _ _ YF).mono ?_
        rintro e w20 ⟨rfl, hb⟩
        have B20 := below_step BF hb BF.size
        have Y20 := YF.below hb
        clear hb
        go_wp2_with (fail)
        refine (hno _ Y20.1).mono ?_
        rintro e w21 ⟨rfl, rfl⟩
        go_wp2
        go_ret
        exact ⟨rfl, B20⟩
      · have hct := hct3
        have hno := hno3
        have ix := index5v_3
        go_wp2_with (fail)
        refine (hct _ _ YF).mono ?_
        rintro e w20 ⟨rfl, hb⟩
        have B20 := below_step BF hb BF.size
        have Y20 := YF.below hb
        clear hb
        go_wp2_with (fail)
        refine (hno _ Y20.1).mono ?_
        rintro e w21 ⟨rfl, rfl⟩
        go_wp2
        go_ret
        exact ⟨rfl, B20⟩
      · have hct := hct4
        have hno := hno4
        have ix := index5v_4
        go_wp2_with (fail)
        refine (hct _ _ YF).mono ?_
        rintro e w20 ⟨rfl, hb⟩
        have B20 := below_step BF hb BF.size
        have Y20 := YF.below hb
        clear hb
        go_wp2_with (fail)
        refine (hno _ Y20.1).mono ?_
        rintro e w21 ⟨rfl, rfl⟩
        go_wp2
        go_ret
        exact ⟨rfl, B20⟩
theorem wPeriodMakes (f y m d : Int) (W : World) (hK : Kinds W) : Calls Tryd.prog 11 #[.int .i64 f, .agg #[.int .i64 y, .int .i64 m, .int .i64 d]] W fun e w' => e = .returned (.bool true) ∧ Below W.heap.size W w' := by
  by_cases hf : 1 ≤ f ∧ f ≤ 4
  · cases h : yrB y m d
    · cases hq : dayB y m d && mtB (mt y m 12)
      · exact makes_no f y m d W hK hf.1 hf.2 h hq
      · obtain ⟨hd, hm⟩ := Bool.and_eq_true_iff.1 hq
        have ht := mtB_yes hm
        obtain ⟨a1, a2, a3, a4, _⟩ := dayB_yes hd
        have hy : y ≤ 2198 := by unfold mt at ht; omega
        have h29 : m = 2 ∧ d = 29 := by
          rcases Decidable.em (m = 2 ∧ d = 29) with q | q
          · exact q
          · rw [yrB_mk hd hy q] at h
            exact Bool.noConfusion h
        obtain ⟨rfl, rfl⟩ := h29
        exact makes_29 f y W hK hf.1 hf.2 hd hm
    · exact makes_yes f y m d W hK hf.1 hf.2 h
  · exact makes_freq f y m d W hK (by omega)
end Go.Proofs.YtnpkpjnkbajnjaaDoor
