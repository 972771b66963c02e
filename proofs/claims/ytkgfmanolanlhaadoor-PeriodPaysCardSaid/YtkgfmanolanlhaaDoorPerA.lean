/- What the calls of period answer that a year's parts hang on: the table of frequencies, a year where it lies, Count, begin. -/
import Derived.Test.YtkgfmanolanlhaaDoorDateE
import Derived.Test.YtkgfmanolanlhaaDoorPer
namespace Go.Proofs.YtkgfmanolanlhaaDoor
open Go.RowKit
set_option linter.unusedVariables false
set_option linter.unusedSimpArgs false

/-- the table of the frequencies lies as the program's text lays it -/
def Kinds (w : World) : Prop := w.cell? ⟨1, 3, none⟩ = some (.string ⟨#[119, 101, 101, 107, 108, 121]⟩) ∧ w.cell? ⟨1, 4, none⟩ = some (.int .i64 52) ∧ w.cell? ⟨1, 5, none⟩ = some (.int .i64 7) ∧ w.cell? ⟨1, 6, none⟩ = some (.string ⟨#[102, 111, 114, 116, 110, 105, 103, 104, 116, 108, 121]⟩) ∧ w.cell? ⟨1, 7, none⟩ = some (.int .i64 26) ∧ w.cell? ⟨1, 8, none⟩ = some (.int .i64 14) ∧ w.cell? ⟨1, 9, none⟩ = some (.string ⟨#[102, 111, 117, 114, 119, 101, 101, 107, 108, 121]⟩) ∧ w.cell? ⟨1, 10, none⟩ = some (.int .i64 13) ∧ w.cell? ⟨1, 11, none⟩ = some (.int .i64 28) ∧ w.cell? ⟨1, 12, none⟩ = some (.string ⟨#[109, 111, 110, 116, 104, 108, 121]⟩) ∧ w.cell? ⟨1, 13, none⟩ = some (.int .i64 12) ∧ w.cell? ⟨1, 14, none⟩ = some (.int .i64 0) ∧ 1 < w.heap.size
theorem Kinds.below {w w' : World} (h : Kinds w) (hb : Below w.heap.size w w') : Kinds w' := by
  obtain ⟨k3, k4, k5, k6, k7, k8, k9, k10, k11, k12, k13, k14, hz⟩ := h
  have g : ∀ o, w'.cell? ⟨1, o, none⟩ = w.cell? ⟨1, o, none⟩ := fun o => hb.cell (p := ⟨1, o, none⟩) hz
  exact ⟨(g _).trans k3, (g _).trans k4, (g _).trans k5, (g _).trans k6, (g _).trans k7, (g _).trans k8, (g _).trans k9, (g _).trans k10, (g _).trans k11, (g _).trans k12, (g _).trans k13, (g _).trans k14, by have := hb.size; omega⟩

theorem known_yes (f : Int) (h : 1 ≤ f) (h' : f ≤ 4) (w : World) : Calls Tryd.prog 58 #[.int .i64 f] w fun e w' => e = .returned (.bool true) ∧ w = w' := by
  go_enter Tryd.func58, Tryd.ntmps58
  go_wp2
  go_ret
  exact ⟨rfl, rfl⟩
theorem known_no (f : Int) (h : f < 1 ∨ 4 < f) (w : World) : Calls Tryd.prog 58 #[.int .i64 f] w fun e w' => e = .returned (.bool false) ∧ w = w' := by
  rcases h with h | h
  · have h' : ¬ 1 ≤ f := by omega
    go_enter Tryd.func58, Tryd.ntmps58
    go_wp2
    go_ret
    exact ⟨rfl, rfl⟩
  · have h1 : 1 ≤ f := by omega
    have h' : ¬ f ≤ 4 := by omega
    go_enter Tryd.func58, Tryd.ntmps58
    go_wp2
    go_ret
    exact ⟨ret_b (by simp; try omega), rfl⟩
/-- how many whole periods a year has -/
def nom (f : Int) : Int := if f = 1 then 52 else if f = 2 then 26 else if f = 3 then 13 else if f = 4 then 12 else 0
theorem nominal_any (f : Int) (w : World) (hK : Kinds w) : Calls Tryd.prog 57 #[.int .i64 f] w fun e w' => e = .returned (.int .i64 (nom f)) ∧ w = w' := by
  by_cases h : 1 ≤ f ∧ f ≤ 4
  · have hc := known_yes f h.1 h.2
    obtain ⟨k3, k4, k5, k6, k7, k8, k9, k10, k11, k12, k13, k14, hz⟩ := hK
    rcases freq_cases h.1 h.2 with rfl | rfl | rfl | rfl
    all_goals
      clear h
      go_enter Tryd.func57, Tryd.ntmps57
      go_wp2_with (fail)
      refine (hc _).mono ?_
      rintro e w' ⟨rfl, rfl⟩
      go_wp2
      go_ret
      exact ⟨rfl, rfl⟩
  · have hc := known_no f (by omega)
    have e : nom f = 0 := by unfold nom; rw [if_neg (by omega), if_neg (by omega), if_neg (by omega), if_neg (by omega)]
    rw [e]
    clear h e hK
    go_enter Tryd.func57, Tryd.ntmps57
    go_wp2_with (fail)
    refine (hc _).mono ?_
    rintro e w' ⟨rfl, rfl⟩
    go_wp2
    go_ret
    exact ⟨rfl, rfl⟩

/-- a year in memory: its frequency, its first day, its last one -/
def Yr (W : World) (p : Nat) (f y m d : Int) : Prop := Kinds W ∧ W.cell? ⟨p, 0, none⟩ = some (.int .i64 f) ∧ (W.cell? ⟨p, 1, none⟩ = some (.int .i64 y) ∧ W.cell? ⟨p, 2, none⟩ = some (.int .i64 m) ∧ W.cell? ⟨p, 3, none⟩ = some (.int .i64 d)) ∧
  (W.cell? ⟨p, 4, none⟩ = some (.int .i64 (yOf (yend y m d))) ∧ W.cell? ⟨p, 5, none⟩ = some (.int .i64 (mOf (yend y m d))) ∧ W.cell? ⟨p, 6, none⟩ = some (.int .i64 (dOf (yend y m d)))) ∧ p < W.heap.size
theorem Yr.below {W W' : World} {p : Nat} {f y m d : Int} (Y : Yr W p f y m d) (hb : Below W.heap.size W W') : Yr W' p f y m d := by
  obtain ⟨hK, c0, ⟨c1, c2, c3⟩, ⟨c4, c5, c6⟩, hz⟩ := Y
  have g : ∀ o, W'.cell? ⟨p, o, none⟩ = W.cell? ⟨p, o, none⟩ := fun o => hb.cell (p := ⟨p, o, none⟩) hz
  exact ⟨hK.below hb, (g _).trans c0, ⟨(g _).trans c1, (g _).trans c2, (g _).trans c3⟩, ⟨(g _).trans c4, (g _).trans c5, (g _).trans c6⟩, by have := hb.size; omega⟩
/-- a year's days, held while something is asked -/
def YS (w0 : World) (p : Nat) (f y m d : Int) (W : World) : Prop := W.cell? ⟨p, 1, none⟩ = some (.int .i64 y) ∧ W.cell? ⟨p, 2, none⟩ = some (.int .i64 m) ∧ W.cell? ⟨p, 3, none⟩ = some (.int .i64 d) ∧
  W.cell? ⟨p, 4, none⟩ = some (.int .i64 (yOf (yend y m d))) ∧ W.cell? ⟨p, 5, none⟩ = some (.int .i64 (mOf (yend y m d))) ∧ W.cell? ⟨p, 6, none⟩ = some (.int .i64 (dOf (yend y m d))) ∧ Yr W p f y m d ∧ Below w0.heap.size w0 W
theorem YS.of {w0 : World} {p : Nat} {f y m d : Int} {W : World} (Y : Yr W p f y m d) (hb : Below w0.heap.size w0 W) : YS w0 p f y m d W := by
  obtain ⟨hK, c0, ⟨c1, c2, c3⟩, ⟨c4, c5, c6⟩, hz⟩ := Y
  exact ⟨c1, c2, c3, c4, c5, c6, ⟨hK, c0, ⟨c1, c2, c3⟩, ⟨c4, c5, c6⟩, hz⟩, hb⟩
theorem YS.step {w0 : World} {p : Nat} {f y m d : Int} {W W' : World} (hb : Below W.heap.size W W') (S : YS w0 p f y m d W) : YS w0 p f y m d W' :=
  YS.of (S.2.2.2.2.2.2.1.below hb) (below_step S.2.2.2.2.2.2.2 hb S.2.2.2.2.2.2.2.size)
theorem YS.drew {w0 : World} {p : Nat} {f y m d : Int} {W : World} (S : YS w0 p f y m d W) : YS w0 p f y m d W.drew := S.step (Below.refl _ _).drew

theorem end_day {y m d : Int} (h : yrB y m d = true) : dayB (yOf (yend y m d)) (mOf (yend y m d)) (dOf (yend y m d)) = true ∧ num (yOf (yend y m d)) (mOf (yend y m d)) (dOf (yend y m d)) = yend y m d ∧ 0 ≤ yend y m d ∧ yend y m d < 109572 := by
  have hm := (dayB_yes (yrB_yes h).1).2.2.1
  have hl := year_bd (y := y) (d := d) hm
  obtain ⟨n1, n2, n3, n4⟩ := num_bd (next_day h)
  obtain ⟨_, _, k3, k4⟩ := num_bd (yrB_yes h).1
  have e : yend y m d = num (y + 1) m d - 1 := rfl
  have hb := of_bd (yend y m d) (by omega) (by omega)
  exact ⟨hb.1, hb.2, by omega, by omega⟩
set_option maxHeartbeats 1000000 in
theorem count_any (p : Nat) (f y m d : Int) (W : World) (Y : Yr W p f y m d) (h : yrB y m d = true) (hf : 1 ≤ f) (hf' : f ≤ 4) : Calls Tryd.prog 35 #[.pointer (some ⟨p, 0, none⟩)] W fun e w' => e = .returned (.int .i64 (cnt f y m d)) ∧ Below W.heap.size W w' := by
  obtain ⟨e1, e2, e3, e4⟩ := end_day h
  have hbt := between_yes y m d _ _ _ (yrB_yes h).1 e1
  rw [e2] at hbt
  have hm := (dayB_yes (yrB_yes h).1).2.2.1
  have hl := year_bd (y := y) (d := d) hm
  have Y0 := YS.of (w0 := W) Y (Below.refl _ _)
  have Y1 := Y0.drew
  obtain ⟨⟨k3, k4, k5, k6, k7, k8, k9, k10, k11, k12, k13, k14, hz⟩, c0, ⟨c1, c2, c3⟩, ⟨c4, c5, c6⟩, hp⟩ := Y
  have hq : 364 ≤ yend y m d - num y m d ∧ yend y m d - num y m d ≤ 365 := by omega
  obtain ⟨hq1, hq2⟩ := hq
  clear e1 e2 e3 e4 hl hm h
  rcases freq_cases hf hf' with rfl | rfl | rfl | rfl
  · go_enter Tryd.func35, Tryd.ntmps35
    go_wp2
    go_region_held3 (fun w' => w'.cell? ⟨p, 1, none⟩ = some (.int .i64 y) ∧ w'.cell? ⟨p, 2, none⟩ = some (.int .i64 m) ∧ w'.cell? ⟨p, 3, none⟩ = some (.int .i64 d) ∧ w'.cell? ⟨p, 4, none⟩ = some (.int .i64 (yOf (yend y m d))) ∧ w'.cell? ⟨p, 5, none⟩ = some (.int .i64 (mOf (yend y m d))) ∧ w'.cell? ⟨p, 6, none⟩ = some (.int .i64 (dOf (yend y m d))) ∧ Yr w' p 1 y m d ∧ Below W.heap.size W w') ((first | exact Y1 | exact YS.step hb (by assumption)))
      (first | (go_at_call 22; refine (hbt _).mono ?_; rintro e w2 ⟨rfl, hb⟩))
    rename_i hH
    have hB := hH.2.2.2.2.2.2.2
    clear hH hb
    go_wp2
    go_ret
    exact ⟨ret_i (by simp [cnt, pd]), hB⟩
  · go_enter Tryd.func35, Tryd.ntmps35
    go_wp2
    go_region_held3 (fun w' => w'.cell? ⟨p, 1, none⟩ = some (.int .i64 y) ∧ w'.cell? ⟨p, 2, none⟩ = some (.int .i64 m) ∧ w'.cell? ⟨p, 3, none⟩ = some (.int .i64 d) ∧ w'.cell? ⟨p, 4, none⟩ = some (.int .i64 (yOf (yend y m d))) ∧ w'.cell? ⟨p, 5, none⟩ = some (.int .i64 (mOf (yend y m d))) ∧ w'.cell? ⟨p, 6, none⟩ = some (.int .i64 (dOf (yend y m d))) ∧ Yr w' p 2 y m d ∧ Below W.heap.size W w') ((first | exact Y1 | exact YS.step hb (by assumption)))
      (first | (go_at_call 22; refine (hbt _).mono ?_; rintro e w2 ⟨rfl, hb⟩))
    rename_i hH
    have hB := hH.2.2.2.2.2.2.2
    clear hH hb
    go_wp2
    go_ret
    exact ⟨ret_i (by simp [cnt, pd]), hB⟩
  · go_enter Tryd.func35, Tryd.ntmps35
    go_wp2
    go_region_held3 (fun w' => w'.cell? ⟨p, 1, none⟩ = some (.int .i64 y) ∧ w'.cell? ⟨p, 2, none⟩ = some (.int .i64 m) ∧ w'.cell? ⟨p, 3, none⟩ = some (.int .i64 d) ∧ w'.cell? ⟨p, 4, none⟩ = some (.int .i64 (yOf (yend y m d))) ∧ w'.cell? ⟨p, 5, none⟩ = some (.int .i64 (mOf (yend y m d))) ∧ w'.cell? ⟨p, 6, none⟩ = some (.int .i64 (dOf (yend y m d))) ∧ Yr w' p 3 y m d ∧ Below W.heap.size W w') ((first | exact Y1 | exact YS.step hb (by assumption)))
      (first | (go_at_call 22; refine (hbt _).mono ?_; rintro e w2 ⟨rfl, hb⟩))
    rename_i hH
    have hB := hH.2.2.2.2.2.2.2
    clear hH hb
    go_wp2
    go_ret
    exact ⟨ret_i (by simp [cnt, pd]), hB⟩
  · go_enter Tryd.func35, Tryd.ntmps35
    go_wp2
    go_ret
    exact ⟨rfl, Below.refl _ _⟩
theorem eve_any (y m d : Int) (h : dayB y m d = true) (h1 : 1 ≤ num y m d) (w : World) : Calls Tryd.prog 59 #[.agg #[.int .i64 y, .int .i64 m, .int .i64 d]] w fun e w' => e = .returned (.agg #[.int .i64 (yOf (num y m d - 1)), .int .i64 (mOf (num y m d - 1)), .int .i64 (dOf (num y m d - 1))]) ∧ Below w.heap.size w w' := by
  obtain ⟨_, _, n3, n4⟩ := num_bd h
  have ha := add_yes y m d (-1) h (by omega) (by omega)
  rw [show num y m d + -1 = num y m d - 1 by omega] at ha
  clear h h1
  generalize num y m d - 1 = n at *
  have T0 := two_new w y m d 23 23
  have B0 := two_base w #[.int .i64 y, .int .i64 m, .int .i64 d] #[.int .i64 0, .int .i64 0, .int .i64 0] 23 23
  obtain ⟨⟨a0, a1, a2⟩, _⟩ := id T0
  go_enter Tryd.func59, Tryd.ntmps59
  go_wp2_with (fail)
  refine (ha _).mono ?_
  rintro e w1 ⟨rfl, hb⟩
  have T1 := T0.below hb
  obtain ⟨⟨c0, c1, c2⟩, ⟨r0, r1, r2⟩, ⟨f0, f1, f2⟩, hz⟩ := id T1
  have B1 := below_step B0 hb (by simp; omega)
  have B2 := B1.alloc (o := .cells #[.int .i64 (yOf n), .int .i64 (mOf n), .int .i64 (dOf n)] 23) (by omega)
  have N2 := day_new w1 (yOf n) (mOf n) (dOf n) 23
  have T2 := T1.below (W' := w1.alloc (.cells #[.int .i64 (yOf n), .int .i64 (mOf n), .int .i64 (dOf n)] 23)) ((Below.refl _ _).alloc (Nat.le_refl _) _)
  obtain ⟨n0, n1, n2⟩ := N2
  obtain ⟨⟨d0, d1, d2⟩, ⟨s0, s1, s2⟩, ⟨g0, g1, g2⟩, hz2⟩ := id T2
  clear hb T0 B0 a0 a1 a2
  go_wp2
  exact bodyPost_ret (v := .agg #[.int .i64 (yOf n), .int .i64 (mOf n), .int .i64 (dOf n)]) (by simp [results, Tryd.results59, go_sem, hz, r0, r1, r2, World.cell?_alloc_lt]) rfl ⟨rfl, (((B1.setCell (by simp) _).setCell (by simp) _).setCell (by simp) _).alloc (by simp; omega) _⟩
end Go.Proofs.YtkgfmanolanlhaaDoor
