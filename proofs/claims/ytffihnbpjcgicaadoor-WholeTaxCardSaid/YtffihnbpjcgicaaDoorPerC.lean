/- Merged: PerA, PerB, PerC. -/
import Derived.Test.YtffihnbpjcgicaaDoorDateE
import Derived.Test.YtffihnbpjcgicaaDoorPer
import Derived.Deep.LoopGhost
import Derived.Deep.RegionWith
/- What the calls of period answer that a year's parts hang on: the table of frequencies, a year where it lies, Count, begin. -/
namespace Go.Proofs.YtffihnbpjcgicaaDoor
open Go.RowKit
set_option linter.unusedVariables false
set_option linter.unusedSimpArgs false

/-- the table of the frequencies lies as the program's text lays it -/
def Kinds (w : World) : Prop := w.cell? ⟨0, 3, none⟩ = some (.string ⟨#[119, 101, 101, 107, 108, 121]⟩) ∧ w.cell? ⟨0, 4, none⟩ = some (.int .i64 52) ∧ w.cell? ⟨0, 5, none⟩ = some (.int .i64 7) ∧ w.cell? ⟨0, 6, none⟩ = some (.string ⟨#[102, 111, 114, 116, 110, 105, 103, 104, 116, 108, 121]⟩) ∧ w.cell? ⟨0, 7, none⟩ = some (.int .i64 26) ∧ w.cell? ⟨0, 8, none⟩ = some (.int .i64 14) ∧ w.cell? ⟨0, 9, none⟩ = some (.string ⟨#[102, 111, 117, 114, 119, 101, 101, 107, 108, 121]⟩) ∧ w.cell? ⟨0, 10, none⟩ = some (.int .i64 13) ∧ w.cell? ⟨0, 11, none⟩ = some (.int .i64 28) ∧ w.cell? ⟨0, 12, none⟩ = some (.string ⟨#[109, 111, 110, 116, 104, 108, 121]⟩) ∧ w.cell? ⟨0, 13, none⟩ = some (.int .i64 12) ∧ w.cell? ⟨0, 14, none⟩ = some (.int .i64 0) ∧ 0 < w.heap.size
theorem Kinds.below {w w' : World} (h : Kinds w) (hb : Below w.heap.size w w') : Kinds w' := by
  obtain ⟨k3, k4, k5, k6, k7, k8, k9, k10, k11, k12, k13, k14, hz⟩ := h
  have g : ∀ o, w'.cell? ⟨0, o, none⟩ = w.cell? ⟨0, o, none⟩ := fun o => hb.cell (p := ⟨0, o, none⟩) hz
  exact ⟨(g _).trans k3, (g _).trans k4, (g _).trans k5, (g _).trans k6, (g _).trans k7, (g _).trans k8, (g _).trans k9, (g _).trans k10, (g _).trans k11, (g _).trans k12, (g _).trans k13, (g _).trans k14, by have := hb.size; omega⟩

theorem known_yes (f : Int) (h : 1 ≤ f) (h' : f ≤ 4) (w : World) : Calls Tryd.prog 70 #[.int .i64 f] w fun e w' => e = .returned (.bool true) ∧ w = w' := by
  go_enter Tryd.func70, Tryd.ntmps70
  go_wp2
  go_ret
  exact ⟨rfl, rfl⟩
theorem known_no (f : Int) (h : f < 1 ∨ 4 < f) (w : World) : Calls Tryd.prog 70 #[.int .i64 f] w fun e w' => e = .returned (.bool false) ∧ w = w' := by
  rcases h with h | h
  · have h' : ¬ 1 ≤ f := by omega
    go_enter Tryd.func70, Tryd.ntmps70
    go_wp2
    go_ret
    exact ⟨rfl, rfl⟩
  · have h1 : 1 ≤ f := by omega
    have h' : ¬ f ≤ 4 := by omega
    go_enter Tryd.func70, Tryd.ntmps70
    go_wp2
    go_ret
    exact ⟨ret_b (by simp; try omega), rfl⟩
/-- how many whole periods a year has -/
def nom (f : Int) : Int := if f = 1 then 52 else if f = 2 then 26 else if f = 3 then 13 else if f = 4 then 12 else 0
theorem nominal_any (f : Int) (w : World) (hK : Kinds w) : Calls Tryd.prog 148 #[.int .i64 f] w fun e w' => e = .returned (.int .i64 (nom f)) ∧ w = w' := by
  by_cases h : 1 ≤ f ∧ f ≤ 4
  · have hc := known_yes f h.1 h.2
    obtain ⟨k3, k4, k5, k6, k7, k8, k9, k10, k11, k12, k13, k14, hz⟩ := hK
    rcases freq_cases h.1 h.2 with rfl | rfl | rfl | rfl
    all_goals
      clear h
      go_enter Tryd.func148, Tryd.ntmps148
      go_wp2_with (fail)
      refine (hc _).mono ?_
      rintro e w' ⟨rfl, rfl⟩
      go_wp2
      go_ret
      exact ⟨rfl, rfl⟩
  · have hc := known_no f (by omega)
    have e : nom f = 0 := by unfold nom; rw [if_neg (by omega), if_neg (by omega), if_neg (by omega), if_neg (by omega)]
    rw [e]
    clear h e hK
    go_enter Tryd.func148, Tryd.ntmps148
    go_wp2_with (fail)
    refine (hc _).mono ?_
    rintro e w' ⟨rfl, rfl⟩
    go_wp2
    go_ret
    exact ⟨rfl, rfl⟩

/-- a year in memory: its frequency, its first day, its last one -/
def Yr (W : World) (p : Nat) (f y m d : Int) : Prop := Kinds W ∧ W.cell? ⟨p, 0, none⟩ = some (.int .i64 f) ∧ (W.cell? ⟨p, 1, none⟩ = some (.int .i64 y) ∧ W.cell? ⟨p, 2, none⟩ = some (.int .i64 m) ∧ W.cell? ⟨p, 3, none⟩ = some (.int .i64 d)) ∧
  (W.cell? ⟨p, 4, none⟩ = some (.int .i64 (yOf (yend y m d))) ∧ W.cell? ⟨p, 5, none⟩ = some (.int .i64 (mOf (yend y m d))) ∧ W.cell? ⟨p, 6, none⟩ = some (.int .i64 (dOf (yend y m d)))) ∧ p < W.heap.size
theorem Yr.below {W W' : World} {p : Nat} {f y m d : Int} (Y : Yr W p f y m d) (hb : Below W.heap.size W W') : Yr W' p f y m d := by
  obtain ⟨hK, c0, ⟨c1, c2, c3⟩, ⟨c4, c5, c6⟩, hz⟩ := Y
  have g : ∀ o, W'.cell? ⟨p, o, none⟩ = W.cell? ⟨p, o, none⟩ := fun o => hb.cell (p := ⟨p, o, none⟩) hz
  exact ⟨hK.below hb, (g _).trans c0, ⟨(g _).trans c1, (g _).trans c2, (g _).trans c3⟩, ⟨(g _).trans c4, (g _).trans c5, (g _).trans c6⟩, by have := hb.size; omega⟩
/-- a year's days, held while something is asked -/
def YS (w0 : World) (p : Nat) (f y m d : Int) (W : World) : Prop := W.cell? ⟨p, 1, none⟩ = some (.int .i64 y) ∧ W.cell? ⟨p, 2, none⟩ = some (.int .i64 m) ∧ W.cell? ⟨p, 3, none⟩ = some (.int .i64 d) ∧
  W.cell? ⟨p, 4, none⟩ = some (.int .i64 (yOf (yend y m d))) ∧ W.cell? ⟨p, 5, none⟩ = some (.int .i64 (mOf (yend y m d))) ∧ W.cell? ⟨p, 6, none⟩ = some (.int .i64 (dOf (yend y m d))) ∧ Yr W p f y m d ∧ Below w0.heap.size w0 W
theorem YS.of {w0 : World} {p : Nat} {f y m d : Int} {W : World} (Y : Yr W p f y m d) (hb : Below w0.heap.size w0 W) : YS w0 p f y m d W := by
  obtain ⟨hK, c0, ⟨c1, c2, c3⟩, ⟨c4, c5, c6⟩, hz⟩ := Y
  exact ⟨c1, c2, c3, c4, c5, c6, ⟨hK, c0, ⟨c1, c2, c3⟩, ⟨c4, c5, c6⟩, hz⟩, hb⟩
theorem YS.step {w0 : World} {p : Nat} {f y m d : Int} {W W' : World} (hb : Below W.heap.size W W') (S : YS w0 p f y m d W) : YS w0 p f y m d W' :=
  YS.of (S.2.2.2.2.2.2.1.below hb) (below_step S.2.2.2.2.2.2.2 hb S.2.2.2.2.2.2.2.size)
theorem YS.drew {w0 : World} {p : Nat} {f y m d : Int} {W : World} (S : YS w0 p f y m d W) : YS w0 p f y m d W.drew := S.step (Below.refl _ _).drew

theorem end_day {y m d : Int} (h : yrB y m d = true) : dayB (yOf (yend y m d)) (mOf (yend y m d)) (dOf (yend y m d)) = true ∧ num (yOf (yend y m d)) (mOf (yend y m d)) (dOf (yend y m d)) = yend y m d ∧ 0 ≤ yend y m d ∧ yend y m d < 109572 := by
  have hm := (dayB_yes (yrB_yes h).1).2.2.1
  have hl := year_bd (y := y) (d := d) hm
  obtain ⟨n1, n2, n3, n4⟩ := num_bd (next_day h)
  obtain ⟨_, _, k3, k4⟩ := num_bd (yrB_yes h).1
  have e : yend y m d = num (y + 1) m d - 1 := rfl
  have hb := of_bd (yend y m d) (by omega) (by omega)
  exact ⟨hb.1, hb.2, by omega, by omega⟩
set_option maxHeartbeats 1000000 in
theorem count_any (p : Nat) (f y m d : Int) (W : World) (Y : Yr W p f y m d) (h : yrB y m d = true) (hf : 1 ≤ f) (hf' : f ≤ 4) : Calls Tryd.prog 75 #[.pointer (some ⟨p, 0, none⟩)] W fun e w' => e = .returned (.int .i64 (cnt f y m d)) ∧ Below W.heap.size W w' := by
  obtain ⟨e1, e2, e3, e4⟩ := end_day h
  have hbt := between_yes y m d _ _ _ (yrB_yes h).1 e1
  rw [e2] at hbt
  have hm := (dayB_yes (yrB_yes h).1).2.2.1
  have hl := year_bd (y := y) (d := d) hm
  have Y0 := YS.of (w0 := W) Y (Below.refl _ _)
  have Y1 := Y0.drew
  obtain ⟨⟨k3, k4, k5, k6, k7, k8, k9, k10, k11, k12, k13, k14, hz⟩, c0, ⟨c1, c2, c3⟩, ⟨c4, c5, c6⟩, hp⟩ := Y
  have hq : 364 ≤ yend y m d - num y m d ∧ yend y m d - num y m d ≤ 365 := by omega
  obtain ⟨hq1, hq2⟩ := hq
  clear e1 e2 e3 e4 hl hm h
  rcases freq_cases hf hf' with rfl | rfl | rfl | rfl
  · go_enter Tryd.func75, Tryd.ntmps75
    go_wp2
    go_region_held3 (fun w' => w'.cell? ⟨p, 1, none⟩ = some (.int .i64 y) ∧ w'.cell? ⟨p, 2, none⟩ = some (.int .i64 m) ∧ w'.cell? ⟨p, 3, none⟩ = some (.int .i64 d) ∧ w'.cell? ⟨p, 4, none⟩ = some (.int .i64 (yOf (yend y m d))) ∧ w'.cell? ⟨p, 5, none⟩ = some (.int .i64 (mOf (yend y m d))) ∧ w'.cell? ⟨p, 6, none⟩ = some (.int .i64 (dOf (yend y m d))) ∧ Yr w' p 1 y m d ∧ Below W.heap.size W w') ((first | exact Y1 | exact YS.step hb (by assumption)))
      (first | (go_at_call 107; refine (hbt _).mono ?_; rintro e w2 ⟨rfl, hb⟩))
    rename_i hH
    have hB := hH.2.2.2.2.2.2.2
    clear hH hb
    go_wp2
    go_ret
    exact ⟨ret_i (by simp [cnt, pd]), hB⟩
  · go_enter Tryd.func75, Tryd.ntmps75
    go_wp2
    go_region_held3 (fun w' => w'.cell? ⟨p, 1, none⟩ = some (.int .i64 y) ∧ w'.cell? ⟨p, 2, none⟩ = some (.int .i64 m) ∧ w'.cell? ⟨p, 3, none⟩ = some (.int .i64 d) ∧ w'.cell? ⟨p, 4, none⟩ = some (.int .i64 (yOf (yend y m d))) ∧ w'.cell? ⟨p, 5, none⟩ = some (.int .i64 (mOf (yend y m d))) ∧ w'.cell? ⟨p, 6, none⟩ = some (.int .i64 (dOf (yend y m d))) ∧ Yr w' p 2 y m d ∧ Below W.heap.size W w') ((first | exact Y1 | exact YS.step hb (by assumption)))
      (first | (go_at_call 107; refine (hbt _).mono ?_; rintro e w2 ⟨rfl, hb⟩))
    rename_i hH
    have hB := hH.2.2.2.2.2.2.2
    clear hH hb
    go_wp2
    go_ret
    exact ⟨ret_i (by simp [cnt, pd]), hB⟩
  · go_enter Tryd.func75, Tryd.ntmps75
    go_wp2
    go_region_held3 (fun w' => w'.cell? ⟨p, 1, none⟩ = some (.int .i64 y) ∧ w'.cell? ⟨p, 2, none⟩ = some (.int .i64 m) ∧ w'.cell? ⟨p, 3, none⟩ = some (.int .i64 d) ∧ w'.cell? ⟨p, 4, none⟩ = some (.int .i64 (yOf (yend y m d))) ∧ w'.cell? ⟨p, 5, none⟩ = some (.int .i64 (mOf (yend y m d))) ∧ w'.cell? ⟨p, 6, none⟩ = some (.int .i64 (dOf (yend y m d))) ∧ Yr w' p 3 y m d ∧ Below W.heap.size W w') ((first | exact Y1 | exact YS.step hb (by assumption)))
      (first | (go_at_call 107; refine (hbt _).mono ?_; rintro e w2 ⟨rfl, hb⟩))
    rename_i hH
    have hB := hH.2.2.2.2.2.2.2
    clear hH hb
    go_wp2
    go_ret
    exact ⟨ret_i (by simp [cnt, pd]), hB⟩
  · go_enter Tryd.func75, Tryd.ntmps75
    go_wp2
    go_ret
    exact ⟨rfl, Below.refl _ _⟩
theorem eve_any (y m d : Int) (h : dayB y m d = true) (h1 : 1 ≤ num y m d) (w : World) : Calls Tryd.prog 72 #[.agg #[.int .i64 y, .int .i64 m, .int .i64 d]] w fun e w' => e = .returned (.agg #[.int .i64 (yOf (num y m d - 1)), .int .i64 (mOf (num y m d - 1)), .int .i64 (dOf (num y m d - 1))]) ∧ Below w.heap.size w w' := by
  obtain ⟨_, _, n3, n4⟩ := num_bd h
  have ha := add_yes y m d (-1) h (by omega) (by omega)
  rw [show num y m d + -1 = num y m d - 1 by omega] at ha
  clear h h1
  generalize num y m d - 1 = n at *
  have T0 := two_new w y m d 79 79
  have B0 := two_base w #[.int .i64 y, .int .i64 m, .int .i64 d] #[.int .i64 0, .int .i64 0, .int .i64 0] 79 79
  obtain ⟨⟨a0, a1, a2⟩, _⟩ := id T0
  go_enter Tryd.func72, Tryd.ntmps72
  go_wp2_with (fail)
  refine (ha _).mono ?_
  rintro e w1 ⟨rfl, hb⟩
  have T1 := T0.below hb
  obtain ⟨⟨c0, c1, c2⟩, ⟨r0, r1, r2⟩, ⟨f0, f1, f2⟩, hz⟩ := id T1
  have B1 := below_step B0 hb (by simp; omega)
  have B2 := B1.alloc (o := .cells #[.int .i64 (yOf n), .int .i64 (mOf n), .int .i64 (dOf n)] 79) (by omega)
  have N2 := day_new w1 (yOf n) (mOf n) (dOf n) 79
  have T2 := T1.below (W' := w1.alloc (.cells #[.int .i64 (yOf n), .int .i64 (mOf n), .int .i64 (dOf n)] 79)) ((Below.refl _ _).alloc (Nat.le_refl _) _)
  obtain ⟨n0, n1, n2⟩ := N2
  obtain ⟨⟨d0, d1, d2⟩, ⟨s0, s1, s2⟩, ⟨g0, g1, g2⟩, hz2⟩ := id T2
  clear hb T0 B0 a0 a1 a2
  go_wp2
  exact bodyPost_ret (v := .agg #[.int .i64 (yOf n), .int .i64 (mOf n), .int .i64 (dOf n)]) (by simp [results, Tryd.results72, go_sem, hz, r0, r1, r2, World.cell?_alloc_lt]) rfl ⟨rfl, (((B1.setCell (by simp) _).setCell (by simp) _).setCell (by simp) _).alloc (by simp; omega) _⟩
end Go.Proofs.YtffihnbpjcgicaaDoor

/- What the calls of period answer: begin, Span. -/
namespace Go.Proofs.YtffihnbpjcgicaaDoor
open Go.RowKit
set_option linter.unusedVariables false
set_option linter.unusedSimpArgs false

theorem mt_in {y m k : Int} (hy : 1900 ≤ y) (hy' : y ≤ 2198) (hm : 1 ≤ m) (hm' : m ≤ 12) (hk : 0 ≤ k) (hk' : k ≤ 12) : mtB (mt y m k) = true := by
  unfold mtB mt
  rw [decide_eq_true_eq]
  omega
theorem pb_month {y m d k : Int} (h : yrB y m d = true) (hk : 1 ≤ k) (hk' : k ≤ 12) : yM (mt y m (k - 1)) = yOf (pb 4 y m d k) ∧ mM (mt y m (k - 1)) = mOf (pb 4 y m d k) ∧ dM (mt y m (k - 1)) d = dOf (pb 4 y m d k) := by
  obtain ⟨h0, h1, h2⟩ := yrB_yes h
  obtain ⟨a1, a2, a3, a4, a5, a6⟩ := dayB_yes h0
  have e : pb 4 y m d k = num (yM (mt y m (k - 1))) (mM (mt y m (k - 1))) (dM (mt y m (k - 1)) d) := by unfold pb; rw [if_pos rfl]
  rw [e]
  obtain ⟨a, b, c⟩ := of_num (months_day (d := d) (mt_in (k := k - 1) a1 h1 a3 a4 (by omega) (by omega)) a5)
  exact ⟨a.symm, b.symm, c.symm⟩
/-- a result's place, fresh and free -/
def Slot (W : World) (r : Nat) : Prop := Day W r 0 0 0 ∧ Free_DateB W r ∧ r < W.heap.size
theorem Slot.below {W W' : World} {r : Nat} (S : Slot W r) (hb : Below W.heap.size W W') : Slot W' r := ⟨S.1.below hb S.2.2, S.2.1.below hb S.2.2, by have := S.2.2; have := hb.size; omega⟩
theorem slot_new (W : World) (t : TypeId) : Slot (W.alloc (.cells #[.int .i64 0, .int .i64 0, .int .i64 0] t)) W.heap.size := ⟨day_new W 0 0 0 t, free_new_DateB W _ t, by simp⟩
end Go.Proofs.YtffihnbpjcgicaaDoor

/- What the calls of period answer: Span of the last period, sort.Search, Index. -/
namespace Go.Proofs.YtffihnbpjcgicaaDoor
open Go.RowKit
set_option linter.unusedVariables false
set_option linter.unusedSimpArgs false

def atk (W : World) (b k : Nat) : Value := (W.cell? ⟨b, k, none⟩).getD undef
theorem atk_of {W : World} {b k : Nat} {v : Value} (h : W.cell? ⟨b, k, none⟩ = some v) : W.cell? ⟨b, k, none⟩ = some (atk W b k) := by unfold atk; rw [h]; rfl
/-- a year's last day, and two results' places, held while a period's beginning is asked -/
def SL (w : World) (p : Nat) (f y m d : Int) (W : World) : Prop := W.cell? ⟨p, 4, none⟩ = some (.int .i64 (yOf (yend y m d))) ∧ W.cell? ⟨p, 5, none⟩ = some (.int .i64 (mOf (yend y m d))) ∧ W.cell? ⟨p, 6, none⟩ = some (.int .i64 (dOf (yend y m d))) ∧
  W.cell? ⟨w.heap.size, 0, none⟩ = some (atk W w.heap.size 0) ∧ W.cell? ⟨w.heap.size, 1, none⟩ = some (atk W w.heap.size 1) ∧ W.cell? ⟨w.heap.size, 2, none⟩ = some (atk W w.heap.size 2) ∧
  W.cell? ⟨w.heap.size + 1, 0, none⟩ = some (atk W (w.heap.size + 1) 0) ∧ W.cell? ⟨w.heap.size + 1, 1, none⟩ = some (atk W (w.heap.size + 1) 1) ∧ W.cell? ⟨w.heap.size + 1, 2, none⟩ = some (atk W (w.heap.size + 1) 2) ∧
  W.frozen? ⟨w.heap.size, 0, none⟩ = false ∧ W.frozen? ⟨w.heap.size, 1, none⟩ = false ∧ W.frozen? ⟨w.heap.size, 2, none⟩ = false ∧ W.frozen? ⟨w.heap.size + 1, 0, none⟩ = false ∧ W.frozen? ⟨w.heap.size + 1, 1, none⟩ = false ∧ W.frozen? ⟨w.heap.size + 1, 2, none⟩ = false ∧
  Yr W p f y m d ∧ Below w.heap.size w W ∧ w.heap.size + 1 < W.heap.size ∧ p < w.heap.size ∧ 0 < w.heap.size
theorem Yr.slot {W W' : World} {p : Nat} {f y m d : Int} (Y : Yr W p f y m d) (hg : ∀ b o, b = p ∨ b = 0 → W'.cell? ⟨b, o, none⟩ = W.cell? ⟨b, o, none⟩) (hs : W'.heap.size = W.heap.size) : Yr W' p f y m d := by
  obtain ⟨⟨k3, k4, k5, k6, k7, k8, k9, k10, k11, k12, k13, k14, hgz⟩, c0, ⟨c1, c2, c3⟩, ⟨c4, c5, c6⟩, hz⟩ := Y
  exact ⟨⟨(hg _ _ (.inr rfl)).trans k3, (hg _ _ (.inr rfl)).trans k4, (hg _ _ (.inr rfl)).trans k5, (hg _ _ (.inr rfl)).trans k6, (hg _ _ (.inr rfl)).trans k7, (hg _ _ (.inr rfl)).trans k8, (hg _ _ (.inr rfl)).trans k9, (hg _ _ (.inr rfl)).trans k10, (hg _ _ (.inr rfl)).trans k11, (hg _ _ (.inr rfl)).trans k12, (hg _ _ (.inr rfl)).trans k13, (hg _ _ (.inr rfl)).trans k14, by omega⟩, (hg _ _ (.inl rfl)).trans c0, ⟨(hg _ _ (.inl rfl)).trans c1, (hg _ _ (.inl rfl)).trans c2, (hg _ _ (.inl rfl)).trans c3⟩, ⟨(hg _ _ (.inl rfl)).trans c4, (hg _ _ (.inl rfl)).trans c5, (hg _ _ (.inl rfl)).trans c6⟩, by omega⟩
theorem SL.step {w : World} {p : Nat} {f y m d : Int} {W W' : World} (hb : Below W.heap.size W W') (S : SL w p f y m d W) : SL w p f y m d W' := by
  obtain ⟨m0, m1, m2, a0, a1, a2, b0, b1, b2, f0, f1, f2, g0, g1, g2, Y, hB, hz, hp, hk⟩ := S
  have hs := hB.size
  have g : ∀ (bb oo : Nat), bb < W.heap.size → W'.cell? ⟨bb, oo, none⟩ = W.cell? ⟨bb, oo, none⟩ := fun bb oo hl => hb.cell (p := ⟨bb, oo, none⟩) hl
  have gf : ∀ (bb oo : Nat), bb < W.heap.size → W'.frozen? ⟨bb, oo, none⟩ = W.frozen? ⟨bb, oo, none⟩ := fun bb oo hl => hb.frozen (p := ⟨bb, oo, none⟩) hl
  exact ⟨(g _ _ (by omega)).trans m0, (g _ _ (by omega)).trans m1, (g _ _ (by omega)).trans m2, atk_of ((g _ _ (by omega)).trans a0), atk_of ((g _ _ (by omega)).trans a1), atk_of ((g _ _ (by omega)).trans a2), atk_of ((g _ _ (by omega)).trans b0), atk_of ((g _ _ (by omega)).trans b1), atk_of ((g _ _ (by omega)).trans b2),
    (gf _ _ (by omega)).trans f0, (gf _ _ (by omega)).trans f1, (gf _ _ (by omega)).trans f2, (gf _ _ (by omega)).trans g0, (gf _ _ (by omega)).trans g1, (gf _ _ (by omega)).trans g2, Y.below hb, below_step hB hb (by omega), by have := hb.size; omega, hp, hk⟩
theorem SL.set {w : World} {p : Nat} {f y m d : Int} {W : World} (r k : Nat) (hr : r = w.heap.size ∨ r = w.heap.size + 1) (hk3 : k = 0 ∨ k = 1 ∨ k = 2) (v : Value) (S : SL w p f y m d W) : SL w p f y m d (W.setCell ⟨r, k, none⟩ v) := by
  obtain ⟨m0, m1, m2, a0, a1, a2, b0, b1, b2, f0, f1, f2, g0, g1, g2, Y, hB, hz, hp, hk⟩ := S
  have g : ∀ (bb oo : Nat), (bb ≠ r ∨ oo ≠ k) → (W.setCell ⟨r, k, none⟩ v).cell? ⟨bb, oo, none⟩ = W.cell? ⟨bb, oo, none⟩ := fun bb oo hne => World.cell?_setCell_other _ _ _ _ (by intro e; simp only [Addr.mk.injEq] at e; omega)
  have gs : ∀ (bb oo : Nat) (u : Value), W.cell? ⟨bb, oo, none⟩ = some u → (W.setCell ⟨r, k, none⟩ v).cell? ⟨bb, oo, none⟩ = some (atk (W.setCell ⟨r, k, none⟩ v) bb oo) := fun bb oo u hu => by
    by_cases he : bb = r ∧ oo = k
    · obtain ⟨rfl, rfl⟩ := he
      exact atk_of (World.cell?_setCell_same _ _ _ hu)
    · exact atk_of ((g _ _ (by omega)).trans hu)
  exact ⟨(g _ _ (by omega)).trans m0, (g _ _ (by omega)).trans m1, (g _ _ (by omega)).trans m2, gs _ _ _ a0, gs _ _ _ a1, gs _ _ _ a2, gs _ _ _ b0, gs _ _ _ b1, gs _ _ _ b2,
    by rw [World.frozen?_setCell]; exact f0, by rw [World.frozen?_setCell]; exact f1, by rw [World.frozen?_setCell]; exact f2, by rw [World.frozen?_setCell]; exact g0, by rw [World.frozen?_setCell]; exact g1, by rw [World.frozen?_setCell]; exact g2,
    Y.slot (fun bb oo hbb => g _ _ (by omega)) (by simp), hB.setCell (by show w.heap.size ≤ r; omega) _, by simpa using hz, hp, hk⟩
theorem SL.set3 {w : World} {p : Nat} {f y m d : Int} {W : World} (r : Nat) (hr : r = w.heap.size ∨ r = w.heap.size + 1) (x y' z : Value) (S : SL w p f y m d W) : SL w p f y m d (((W.setCell ⟨r, 0, none⟩ x).setCell ⟨r, 1, none⟩ y').setCell ⟨r, 2, none⟩ z) :=
  ((S.set r 0 hr (by omega) x).set r 1 hr (by omega) y').set r 2 hr (by omega) z
theorem SL.of {w : World} {p : Nat} {f y m d : Int} {W : World} (Y : Yr W p f y m d) (hr : Slot W w.heap.size) (hr' : Slot W (w.heap.size + 1)) (hB : Below w.heap.size w W) (hp : p < w.heap.size) (hk : 0 < w.heap.size) : SL w p f y m d W := by
  obtain ⟨a0, a1, a2⟩ := hr.1
  obtain ⟨b0, b1, b2⟩ := hr'.1
  obtain ⟨f0, f1, f2⟩ := hr.2.1
  obtain ⟨g0, g1, g2⟩ := hr'.2.1
  obtain ⟨c4, c5, c6⟩ := Y.2.2.2.1
  exact ⟨c4, c5, c6, atk_of a0, atk_of a1, atk_of a2, atk_of b0, atk_of b1, atk_of b2, f0, f1, f2, g0, g1, g2, Y, hB, hr'.2.2, hp, hk⟩
end Go.Proofs.YtffihnbpjcgicaaDoor
