/- Merged: PerE, PerF. -/
import Derived.Test.YtffihnbpjcgicaaDoorPerC
import Derived.Deep.RegionWith
/- What the calls of period answer: New, Next, Part, and a year's parts. -/
namespace Go.Proofs.YtffihnbpjcgicaaDoor
open Go.RowKit
set_option linter.unusedVariables false
set_option linter.unusedSimpArgs false

theorem new_freq (f y m d : Int) (h : f < 1 ∨ 4 < f) (w : World) : Calls Tryd.prog 29 #[.int .i64 f, .agg #[.int .i64 y, .int .i64 m, .int .i64 d]] w fun e w' => e = .returned (.tuple #[.pointer none, .int .i64 40]) ∧ Below w.heap.size w w' := by
  have hc := known_no f h
  clear h
  go_enter Tryd.func29, Tryd.ntmps29
  go_wp2_with (fail)
  refine (hc _).mono ?_
  rintro e w' ⟨rfl, rfl⟩
  go_wp2
  go_ret2
  exact ⟨rfl, (Below.refl _ _).alloc (Nat.le_refl _) _⟩
theorem new_bad (f y m d a b c : Int) (hf : 1 ≤ f) (hf' : f ≤ 4) (hm : ∀ w, Calls Tryd.prog 71 #[.agg #[.int .i64 y, .int .i64 m, .int .i64 d], .int .i64 12] w fun e w' => e = .returned (.tuple #[.agg #[.int .i64 a, .int .i64 b, .int .i64 c], .int .i64 30]) ∧ Below w.heap.size w w') (w : World) :
    Calls Tryd.prog 29 #[.int .i64 f, .agg #[.int .i64 y, .int .i64 m, .int .i64 d]] w fun e w' => e = .returned (.tuple #[.pointer none, .int .i64 30]) ∧ Below w.heap.size w w' := by
  have hc := known_yes f hf hf'
  have D0 := day_new w y m d 79
  have B0 : Below w.heap.size w (w.alloc (.cells #[.int .i64 y, .int .i64 m, .int .i64 d] 79)) := (Below.refl _ _).alloc (Nat.le_refl _) _
  clear hf hf'
  go_enter Tryd.func29, Tryd.ntmps29
  go_wp2_with (fail)
  refine (hc _).mono ?_
  rintro e w' ⟨rfl, rfl⟩
  go_wp2_with (fail)
  refine (hm _).mono ?_
  rintro e w1 ⟨rfl, hb⟩
  obtain ⟨c0, c1, c2⟩ := D0.below hb (by simp)
  have B1 := below_step B0 hb (by simp)
  have hz : w.heap.size < w1.heap.size := by have := hb.size; simp at this; omega
  clear hb D0 B0
  go_wp2
  go_ret2
  exact ⟨rfl, B1.alloc (by omega) _⟩
theorem new_29 (f y : Int) (hf : 1 ≤ f) (hf' : f ≤ 4) (h : dayB y 2 29 = true) (hy : y ≤ 2198) (w : World) :
    Calls Tryd.prog 29 #[.int .i64 f, .agg #[.int .i64 y, .int .i64 2, .int .i64 29]] w fun e w' => e = .returned (.tuple #[.pointer none, .int .i64 30]) ∧ Below w.heap.size w w' := by
  have hc := known_yes f hf hf'
  have hm := months_yes y 2 29 12 h (mt_in (dayB_yes h).1 hy (by omega) (by omega) (by omega) (by omega))
  generalize yM (mt y 2 12) = a at *
  generalize mM (mt y 2 12) = b at *
  generalize dM (mt y 2 12) 29 = c at *
  have D0 := day_new w y 2 29 79
  have B0 : Below w.heap.size w (w.alloc (.cells #[.int .i64 y, .int .i64 2, .int .i64 29] 79)) := (Below.refl _ _).alloc (Nat.le_refl _) _
  clear hf hf' h
  go_enter Tryd.func29, Tryd.ntmps29
  go_wp2_with (fail)
  refine (hc _).mono ?_
  rintro e w' ⟨rfl, rfl⟩
  go_wp2_with (fail)
  refine (hm _).mono ?_
  rintro e w1 ⟨rfl, hb⟩
  obtain ⟨c0, c1, c2⟩ := D0.below hb (by simp)
  have B1 := below_step B0 hb (by simp)
  have hz : w.heap.size < w1.heap.size := by have := hb.size; simp at this; omega
  clear hb D0 B0
  go_wp2
  go_ret2
  exact ⟨rfl, B1.alloc (by omega) _⟩
theorem new_date (f y m d : Int) (hf : 1 ≤ f) (hf' : f ≤ 4) (h : yrB y m d = false) (w : World) : Calls Tryd.prog 29 #[.int .i64 f, .agg #[.int .i64 y, .int .i64 m, .int .i64 d]] w fun e w' => e = .returned (.tuple #[.pointer none, .int .i64 30]) ∧ Below w.heap.size w w' := by
  cases hd : dayB y m d
  · exact new_bad f y m d 0 0 0 hf hf' (months_no y m d 12 hd) w
  obtain ⟨a1, a2, a3, a4, a5, a6⟩ := dayB_yes hd
  by_cases hy : y ≤ 2198
  · have h29 : m = 2 ∧ d = 29 := by
      rcases Decidable.em (m = 2 ∧ d = 29) with q | q
      · exact q
      · rw [yrB_mk hd hy q] at h
        exact Bool.noConfusion h
    obtain ⟨rfl, rfl⟩ := h29
    exact new_29 f y hf hf' hd hy w
  · exact new_bad f y m d 0 0 0 hf hf' (months_out y m d 12 hd (by omega) (by omega) (by unfold mtB mt; rw [decide_eq_false_iff_not]; omega)) w

/-- a new year in memory -/
def NewP (f y m d : Int) (w : World) (e : Ending) (w' : World) : Prop := ∃ p : Nat, e = .returned (.tuple #[.pointer (some ⟨p, 0, none⟩), .int .i64 0]) ∧ w.heap.size ≤ p ∧ Yr w' p f y m d ∧ Below w.heap.size w w'
/-- two days in their places, held while something is asked -/
def NS (w : World) (y m d y' m' d' : Int) (b6 : Nat) (W : World) : Prop := W.cell? ⟨w.heap.size, 0, none⟩ = some (.int .i64 y) ∧ W.cell? ⟨w.heap.size, 1, none⟩ = some (.int .i64 m) ∧ W.cell? ⟨w.heap.size, 2, none⟩ = some (.int .i64 d) ∧
  W.cell? ⟨b6, 0, none⟩ = some (.int .i64 y') ∧ W.cell? ⟨b6, 1, none⟩ = some (.int .i64 m') ∧ W.cell? ⟨b6, 2, none⟩ = some (.int .i64 d') ∧ Kinds W ∧ Below w.heap.size w W ∧ w.heap.size < W.heap.size ∧ b6 < W.heap.size
theorem NS.step {w : World} {y m d y' m' d' : Int} {b6 : Nat} {W W' : World} (hb : Below W.heap.size W W') (S : NS w y m d y' m' d' b6 W) : NS w y m d y' m' d' b6 W' := by
  obtain ⟨h0, h1, h2, h3, h4, h5, K, hB, z1, z2⟩ := S
  have hs := hB.size
  have g : ∀ (bb oo : Nat), bb < W.heap.size → W'.cell? ⟨bb, oo, none⟩ = W.cell? ⟨bb, oo, none⟩ := fun bb oo hl => hb.cell (p := ⟨bb, oo, none⟩) hl
  exact ⟨(g _ _ z1).trans h0, (g _ _ z1).trans h1, (g _ _ z1).trans h2, (g _ _ z2).trans h3, (g _ _ z2).trans h4, (g _ _ z2).trans h5, K.below hb, below_step hB hb hs, by have := hb.size; omega, by have := hb.size; omega⟩
theorem yr_new (W : World) (f y m d : Int) (t : TypeId) (hK : Kinds W) : Yr (W.alloc (.cells #[.int .i64 f, .int .i64 y, .int .i64 m, .int .i64 d, .int .i64 (yOf (yend y m d)), .int .i64 (mOf (yend y m d)), .int .i64 (dOf (yend y m d))] t)) W.heap.size f y m d := by
  refine ⟨hK.below ((Below.refl _ _).alloc (Nat.le_refl _) _), ?_, ⟨?_, ?_, ?_⟩, ⟨?_, ?_, ?_⟩, by simp⟩ <;> simp [World.cell?_alloc_new]
set_option maxHeartbeats 1000000 in
theorem new_ok (f y m d : Int) (hf : 1 ≤ f) (hf' : f ≤ 4) (h : yrB y m d = true) (w : World) (hK : Kinds w) : Calls Tryd.prog 29 #[.int .i64 f, .agg #[.int .i64 y, .int .i64 m, .int .i64 d]] w (NewP f y m d w) := by
  obtain ⟨h0, h1, h2⟩ := yrB_yes h
  obtain ⟨a1, a2, a3, a4, a5, a6⟩ := dayB_yes h0
  have hc := known_yes f hf hf'
  have hm := months_yes y m d 12 h0 (mt_in a1 h1 a3 a4 (by omega) (by omega))
  obtain ⟨q1, q2, q3⟩ := month_year h0 h2
  rw [q1, q2, q3] at hm
  have he := eve_any (y + 1) m d (next_day h) (by have := (num_bd (next_day h)).1; have := ahd_mono (a := 1901) (b := y + 1) (by omega); have e : ahd 1901 = 365 := by decide
                                                  omega)
  have hye : num (y + 1) m d - 1 = yend y m d := rfl
  rw [hye] at he
  have D0 := day_new w y m d 79
  have B0 : Below w.heap.size w (w.alloc (.cells #[.int .i64 y, .int .i64 m, .int .i64 d] 79)) := (Below.refl _ _).alloc (Nat.le_refl _) _
  have K0 := hK.below B0
  have hg : (m == 2) = false ∨ ((m == 2) = true ∧ (d == 29) = false) := by
    by_cases hm2 : m = 2
    · right
      exact ⟨by simpa using hm2, by simp; omega⟩
    · left; simpa using hm2
  clear hf hf' h h0 q1 q2 q3 hye a6 h2
  rcases hg with g | ⟨g, g'⟩
  all_goals
    go_enter Tryd.func29, Tryd.ntmps29
    go_wp2_with (fail)
    refine (hc _).mono ?_
    rintro e w' ⟨rfl, rfl⟩
    go_wp2_with (fail)
    refine (hm _).mono ?_
    rintro e w1 ⟨rfl, hb⟩
    obtain ⟨c0, c1, c2⟩ := D0.below hb (by simp)
    have B1 := below_step B0 hb (by simp)
    have K1 := K0.below hb
    have hz : w.heap.size < w1.heap.size := by have := hb.size; simp at this; omega
    have D6 := day_new w1 (y + 1) m d 79
    have B6 : Below w1.heap.size w1 (w1.alloc (.cells #[.int .i64 (y + 1), .int .i64 m, .int .i64 d] 79)) := (Below.refl _ _).alloc (Nat.le_refl _) _
    obtain ⟨x0, x1, x2⟩ := Day.below (w := w1) ⟨c0, c1, c2⟩ B6 hz
    have N0 : NS w y m d (y + 1) m d w1.heap.size (w1.alloc (.cells #[.int .i64 (y + 1), .int .i64 m, .int .i64 d] 79)) := ⟨x0, x1, x2, D6.1, D6.2.1, D6.2.2, K1.below B6, below_step B1 B6 (by omega), by simp; omega, by simp⟩
    have N1 := N0.step (Below.refl _ _).drew
    clear hb D0 B0 K0 D6 B6 hK
    go_wp2
    go_region_held3 (fun W => W.cell? ⟨w.heap.size, 0, none⟩ = some (.int .i64 y) ∧ W.cell? ⟨w.heap.size, 1, none⟩ = some (.int .i64 m) ∧ W.cell? ⟨w.heap.size, 2, none⟩ = some (.int .i64 d) ∧ W.cell? ⟨w1.heap.size, 0, none⟩ = some (.int .i64 (y + 1)) ∧ W.cell? ⟨w1.heap.size, 1, none⟩ = some (.int .i64 m) ∧ W.cell? ⟨w1.heap.size, 2, none⟩ = some (.int .i64 d) ∧ Kinds W ∧ Below w.heap.size w W ∧ w.heap.size < W.heap.size ∧ w1.heap.size < W.heap.size)
      ((first | exact N1 | exact NS.step hb (by assumption) | exact NS.step ((Below.refl _ _).alloc (Nat.le_refl _) _) (by assumption)))
      (first | (go_at_call 72; (with_reducible refine (he _).mono ?_); rintro e w2 ⟨rfl, hb⟩))
    have N2 := N1.step hb
    have HY := Lib.hid (yr_new w2 f y m d 150 N2.2.2.2.2.2.2.1)
    have B2 := N2.2.2.2.2.2.2.2.1
    have B3 : Below w.heap.size w (w2.alloc (.cells #[.int .i64 f, .int .i64 y, .int .i64 m, .int .i64 d, .int .i64 (yOf (yend y m d)), .int .i64 (mOf (yend y m d)), .int .i64 (dOf (yend y m d))] 150)) := B2.alloc B2.size _
    clear hb N0 N1 N2
    go_wp2
    exact bodyPost_ret (v := .tuple #[.pointer (some ⟨w2.heap.size, 0, none⟩), .int .i64 0]) (by simp [results, Tryd.results29, go_sem]) rfl (show NewP f y m d w _ _ from ⟨w2.heap.size, rfl, B2.size, HY.out, B3⟩)
end Go.Proofs.YtffihnbpjcgicaaDoor

/- What the calls of period answer of a year that lies in memory: Freq, Start, End, Next, Part. -/
namespace Go.Proofs.YtffihnbpjcgicaaDoor
open Go.RowKit
set_option linter.unusedVariables false
set_option linter.unusedSimpArgs false

theorem part_no (p : Nat) (f y m d k : Int) (W : World) (Y : Yr W p f y m d) (h : yrB y m d = true) (hf : 1 ≤ f) (hf' : f ≤ 4) (hk : k < 1 ∨ cnt f y m d < k) :
    Calls Tryd.prog 108 #[.pointer (some ⟨p, 0, none⟩), .int .i64 k] W fun e w' => e = .returned (.tuple #[.int .i64 0, .int .i64 0, .int .i64 1]) ∧ Below W.heap.size W w' := by
  have hc := count_any p f y m d W Y h hf hf'
  generalize cnt f y m d = c at *
  have hcases : k < 1 ∨ (¬ k < 1 ∧ c < k) := by omega
  clear hk
  rcases hcases with hk | ⟨hk0, hk⟩
  · go_enter Tryd.func108, Tryd.ntmps108
    go_wp2
    go_ret3
    exact ⟨rfl, Below.refl _ _⟩
  · go_enter Tryd.func108, Tryd.ntmps108
    go_wp2_with (fail)
    refine hc.mono ?_
    rintro e w1 ⟨rfl, hb⟩
    go_wp2
    go_ret3
    exact ⟨rfl, hb⟩
theorem part_yes (p : Nat) (f y m d k : Int) (W : World) (Y : Yr W p f y m d) (h : yrB y m d = true) (hf : 1 ≤ f) (hf' : f ≤ 4) (hk : 1 ≤ k) (hk' : k ≤ cnt f y m d) :
    Calls Tryd.prog 108 #[.pointer (some ⟨p, 0, none⟩), .int .i64 k] W fun e w' => e = .returned (.tuple #[.int .i64 (min k (nom f)), .int .i64 (nom f), .int .i64 0]) ∧ Below W.heap.size W w' := by
  have hc := count_any p f y m d W Y h hf hf'
  have hn := nominal_any f
  generalize cnt f y m d = c at *
  generalize nom f = n at *
  go_enter Tryd.func108, Tryd.ntmps108
  go_wp2_with (fail)
  refine hc.mono ?_
  rintro e w1 ⟨rfl, hb⟩
  have Y1 := Y.below hb
  obtain ⟨K1, c0, _⟩ := id Y1
  go_wp2_with (fail)
  refine (hn _ K1).mono ?_
  rintro e w' ⟨rfl, rfl⟩
  go_wp2
  go_ret3
  exact ⟨rfl, hb⟩
theorem next_add {y m d : Int} (h : yrB y m d = true) (w : World) : Calls Tryd.prog 101 #[.agg #[.int .i64 (yOf (yend y m d)), .int .i64 (mOf (yend y m d)), .int .i64 (dOf (yend y m d))], .int .i64 1] w fun e w' => e = .returned (.tuple #[.agg #[.int .i64 (y + 1), .int .i64 m, .int .i64 d], .int .i64 0]) ∧ Below w.heap.size w w' := by
  obtain ⟨e1, e2, e3, e4⟩ := end_day h
  have ha := add_yes _ _ _ 1 e1 (by rw [e2]; omega) (by rw [e2]; omega) w
  obtain ⟨o1, o2, o3⟩ := of_num (next_day h)
  have hy : yend y m d + 1 = num (y + 1) m d := by unfold yend; omega
  rw [e2, hy, o1, o2, o3] at ha
  exact ha
end Go.Proofs.YtffihnbpjcgicaaDoor
