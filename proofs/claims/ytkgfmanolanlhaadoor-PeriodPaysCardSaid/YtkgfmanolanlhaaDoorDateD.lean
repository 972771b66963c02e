/- What the calls of date answer that move by months and that compare: Months, Between, Compare. -/
import Derived.Test.YtkgfmanolanlhaaDoorDateC
import Derived.WalkSmall
namespace Go.Proofs.YtkgfmanolanlhaaDoor
open Go.RowKit
set_option linter.unusedVariables false
set_option linter.unusedSimpArgs false

theorem months_no (y m d k : Int) (h : dayB y m d = false) (w : World) : Calls Tryd.prog 23 #[.agg #[.int .i64 y, .int .i64 m, .int .i64 d], .int .i64 k] w fun e w' => e = .returned (.tuple #[.agg #[.int .i64 0, .int .i64 0, .int .i64 0], .int .i64 30]) ∧ Below w.heap.size w w' := by
  have hc := right_b y m d false h
  clear h
  have T0 := two_new w y m d 23 23
  have B0 := two_base w #[.int .i64 y, .int .i64 m, .int .i64 d] #[.int .i64 0, .int .i64 0, .int .i64 0] 23 23
  obtain ⟨⟨a0, a1, a2⟩, _⟩ := id T0
  go_enter Tryd.func23, Tryd.ntmps23
  go_wp2_with (fail)
  refine (hc _).mono ?_
  rintro e w1 ⟨rfl, hb⟩
  obtain ⟨⟨c0, c1, c2⟩, ⟨r0, r1, r2⟩, ⟨f0, f1, f2⟩, hz⟩ := T0.below hb
  have B1 := below_step B0 hb (by simp; omega)
  clear hb T0 B0
  go_wp2
  exact bodyPost_ret (v := .tuple #[.agg #[.int .i64 0, .int .i64 0, .int .i64 0], .int .i64 30]) (by simp [results, Tryd.results23, go_sem, r0, r1, r2]) rfl ⟨rfl, by first | exact B1 | exact ((B1.setCell (by simp) _).setCell (by simp) _).setCell (by simp) _⟩
theorem months_out' (y m d k t : Int) (h : dayB y m d = true) (ht : wrap64 ((y - 1900) * 12 + m - 1 + k) = t) (h0 : t < 0 ∨ 3600 ≤ t) (w : World) : Calls Tryd.prog 23 #[.agg #[.int .i64 y, .int .i64 m, .int .i64 d], .int .i64 k] w fun e w' => e = .returned (.tuple #[.agg #[.int .i64 0, .int .i64 0, .int .i64 0], .int .i64 30]) ∧ Below w.heap.size w w' := by
  have hc := right_b y m d true h
  obtain ⟨h1, h2, h3, h4, h5, h6⟩ := dayB_yes h
  clear h
  have T0 := two_new w y m d 23 23
  have B0 := two_base w #[.int .i64 y, .int .i64 m, .int .i64 d] #[.int .i64 0, .int .i64 0, .int .i64 0] 23 23
  obtain ⟨⟨a0, a1, a2⟩, _⟩ := id T0
  rcases h0 with h0 | h0
  · go_enter Tryd.func23, Tryd.ntmps23
    go_wp2_with (fail)
    refine (hc _).mono ?_
    rintro e w1 ⟨rfl, hb⟩
    obtain ⟨⟨c0, c1, c2⟩, ⟨r0, r1, r2⟩, ⟨f0, f1, f2⟩, hz⟩ := T0.below hb
    have B1 := below_step B0 hb (by simp; omega)
    clear hb T0 B0
    go_wp2
    exact bodyPost_ret (v := .tuple #[.agg #[.int .i64 0, .int .i64 0, .int .i64 0], .int .i64 30]) (by simp [results, Tryd.results23, go_sem, r0, r1, r2]) rfl ⟨rfl, by first | exact B1 | exact ((B1.setCell (by simp) _).setCell (by simp) _).setCell (by simp) _⟩
  · have h0' : ¬ t < 0 := by omega
    go_enter Tryd.func23, Tryd.ntmps23
    go_wp2_with (fail)
    refine (hc _).mono ?_
    rintro e w1 ⟨rfl, hb⟩
    obtain ⟨⟨c0, c1, c2⟩, ⟨r0, r1, r2⟩, ⟨f0, f1, f2⟩, hz⟩ := T0.below hb
    have B1 := below_step B0 hb (by simp; omega)
    clear hb T0 B0
    go_wp2
    exact bodyPost_ret (v := .tuple #[.agg #[.int .i64 0, .int .i64 0, .int .i64 0], .int .i64 30]) (by simp [results, Tryd.results23, go_sem, r0, r1, r2]) rfl ⟨rfl, by first | exact B1 | exact ((B1.setCell (by simp) _).setCell (by simp) _).setCell (by simp) _⟩
theorem months_out (y m d k : Int) (h : dayB y m d = true) (hk : -9223372036854775808 ≤ k) (hk' : k ≤ 9223372036854775807) (ht : mtB (mt y m k) = false) (w : World) : Calls Tryd.prog 23 #[.agg #[.int .i64 y, .int .i64 m, .int .i64 d], .int .i64 k] w fun e w' => e = .returned (.tuple #[.agg #[.int .i64 0, .int .i64 0, .int .i64 0], .int .i64 30]) ∧ Below w.heap.size w w' := by
  obtain ⟨h1, h2, h3, h4, h5, h6⟩ := dayB_yes h
  have ht := mtB_no ht
  refine months_out' y m d k _ h rfl ?_ w
  unfold mt at ht
  by_cases hv : (y - 1900) * 12 + m - 1 + k ≤ 9223372036854775807
  · rw [IntWalk.wrap64_in _ (by omega)]
    exact ht
  · left
    have : wrap64 ((y - 1900) * 12 + m - 1 + k) = (y - 1900) * 12 + m - 1 + k - 18446744073709551616 := by unfold wrap64; omega
    omega
/-- what the walk holds while a month's last day is asked for -/
def MK (h h1 : Nat) (w W : World) : Prop := Day W (h + 1) 0 0 0 ∧ Free W (h + 1) ∧ Free W h1 ∧ (∃ v, W.cell? ⟨h1, 2, none⟩ = some v) ∧ Below h w W ∧ h + 1 < h1 ∧ h1 < W.heap.size
/-- whatever lies in a place -/
def at2 (W : World) (b : Nat) : Value := (W.cell? ⟨b, 2, none⟩).getD undef
def MS (h h1 : Nat) (w : World) (d a b : Int) (W : World) : Prop := W.cell? ⟨h, 2, none⟩ = some (.int .i64 d) ∧ W.cell? ⟨h1, 0, none⟩ = some (.int .i64 a) ∧ W.cell? ⟨h1, 1, none⟩ = some (.int .i64 b) ∧ W.cell? ⟨h1, 2, none⟩ = some (at2 W h1) ∧ W.frozen? ⟨h1, 2, none⟩ = false ∧ MK h h1 w W
theorem MS.mk {h h1 : Nat} {w W : World} {d a b : Int} (m0 : W.cell? ⟨h, 2, none⟩ = some (.int .i64 d)) (m1 : W.cell? ⟨h1, 0, none⟩ = some (.int .i64 a)) (m2 : W.cell? ⟨h1, 1, none⟩ = some (.int .i64 b)) (k : MK h h1 w W) : MS h h1 w d a b W := by
  obtain ⟨v, hv⟩ := k.2.2.2.1
  exact ⟨m0, m1, m2, by unfold at2; rw [hv]; rfl, k.2.2.1.2.2, k⟩
theorem MS.step {h h1 : Nat} {w W W' : World} {d a b : Int} (hb : Below W.heap.size W W') (M : MS h h1 w d a b W) : MS h h1 w d a b W' := by
  obtain ⟨m0, m1, m2, _, _, m3, m4, m5, ⟨v, m6⟩, m7, m8, m9⟩ := M
  exact MS.mk ((hb.cell (p := ⟨h, 2, none⟩) (by show h < _; omega)).trans m0) ((hb.cell (p := ⟨h1, 0, none⟩) m9).trans m1) ((hb.cell (p := ⟨h1, 1, none⟩) m9).trans m2) ⟨m3.below hb (by omega), m4.below hb (by omega), m5.below hb m9,
    ⟨v, (hb.cell (p := ⟨h1, 2, none⟩) m9).trans m6⟩, below_step m7 hb (by omega), m8, by have := hb.size; omega⟩
theorem MS.store {h h1 : Nat} {w W : World} {d a b : Int} (v : Value) (M : MS h h1 w d a b W) : MS h h1 w d a b (W.setCell ⟨h1, 2, none⟩ v) := by
  obtain ⟨m0, m1, m2, _, _, m3, m4, m5, ⟨u, m6⟩, m7, m8, m9⟩ := M
  obtain ⟨q0, q1, q2⟩ := m3
  obtain ⟨f0, f1, f2⟩ := m4
  obtain ⟨g0, g1, g2⟩ := m5
  have o : ∀ (bb oo : Nat), (bb ≠ h1 ∨ oo ≠ 2) → (W.setCell ⟨h1, 2, none⟩ v).cell? ⟨bb, oo, none⟩ = W.cell? ⟨bb, oo, none⟩ := fun bb oo hne => World.cell?_setCell_other _ _ _ _ (by intro e; simp only [Addr.mk.injEq] at e; omega)
  refine MS.mk ((o _ _ (by omega)).trans m0) ((o _ _ (by omega)).trans m1) ((o _ _ (by omega)).trans m2) ⟨⟨(o _ _ (by omega)).trans q0, (o _ _ (by omega)).trans q1, (o _ _ (by omega)).trans q2⟩, ⟨?_, ?_, ?_⟩, ⟨?_, ?_, ?_⟩, ⟨v, World.cell?_setCell_same _ _ _ m6⟩, m7.setCell (by show h ≤ h1; omega) _, m8, by simpa using m9⟩
  all_goals rw [World.frozen?_setCell]
  all_goals assumption
theorem ms_start (w w1 : World) (y m d a b : Int) (t : TypeId) (hd : w1.cell? ⟨w.heap.size, 2, none⟩ = some (.int .i64 d)) (hr : Day w1 (w.heap.size + 1) 0 0 0) (hf : Free w1 (w.heap.size + 1)) (hz : w.heap.size + 1 < w1.heap.size) (hB : Below w.heap.size w w1) :
    MS w.heap.size w1.heap.size w d a b (w1.alloc (.cells #[.int .i64 a, .int .i64 b, .int .i64 0] t)).drew := by
  have hb : Below w1.heap.size w1 (w1.alloc (.cells #[.int .i64 a, .int .i64 b, .int .i64 0] t)) := (Below.refl _ _).alloc (Nat.le_refl _) _
  obtain ⟨n0, n1, n2⟩ := day_new w1 a b 0 t
  obtain ⟨z0, z1, z2⟩ := free_new w1 #[.int .i64 a, .int .i64 b, .int .i64 0] t
  obtain ⟨r0, r1, r2⟩ := hr.below hb (by omega)
  obtain ⟨f0, f1, f2⟩ := hf.below hb (by omega)
  exact MS.mk ((hb.cell (p := ⟨w.heap.size, 2, none⟩) (by show w.heap.size < _; omega)).trans hd) n0 n1 ⟨⟨r0, r1, r2⟩, ⟨f0, f1, f2⟩, ⟨z0, z1, z2⟩, ⟨_, n2⟩, (hB.alloc (by omega) _).drew, hz, by show w1.heap.size < (w1.alloc _).heap.size; simp⟩
set_option maxHeartbeats 1000000 in
theorem months_yes (y m d k : Int) (h : dayB y m d = true) (ht : mtB (mt y m k) = true) (w : World) : Calls Tryd.prog 23 #[.agg #[.int .i64 y, .int .i64 m, .int .i64 d], .int .i64 k] w fun e w' => e = .returned (.tuple #[.agg #[.int .i64 (yM (mt y m k)), .int .i64 (mM (mt y m k)), .int .i64 (dM (mt y m k) d)], .int .i64 0]) ∧ Below w.heap.size w w' := by
  have hc := right_b y m d true h
  obtain ⟨h1, h2, h3, h4, h5, h6⟩ := dayB_yes h
  obtain ⟨t1, t2⟩ := mtB_yes ht
  have hv : wrap64 ((y - 1900) * 12 + m - 1 + k) = mt y m k := by unfold mt; exact IntWalk.wrap64_in _ (by unfold mt at t1 t2; omega)
  clear h ht
  generalize mt y m k = t at *
  have hla := last_any (yM t) (mM t)
  have hlm : lastM (yM t) (mM t) = ml (yM t) (mM t) := by unfold lastM; rw [if_pos (by unfold yM mM; omega)]
  have hdm : dM t d = min d (ml (yM t) (mM t)) := by unfold dM; split <;> omega
  rw [hlm] at hla
  rw [hdm]
  generalize ml (yM t) (mM t) = u at *
  have e1 : yM t = 1900 + t / 12 := rfl
  have e2 : mM t = t % 12 + 1 := rfl
  rw [e1, e2] at *
  clear hlm hdm e1 e2
  have T0 := two_new w y m d 23 23
  have B0 := two_base w #[.int .i64 y, .int .i64 m, .int .i64 d] #[.int .i64 0, .int .i64 0, .int .i64 0] 23 23
  obtain ⟨⟨a0, a1, a2⟩, _⟩ := id T0
  go_enter Tryd.func23, Tryd.ntmps23
  go_wp2_with (fail)
  refine (hc _).mono ?_
  rintro e w1 ⟨rfl, hb⟩
  obtain ⟨⟨c0, c1, c2⟩, ⟨r0, r1, r2⟩, ⟨f0, f1, f2⟩, hz⟩ := T0.below hb
  have B1 := below_step B0 hb (by simp; omega)
  clear hb T0 B0
  go_wp2
  have M0 := ms_start w w1 y m d (1900 + t / 12) (t % 12 + 1) 23 c2 ⟨r0, r1, r2⟩ ⟨f0, f1, f2⟩ hz B1
  go_region_held3 (fun W => W.cell? ⟨w.heap.size, 2, none⟩ = some (.int .i64 d) ∧ W.cell? ⟨w1.heap.size, 0, none⟩ = some (.int .i64 (1900 + t / 12)) ∧ W.cell? ⟨w1.heap.size, 1, none⟩ = some (.int .i64 (t % 12 + 1)) ∧ W.cell? ⟨w1.heap.size, 2, none⟩ = some (at2 W w1.heap.size) ∧ W.frozen? ⟨w1.heap.size, 2, none⟩ = false ∧ MK w.heap.size w1.heap.size w W)
    ((first | exact M0 | exact MS.step hb (by assumption) | exact MS.store _ (by assumption) | (trace_state; fail)))
    (first | (go_at_call 16; refine (hla _).mono ?_; rintro e w2 ⟨rfl, hb⟩))
  have hH := MS.step hb M0
  obtain ⟨v2, hv2⟩ := hH.2.2.2.2.2.2.2.2.1
  obtain ⟨m0, m1, m2, _, _, ⟨q0, q1, q2⟩, ⟨g0, g1, g2⟩, _, _, B3, hz3, hz4⟩ := MS.store (.int .i64 (min d u)) hH
  have m3 := World.cell?_setCell_same w2 ⟨w1.heap.size, 2, none⟩ (.int .i64 (min d u)) hv2
  clear hH hv2 hb M0
  generalize w2.setCell ⟨w1.heap.size, 2, none⟩ (.int .i64 (min d u)) = W3 at *
  have hat : at2 W3 w1.heap.size = .int .i64 (min d u) := by unfold at2; rw [m3]; rfl
  go_wp2
  exact bodyPost_ret (v := .tuple #[.agg #[.int .i64 (1900 + t / 12), .int .i64 (t % 12 + 1), .int .i64 (min d u)], .int .i64 0]) (by simp [results, Tryd.results23, go_sem, q0, q1, q2]) rfl ⟨rfl, ((B3.setCell (by simp) _).setCell (by simp) _).setCell (by simp) _⟩

/-- two days in their boxes -/
def Box2 (W : World) (h : Nat) (y m d y' m' d' : Int) : Prop := Day W h y m d ∧ Day W (h + 1) y' m' d' ∧ h + 1 < W.heap.size
theorem Box2.below {W W' : World} {h : Nat} {y m d y' m' d' : Int} (T : Box2 W h y m d y' m' d') (hb : Below W.heap.size W W') : Box2 W' h y m d y' m' d' :=
  ⟨T.1.below hb (by have := T.2.2; omega), T.2.1.below hb T.2.2, by have := T.2.2; have := hb.size; omega⟩
theorem box2_new (w : World) (y m d y' m' d' : Int) (t t' : TypeId) : Box2 ((w.alloc (.cells #[.int .i64 y, .int .i64 m, .int .i64 d] t)).alloc (.cells #[.int .i64 y', .int .i64 m', .int .i64 d'] t')) w.heap.size y m d y' m' d' := by
  have h1 := day_new (w.alloc (.cells #[.int .i64 y, .int .i64 m, .int .i64 d] t)) y' m' d' t'
  have hs : (w.alloc (.cells #[.int .i64 y, .int .i64 m, .int .i64 d] t)).heap.size = w.heap.size + 1 := by simp
  rw [hs] at h1
  exact ⟨(day_new w y m d t).below ((Below.refl _ _).alloc (Nat.le_refl _) _) (by simp), h1, by simp⟩

theorem numbers_no (y m d y' m' d' : Int) (h : dayB y m d = false ∨ dayB y' m' d' = false) (w : World) :
    Calls Tryd.prog 48 #[.agg #[.int .i64 y, .int .i64 m, .int .i64 d], .agg #[.int .i64 y', .int .i64 m', .int .i64 d']] w fun e w' => e = .returned (.tuple #[.int .i64 0, .int .i64 0, .int .i64 30]) ∧ Below w.heap.size w w' := by
  have T0 := box2_new w y m d y' m' d' 23 23
  have B0 := two_base w #[.int .i64 y, .int .i64 m, .int .i64 d] #[.int .i64 y', .int .i64 m', .int .i64 d'] 23 23
  obtain ⟨⟨a0, a1, a2⟩, ⟨b0, b1, b2⟩, _⟩ := id T0
  cases h1 : dayB y m d
  · have hc := right_b y m d false h1
    clear h h1
    go_enter Tryd.func48, Tryd.ntmps48
    go_wp2_with (fail)
    refine (hc _).mono ?_
    rintro e w1 ⟨rfl, hb⟩
    have B1 := below_step B0 hb (by simp; omega)
    go_wp2
    go_ret3
    exact ⟨rfl, B1⟩
  · have h2 : dayB y' m' d' = false := by
      rcases h with h | h
      · rw [h1] at h; exact Bool.noConfusion h
      · exact h
    have hc := right_b y m d true h1
    have hd := right_b y' m' d' false h2
    clear h h1 h2
    go_enter Tryd.func48, Tryd.ntmps48
    go_wp2_with (fail)
    refine (hc _).mono ?_
    rintro e w1 ⟨rfl, hb⟩
    have T1 := T0.below hb
    obtain ⟨⟨c0, c1, c2⟩, ⟨d0, d1, d2⟩, _⟩ := id T1
    have B1 := below_step B0 hb (by simp; omega)
    clear hb T0 B0
    go_wp2_with (fail)
    refine (hd _).mono ?_
    rintro e w2 ⟨rfl, hb⟩
    have B2 := below_step B1 hb (by have := T1.2.2; omega)
    go_wp2
    go_ret3
    exact ⟨rfl, B2⟩
theorem numbers_yes (y m d y' m' d' : Int) (h : dayB y m d = true) (h' : dayB y' m' d' = true) (w : World) :
    Calls Tryd.prog 48 #[.agg #[.int .i64 y, .int .i64 m, .int .i64 d], .agg #[.int .i64 y', .int .i64 m', .int .i64 d']] w fun e w' => e = .returned (.tuple #[.int .i64 (num y m d), .int .i64 (num y' m' d'), .int .i64 0]) ∧ Below w.heap.size w w' := by
  have T0 := box2_new w y m d y' m' d' 23 23
  have B0 := two_base w #[.int .i64 y, .int .i64 m, .int .i64 d] #[.int .i64 y', .int .i64 m', .int .i64 d'] 23 23
  obtain ⟨⟨a0, a1, a2⟩, ⟨b0, b1, b2⟩, _⟩ := id T0
  have hc := right_b y m d true h
  have hd := right_b y' m' d' true h'
  have ha := number_yes y m d h
  have hb' := number_yes y' m' d' h'
  clear h h'
  generalize num y m d = n at *
  generalize num y' m' d' = n' at *
  go_enter Tryd.func48, Tryd.ntmps48
  go_wp2_with (fail)
  refine (hc _).mono ?_
  rintro e w1 ⟨rfl, hb⟩
  have T1 := T0.below hb
  obtain ⟨⟨c0, c1, c2⟩, ⟨d0, d1, d2⟩, _⟩ := id T1
  have B1 := below_step B0 hb (by simp; omega)
  clear hb T0 B0 a0 a1 a2 b0 b1 b2
  go_wp2_with (fail)
  refine (hd _).mono ?_
  rintro e w2 ⟨rfl, hb⟩
  have T2 := T1.below hb
  have B2 := below_step B1 hb (by have := T1.2.2; omega)
  clear hb T1 B1 c0 c1 c2 d0 d1 d2
  obtain ⟨⟨c0, c1, c2⟩, ⟨d0, d1, d2⟩, _⟩ := id T2
  go_wp2_with (fail)
  refine (ha _).mono ?_
  rintro e w3 ⟨rfl, hb⟩
  have T3 := T2.below hb
  have B3 := below_step B2 hb (by have := T2.2.2; omega)
  clear hb T2 B2 c0 c1 c2 d0 d1 d2
  obtain ⟨⟨c0, c1, c2⟩, ⟨d0, d1, d2⟩, _⟩ := id T3
  go_wp2_with (fail)
  refine (hb' _).mono ?_
  rintro e w4 ⟨rfl, hb⟩
  have B4 := below_step B3 hb (by have := T3.2.2; omega)
  go_wp2
  go_ret3
  exact ⟨rfl, B4⟩
theorem between_gen (y m d y' m' d' a b c : Int) (ha : 0 ≤ a) (ha' : a < 109573) (hb0 : 0 ≤ b) (hb' : b < 109573) (hn : ∀ w, Calls Tryd.prog 48 #[.agg #[.int .i64 y, .int .i64 m, .int .i64 d], .agg #[.int .i64 y', .int .i64 m', .int .i64 d']] w fun e w' => e = .returned (.tuple #[.int .i64 a, .int .i64 b, .int .i64 c]) ∧ Below w.heap.size w w') (w : World) :
    Calls Tryd.prog 22 #[.agg #[.int .i64 y, .int .i64 m, .int .i64 d], .agg #[.int .i64 y', .int .i64 m', .int .i64 d']] w fun e w' => e = .returned (.tuple #[.int .i64 (b - a), .int .i64 c]) ∧ Below w.heap.size w w' := by
  have T0 := box2_new w y m d y' m' d' 23 23
  have B0 := two_base w #[.int .i64 y, .int .i64 m, .int .i64 d] #[.int .i64 y', .int .i64 m', .int .i64 d'] 23 23
  obtain ⟨⟨a0, a1, a2⟩, ⟨b0, b1, b2⟩, _⟩ := id T0
  go_enter Tryd.func22, Tryd.ntmps22
  go_wp2_with (fail)
  refine (hn _).mono ?_
  rintro e w1 ⟨rfl, hb⟩
  have B1 := below_step B0 hb (by simp; omega)
  go_wp2
  go_ret2
  exact ⟨rfl, B1⟩
theorem between_yes (y m d y' m' d' : Int) (h : dayB y m d = true) (h' : dayB y' m' d' = true) (w : World) :
    Calls Tryd.prog 22 #[.agg #[.int .i64 y, .int .i64 m, .int .i64 d], .agg #[.int .i64 y', .int .i64 m', .int .i64 d']] w fun e w' => e = .returned (.tuple #[.int .i64 (num y' m' d' - num y m d), .int .i64 0]) ∧ Below w.heap.size w w' := by
  obtain ⟨_, _, a, b⟩ := num_bd h
  obtain ⟨_, _, c, d0⟩ := num_bd h'
  exact between_gen y m d y' m' d' _ _ 0 a b c d0 (numbers_yes y m d y' m' d' h h') w
theorem between_no (y m d y' m' d' : Int) (h : dayB y m d = false ∨ dayB y' m' d' = false) (w : World) :
    Calls Tryd.prog 22 #[.agg #[.int .i64 y, .int .i64 m, .int .i64 d], .agg #[.int .i64 y', .int .i64 m', .int .i64 d']] w fun e w' => e = .returned (.tuple #[.int .i64 0, .int .i64 30]) ∧ Below w.heap.size w w' :=
  between_gen y m d y' m' d' 0 0 30 (by omega) (by omega) (by omega) (by omega) (numbers_no y m d y' m' d' h) w

theorem parts_any (y m d : Int) (w : World) : Calls Tryd.prog 44 #[.agg #[.int .i64 y, .int .i64 m, .int .i64 d]] w fun e w' => e = .returned (.agg #[.int .i64 y, .int .i64 m, .int .i64 d]) ∧ Below w.heap.size w w' := by
  go_enter Tryd.func44, Tryd.ntmps44
  go_wp2
  exact bodyPost_ret (v := .agg #[.int .i64 y, .int .i64 m, .int .i64 d]) (by simp [results, Tryd.results44, go_sem]) rfl ⟨rfl, ((Below.refl _ _).alloc (Nat.le_refl _) _).alloc (by simp) _⟩
theorem isnan_int (a : Int) (w : World) : Calls Tryd.prog 72 #[.int .i64 a] w fun e w' => e = .returned (.bool false) ∧ w = w' := by
  go_enter Tryd.func72, Tryd.ntmps72
  go_wp2
  go_ret
  exact ⟨ret_b (by simp), rfl⟩
theorem cmp_lt (a b : Int) (h : a < b) (w : World) : Calls Tryd.prog 51 #[.int .i64 a, .int .i64 b] w fun e w' => e = .returned (.int .i64 (-1)) ∧ w = w' := by
  go_enter Tryd.func51, Tryd.ntmps51
  go_wp2_with (go_at_call 72; refine (isnan_int _ _).mono ?_; rintro e w' ⟨rfl, rfl⟩)
  go_ret
  exact ⟨rfl, rfl⟩
theorem cmp_gt (a b : Int) (h : b < a) (w : World) : Calls Tryd.prog 51 #[.int .i64 a, .int .i64 b] w fun e w' => e = .returned (.int .i64 1) ∧ w = w' := by
  have h2 : ¬ a < b := by omega
  go_enter Tryd.func51, Tryd.ntmps51
  go_wp2_with (go_at_call 72; refine (isnan_int _ _).mono ?_; rintro e w' ⟨rfl, rfl⟩)
  go_ret
  exact ⟨rfl, rfl⟩
theorem index3_0 (a b c : Int) (W : World) : (Instr.index 60 (.agg #[.int .i64 a, .int .i64 b, .int .i64 c]) (.int .i64 0)).run Tryd.prog W = .ok (.int .i64 a) W := by kernel_rfl
theorem index3_1 (a b c : Int) (W : World) : (Instr.index 60 (.agg #[.int .i64 a, .int .i64 b, .int .i64 c]) (.int .i64 1)).run Tryd.prog W = .ok (.int .i64 b) W := by kernel_rfl
theorem index3_2 (a b c : Int) (W : World) : (Instr.index 60 (.agg #[.int .i64 a, .int .i64 b, .int .i64 c]) (.int .i64 2)).run Tryd.prog W = .ok (.int .i64 c) W := by kernel_rfl
end Go.Proofs.YtkgfmanolanlhaaDoor
