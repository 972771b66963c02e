/- The walk of the law HoldRises. -/
import Derived.Test.YtgekojbmlppmdaaHldD
import Derived.Laws.EntriesVeiled
namespace Go.Proofs.Ytgekojbmlppmdaa
open Go.RowKit Go.Sort
set_option linter.unusedVariables false
set_option linter.unusedSimpArgs false

theorem two_0 (W : World) : (Instr.index 46 (.agg #[.bool false, .bool true]) (.int .i64 0)).run Try.prog W = .ok (.bool false) W := by kernel_rfl
theorem two_1 (W : World) : (Instr.index 46 (.agg #[.bool false, .bool true]) (.int .i64 1)).run Try.prog W = .ok (.bool true) W := by kernel_rfl
theorem limV_step {r c : Int} (r0 : 0 ≤ r) (r1 : r ≤ 10000) : limV r c ≤ limV r (c + 1) ∧ limV r (c + 1) ≤ limV r c + 1 := by
  unfold limV
  rcases Int.lt_or_le c 0 with h | h
  · rw [show max c 0 = 0 by omega, show max (c + 1) 0 = 0 by omega]; omega
  · rw [show max c 0 = c by omega, show max (c + 1) 0 = c + 1 by omega, Int.add_mul, Int.one_mul]
    generalize c * r = p at *
    omega
theorem part_rises {x l l' : Int} {b : Bool} (h0 : 0 ≤ l) (h1 : l ≤ l') (h2 : l' ≤ l + 1) :
    partV x l b ≤ partV (x + 1) l b ∧ partV x l b ≤ partV x l' b ∧ partV (x + 1) l b ≤ partV (x + 1) l' b ∧ partV x l' b ≤ partV (x + 1) l' b ∧ partV (x + 1) l' b - partV x l b ≤ 1 ∧ (b = true → partV x l b ≤ x) ∧ (b = false → 0 ≤ partV x l b) := by
  have ef : ∀ y m, partV y m false = if min y m < 0 then 0 else min y m := fun y m => by unfold partV; simp
  have et : ∀ y m, partV y m true = min y m := fun y m => by unfold partV; simp
  cases b
  · rw [ef, ef, ef, ef]
    refine ⟨?_, ?_, ?_, ?_, ?_, (fun h => absurd h (by decide)), fun _ => ?_⟩ <;> (repeat' split) <;> omega
  · rw [et, et, et, et]
    refine ⟨?_, ?_, ?_, ?_, ?_, (fun _ => ?_), fun h => absurd h (by decide)⟩ <;> omega
theorem hr_out (r x c : Int) (w : World) (h : r < 0 ∨ 10000 < r ∨ 50000000000 < x ∨ x < -50000000000 ∨ 50000000000 < c ∨ c < -50000000000) :
    Calls Try.prog 6 #[.int .i64 r, .int .i64 x, .int .i64 c] w fun e w' => e = .returned (.bool true) ∧ Below w.heap.size w w' := by
  have ho := holds_any w
  have key : decide (r < 0) = true ∨ (decide (r < 0) = false ∧ decide (10000 < r) = true) ∨ (decide (r < 0) = false ∧ decide (10000 < r) = false ∧ decide (50000000000 < x) = true) ∨ (decide (r < 0) = false ∧ decide (10000 < r) = false ∧ decide (50000000000 < x) = false ∧ decide (x < -50000000000) = true) ∨ (decide (r < 0) = false ∧ decide (10000 < r) = false ∧ decide (50000000000 < x) = false ∧ decide (x < -50000000000) = false ∧ decide (50000000000 < c) = true) ∨ (decide (r < 0) = false ∧ decide (10000 < r) = false ∧ decide (50000000000 < x) = false ∧ decide (x < -50000000000) = false ∧ decide (50000000000 < c) = false ∧ decide (c < -50000000000) = true) := by
    simp only [decide_eq_true_eq, decide_eq_false_iff_not]
    omega
  clear h
  rcases key with k1 | ⟨k1, k2⟩ | ⟨k1, k2, k3⟩ | ⟨k1, k2, k3, k4⟩ | ⟨k1, k2, k3, k4, k5⟩ | ⟨k1, k2, k3, k4, k5, k6⟩
  all_goals
    go_enter Try.func6, Try.ntmps6
    go_wp2_with (fail)
    with_reducible refine ho.mono ?_
    rintro e w1 ⟨rfl, hb⟩
    go_wp2
    go_ret
    exact ⟨rfl, hb⟩
set_option maxRecDepth 100000 in
set_option maxHeartbeats 2000000 in
theorem hr_in (r x c : Int) (w : World) (r0 : 0 ≤ r) (r1 : r ≤ 10000) (x0 : -50000000000 ≤ x) (x1 : x ≤ 50000000000) (c0 : -50000000000 ≤ c) (c1 : c ≤ 50000000000) :
    Calls Try.prog 6 #[.int .i64 r, .int .i64 x, .int .i64 c] w fun e w' => e = .returned (.bool true) ∧ Below w.heap.size w w' := by
  have ho := holds_any w
  have k1 : decide (r < 0) = false := by simp; omega
  have k2 : decide (10000 < r) = false := by simp; omega
  have k3 : decide (50000000000 < x) = false := by simp; omega
  have k4 : decide (x < -50000000000) = false := by simp; omega
  have k5 : decide (50000000000 < c) = false := by simp; omega
  have k6 : decide (c < -50000000000) = false := by simp; omega
  have st := fun (b : Bool) (y : Int) (d : Int) (hy : y = x ∨ y = x + 1) (hd : d = c ∨ d = c + 1) w => step_yes none none none 0 0 0 0 0 0 r 0 0 0 d y b w (stepE_mk (by rw [show amtB 0 = true by decide, show amtB d = true from amtB_mk (by omega) (by omega), show amtB y = true from amtB_mk (by omega) (by omega)]; rfl) (rateB_mk r0 r1) (amtB_mk (by omega) (by omega)))
  have hs : ∀ (b : Bool) (y d : Int), stepH r 0 d y b = partV y (limV r d) b := fun b y d => by unfold stepH; rw [Int.sub_zero]
  simp only [hs, Int.sub_zero, Int.zero_add] at st
  obtain ⟨l1, l2⟩ := limV_step (c := c) r0 r1
  have l0 := limV_bd (c := c) r0 r1 (by omega)
  have l3 := limV_bd (c := c + 1) r0 r1 (by omega)
  have HP := Lib.hid (fun b => part_rises (x := x) (b := b) l0.1 l1 l2)
  have HB := Lib.hid (fun (y l : Int) (b : Bool) (h : 0 ≤ l) => partV_bd (need := y) (back := b) h)
  have T1 := fun (b : Bool) w => st b x c (.inl rfl) (.inl rfl) w
  have T2 := fun (b : Bool) w => st b (x + 1) c (.inr rfl) (.inl rfl) w
  have T3 := fun (b : Bool) w => st b x (c + 1) (.inl rfl) (.inr rfl) w
  have T4 := fun (b : Bool) w => st b (x + 1) (c + 1) (.inr rfl) (.inr rfl) w
  clear hs l1 l2 st
  generalize limV r (c + 1) = m at *
  generalize limV r c = l at *
  have i0 := two_0
  have i1 := two_1
  go_enter Try.func6, Try.ntmps6
  go_wp2_with (fail)
  with_reducible refine ho.mono ?_
  rintro e w1 ⟨rfl, hb⟩
  have Nt := below_new w1 (.cells #[.slice none 0 0, .slice none 0 0, .slice none 0 0, .int .i64 r, .int .i64 0] 31)
  have Kt := bx_new w1 [.slice none 0 0, .slice none 0 0, .slice none 0 0, .int .i64 r, .int .i64 0] 31
  have B1 := below_step hb Nt hb.size
  go_wp2_with (fail)
  generalize w1.alloc (.cells #[.slice none 0 0, .slice none 0 0, .slice none 0 0, .int .i64 r, .int .i64 0] 31) = wt at *
  clear Nt hb ho
  go_loopw [49] (fun k X => ∃ i : Int, (i = 0 ∨ i = 1 ∨ i = 2) ∧ k = .int .i64 i ∧ Bx X w1.heap.size 31 [.slice none 0 0, .slice none 0 0, .slice none 0 0, .int .i64 r, .int .i64 0] ∧ Below w.heap.size w X) (fun k _ => 2 - (intOf k).toNat)
  case atStart => exact ⟨0, .inl rfl, rfl, Kt, B1⟩
  case round =>
    clear Kt B1
    obtain ⟨i, hi, rfl, Kt, B1⟩ := hrel
    rcases hi with rfl | rfl | rfl

    · obtain ⟨h1, h2, h3, h4, h5, h6, h7⟩ := HP.out false
      have q1 := HB.out x l false (by omega)
      have q2 := HB.out (x + 1) l false (by omega)
      have q3 := HB.out x m false (by omega)
      have q4 := HB.out (x + 1) m false (by omega)
      have t1 := T1 false
      have t2 := T2 false
      have t3 := T3 false
      have t4 := T4 false
      clear HP HB T1 T2 T3 T4
      generalize partV x l false = pa at *
      generalize partV (x + 1) l false = pb at *
      generalize partV x m false = pc at *
      generalize partV (x + 1) m false = pd at *
      have u1 : decide (pb < pa) = false := by simp; omega
      have u2 : decide (pc < pa) = false := by simp; omega
      have u3 : decide (pd < pb) = false := by simp; omega
      have u4 : decide (pd < pc) = false := by simp; omega
      have u5 : decide (1 < pd - pa) = false := by simp; omega
      have u7 : wrap64 (pd - pa) = pd - pa := IntWalk.wrap64_in _ (by omega)
      have h7 := h7 rfl
      have u6 : decide (pa < 0) = false := by simp; omega
      have z0 := Kt.cell (i := 0) rfl
      have z1 := Kt.cell (i := 1) rfl
      have z2 := Kt.cell (i := 2) rfl
      have z3 := Kt.cell (i := 3) rfl
      have z4 := Kt.cell (i := 4) rfl
      go_wp2_with (fail)
      with_reducible refine (t1 _).mono ?_
      rintro e v0 ⟨rfl, hb⟩
      have N := below_new v0 (.cells #[.int .i64 pa, .int .i64 (x - pa)] 23)
      have Kt := (Kt.below hb).below N
      have B1 := below_step (below_step B1 hb B1.size) N (below_step B1 hb B1.size).size
      clear z0 z1 z2 z3 z4 hb N
      have z0 := Kt.cell (i := 0) rfl
      have z1 := Kt.cell (i := 1) rfl
      have z2 := Kt.cell (i := 2) rfl
      have z3 := Kt.cell (i := 3) rfl
      have z4 := Kt.cell (i := 4) rfl
      go_wp2_with (fail)
      with_reducible refine (t2 _).mono ?_
      rintro e v1 ⟨rfl, hb⟩
      have N := below_new v1 (.cells #[.int .i64 pb, .int .i64 (x + 1 - pb)] 23)
      have Kt := (Kt.below hb).below N
      have B1 := below_step (below_step B1 hb B1.size) N (below_step B1 hb B1.size).size
      clear z0 z1 z2 z3 z4 hb N
      have z0 := Kt.cell (i := 0) rfl
      have z1 := Kt.cell (i := 1) rfl
      have z2 := Kt.cell (i := 2) rfl
      have z3 := Kt.cell (i := 3) rfl
      have z4 := Kt.cell (i := 4) rfl
      go_wp2_with (fail)
      with_reducible refine (t3 _).mono ?_
      rintro e v2 ⟨rfl, hb⟩
      have N := below_new v2 (.cells #[.int .i64 pc, .int .i64 (x - pc)] 23)
      have Kt := (Kt.below hb).below N
      have B1 := below_step (below_step B1 hb B1.size) N (below_step B1 hb B1.size).size
      clear z0 z1 z2 z3 z4 hb N
      have z0 := Kt.cell (i := 0) rfl
      have z1 := Kt.cell (i := 1) rfl
      have z2 := Kt.cell (i := 2) rfl
      have z3 := Kt.cell (i := 3) rfl
      have z4 := Kt.cell (i := 4) rfl
      go_wp2_with (fail)
      with_reducible refine (t4 _).mono ?_
      rintro e v3 ⟨rfl, hb⟩
      have N := below_new v3 (.cells #[.int .i64 pd, .int .i64 (x + 1 - pd)] 23)
      have Kt := (Kt.below hb).below N
      have B1 := below_step (below_step B1 hb B1.size) N (below_step B1 hb B1.size).size
      clear z0 z1 z2 z3 z4 hb N
      have z0 := Kt.cell (i := 0) rfl
      have z1 := Kt.cell (i := 1) rfl
      have z2 := Kt.cell (i := 2) rfl
      have z3 := Kt.cell (i := 3) rfl
      have z4 := Kt.cell (i := 4) rfl
      go_wp2
      all_goals exact ⟨⟨1, by omega, rfl, Kt, B1⟩, by simp [intOf]⟩
    · obtain ⟨h1, h2, h3, h4, h5, h6, h7⟩ := HP.out true
      have q1 := HB.out x l true (by omega)
      have q2 := HB.out (x + 1) l true (by omega)
      have q3 := HB.out x m true (by omega)
      have q4 := HB.out (x + 1) m true (by omega)
      have t1 := T1 true
      have t2 := T2 true
      have t3 := T3 true
      have t4 := T4 true
      clear HP HB T1 T2 T3 T4
      generalize partV x l true = pa at *
      generalize partV (x + 1) l true = pb at *
      generalize partV x m true = pc at *
      generalize partV (x + 1) m true = pd at *
      have u1 : decide (pb < pa) = false := by simp; omega
      have u2 : decide (pc < pa) = false := by simp; omega
      have u3 : decide (pd < pb) = false := by simp; omega
      have u4 : decide (pd < pc) = false := by simp; omega
      have u5 : decide (1 < pd - pa) = false := by simp; omega
      have u7 : wrap64 (pd - pa) = pd - pa := IntWalk.wrap64_in _ (by omega)
      have h6 := h6 rfl
      have u6 : decide (x < pa) = false := by simp; omega
      have z0 := Kt.cell (i := 0) rfl
      have z1 := Kt.cell (i := 1) rfl
      have z2 := Kt.cell (i := 2) rfl
      have z3 := Kt.cell (i := 3) rfl
      have z4 := Kt.cell (i := 4) rfl
      go_wp2_with (fail)
      with_reducible refine (t1 _).mono ?_
      rintro e v0 ⟨rfl, hb⟩
      have N := below_new v0 (.cells #[.int .i64 pa, .int .i64 (x - pa)] 23)
      have Kt := (Kt.below hb).below N
      have B1 := below_step (below_step B1 hb B1.size) N (below_step B1 hb B1.size).size
      clear z0 z1 z2 z3 z4 hb N
      have z0 := Kt.cell (i := 0) rfl
      have z1 := Kt.cell (i := 1) rfl
      have z2 := Kt.cell (i := 2) rfl
      have z3 := Kt.cell (i := 3) rfl
      have z4 := Kt.cell (i := 4) rfl
      go_wp2_with (fail)
      with_reducible refine (t2 _).mono ?_
      rintro e v1 ⟨rfl, hb⟩
      have N := below_new v1 (.cells #[.int .i64 pb, .int .i64 (x + 1 - pb)] 23)
      have Kt := (Kt.below hb).below N
      have B1 := below_step (below_step B1 hb B1.size) N (below_step B1 hb B1.size).size
      clear z0 z1 z2 z3 z4 hb N
      have z0 := Kt.cell (i := 0) rfl
      have z1 := Kt.cell (i := 1) rfl
      have z2 := Kt.cell (i := 2) rfl
      have z3 := Kt.cell (i := 3) rfl
      have z4 := Kt.cell (i := 4) rfl
      go_wp2_with (fail)
      with_reducible refine (t3 _).mono ?_
      rintro e v2 ⟨rfl, hb⟩
      have N := below_new v2 (.cells #[.int .i64 pc, .int .i64 (x - pc)] 23)
      have Kt := (Kt.below hb).below N
      have B1 := below_step (below_step B1 hb B1.size) N (below_step B1 hb B1.size).size
      clear z0 z1 z2 z3 z4 hb N
      have z0 := Kt.cell (i := 0) rfl
      have z1 := Kt.cell (i := 1) rfl
      have z2 := Kt.cell (i := 2) rfl
      have z3 := Kt.cell (i := 3) rfl
      have z4 := Kt.cell (i := 4) rfl
      go_wp2_with (fail)
      with_reducible refine (t4 _).mono ?_
      rintro e v3 ⟨rfl, hb⟩
      have N := below_new v3 (.cells #[.int .i64 pd, .int .i64 (x + 1 - pd)] 23)
      have Kt := (Kt.below hb).below N
      have B1 := below_step (below_step B1 hb B1.size) N (below_step B1 hb B1.size).size
      clear z0 z1 z2 z3 z4 hb N
      have z0 := Kt.cell (i := 0) rfl
      have z1 := Kt.cell (i := 1) rfl
      have z2 := Kt.cell (i := 2) rfl
      have z3 := Kt.cell (i := 3) rfl
      have z4 := Kt.cell (i := 4) rfl
      go_wp2
      all_goals exact ⟨⟨2, by omega, rfl, Kt, B1⟩, by simp [intOf]⟩
    · go_wp2
      go_ret
      exact ⟨rfl, B1⟩
theorem wHoldRises (r x c : Int) (w : World) (hr : -9223372036854775808 ≤ r ∧ r ≤ 9223372036854775807) (hx : -9223372036854775808 ≤ x ∧ x ≤ 9223372036854775807) (hc : -9223372036854775808 ≤ c ∧ c ≤ 9223372036854775807) :
    Calls Try.prog 6 #[.int .i64 r, .int .i64 x, .int .i64 c] w fun e w' => e = .returned (.bool true) ∧ Below w.heap.size w w' := by
  by_cases h : r < 0 ∨ 10000 < r ∨ 50000000000 < x ∨ x < -50000000000 ∨ 50000000000 < c ∨ c < -50000000000
  · exact hr_out r x c w h
  · exact hr_in r x c w (by omega) (by omega) (by omega) (by omega) (by omega) (by omega)
end Go.Proofs.Ytgekojbmlppmdaa
