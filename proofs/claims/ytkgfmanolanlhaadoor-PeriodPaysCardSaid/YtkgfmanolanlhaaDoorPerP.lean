/- What the calls of period answer: PayDay, Days, Quarter. -/
import Derived.Test.YtkgfmanolanlhaaDoorPerG
namespace Go.Proofs.YtkgfmanolanlhaaDoor
open Go.RowKit
set_option linter.unusedVariables false
set_option linter.unusedSimpArgs false


theorem payday_no (p : Nat) (f y m d k : Int) (W : World) (Y : Yr W p f y m d) (h : yrB y m d = true) (hf : 1 ≤ f) (hf' : f ≤ 4) (hk : k < 1 ∨ cnt f y m d < k) :
    Calls Tryd.prog 37 #[.pointer (some ⟨p, 0, none⟩), .int .i64 k] W fun e w' => e = .returned (.tuple #[.agg #[.int .i64 0, .int .i64 0, .int .i64 0], .int .i64 1]) ∧ Below W.heap.size W w' := by
  have hsp := fun W Y => span_no p f y m d k W Y h hf hf' hk
  have S0 := slot_new W 23
  have Bw : Below W.heap.size W (W.alloc (.cells #[.int .i64 0, .int .i64 0, .int .i64 0] 23)) := (Below.refl _ _).alloc (Nat.le_refl _) _
  have Y0 := Y.below Bw
  go_enter Tryd.func37, Tryd.ntmps37
  go_wp2_with (fail)
  refine (hsp _ Y0).mono ?_
  rintro e w1 ⟨rfl, hb⟩
  obtain ⟨⟨r0, r1, r2⟩, ⟨f0, f1, f2⟩, hz⟩ := S0.below hb
  have B1 := below_step Bw hb (by simp)
  have hb2 := two_base w1 #[.int .i64 0, .int .i64 0, .int .i64 0] #[.int .i64 0, .int .i64 0, .int .i64 0] 23 23
  have B2 := below_step B1 hb2 B1.size
  obtain ⟨⟨x0, x1, x2⟩, ⟨g0, g1, g2⟩, hz2⟩ := (show Slot w1 W.heap.size from ⟨⟨r0, r1, r2⟩, ⟨f0, f1, f2⟩, hz⟩).below hb2
  clear hb hb2 S0 Bw Y0
  go_wp2
  exact bodyPost_ret (v := .tuple #[.agg #[.int .i64 0, .int .i64 0, .int .i64 0], .int .i64 1]) (by simp [results, Tryd.results37, go_sem, hz, r0, r1, r2, x0, x1, x2, World.cell?_alloc_lt]) rfl ⟨rfl, by first | exact B2 | exact ((((B1.setCell (by simp) _).setCell (by simp) _).setCell (by simp) _).alloc (by simp; omega) _).alloc (by simp; omega) _ | exact ((B2.setCell (by simp) _).setCell (by simp) _).setCell (by simp) _⟩
theorem payday_yes (p : Nat) (f y m d k : Int) (W : World) (Y : Yr W p f y m d) (h : yrB y m d = true) (hf : 1 ≤ f) (hf' : f ≤ 4) (hk : 1 ≤ k) (hk' : k ≤ cnt f y m d) :
    Calls Tryd.prog 37 #[.pointer (some ⟨p, 0, none⟩), .int .i64 k] W fun e w' => e = .returned (.tuple #[.agg #[.int .i64 (yOf (bkN (pe f y m d k))), .int .i64 (mOf (bkN (pe f y m d k))), .int .i64 (dOf (bkN (pe f y m d k)))], .int .i64 0]) ∧ Below W.heap.size W w' := by
  have hsp := fun W Y => span_yes p f y m d k W Y h hf hf' hk hk'
  obtain ⟨⟨d1, d2⟩, ⟨d3, d4⟩, d5, d6⟩ := per_days hf hf' h hk hk'
  have hbk := back_yes _ _ _ d3
  rw [d4] at hbk
  clear d1 d2 d3 d4 d5 d6 h hk hk'
  generalize yOf (bkN (pe f y m d k)) = b1 at *
  generalize mOf (bkN (pe f y m d k)) = b2 at *
  generalize dOf (bkN (pe f y m d k)) = b3 at *
  generalize yOf (pb f y m d k) = u1 at *
  generalize mOf (pb f y m d k) = u2 at *
  generalize dOf (pb f y m d k) = u3 at *
  generalize yOf (pe f y m d k) = u4 at *
  generalize mOf (pe f y m d k) = u5 at *
  generalize dOf (pe f y m d k) = u6 at *
  have S0 := slot_new W 23
  have Bw : Below W.heap.size W (W.alloc (.cells #[.int .i64 0, .int .i64 0, .int .i64 0] 23)) := (Below.refl _ _).alloc (Nat.le_refl _) _
  have Y0 := Y.below Bw
  go_enter Tryd.func37, Tryd.ntmps37
  go_wp2_with (fail)
  refine (hsp _ Y0).mono ?_
  rintro e w1 ⟨rfl, hb⟩
  have S1 := S0.below hb
  have B1 := below_step Bw hb (by simp)
  have hb2 := two_base w1 #[.int .i64 u1, .int .i64 u2, .int .i64 u3] #[.int .i64 u4, .int .i64 u5, .int .i64 u6] 23 23
  have B2 := below_step B1 hb2 B1.size
  have S2 := S1.below hb2
  obtain ⟨⟨t0, t1, t2⟩, ⟨t3, t4, t5⟩, tz⟩ := box2_new w1 u1 u2 u3 u4 u5 u6 23 23
  clear hb hb2 S0 Bw Y0 S1 B1
  go_wp2_with (fail)
  refine (hbk _).mono ?_
  rintro e w2 ⟨rfl, hb⟩
  obtain ⟨⟨r0, r1, r2⟩, ⟨f0, f1, f2⟩, hz⟩ := S2.below hb
  have B3 := below_step B2 hb B2.size
  clear hb S2 B2
  go_wp2
  exact bodyPost_ret (v := .tuple #[.agg #[.int .i64 b1, .int .i64 b2, .int .i64 b3], .int .i64 0]) (by simp [results, Tryd.results37, go_sem, hz, r0, r1, r2]) rfl ⟨rfl, ((B3.setCell (by simp) _).setCell (by simp) _).setCell (by simp) _⟩
theorem days_no (p : Nat) (f y m d k : Int) (W : World) (Y : Yr W p f y m d) (h : yrB y m d = true) (hf : 1 ≤ f) (hf' : f ≤ 4) (hk : k < 1 ∨ cnt f y m d < k) :
    Calls Tryd.prog 39 #[.pointer (some ⟨p, 0, none⟩), .int .i64 k] W fun e w' => e = .returned (.tuple #[.int .i64 0, .int .i64 1]) ∧ Below W.heap.size W w' := by
  have hsp := span_no p f y m d k W Y h hf hf' hk
  go_enter Tryd.func39, Tryd.ntmps39
  go_wp2_with (fail)
  refine hsp.mono ?_
  rintro e w1 ⟨rfl, hb⟩
  go_wp2
  go_ret2
  exact ⟨rfl, (hb.alloc hb.size _).alloc (by have := hb.size; simp; omega) _⟩
theorem days_yes (p : Nat) (f y m d k : Int) (W : World) (Y : Yr W p f y m d) (h : yrB y m d = true) (hf : 1 ≤ f) (hf' : f ≤ 4) (hk : 1 ≤ k) (hk' : k ≤ cnt f y m d) :
    Calls Tryd.prog 39 #[.pointer (some ⟨p, 0, none⟩), .int .i64 k] W fun e w' => e = .returned (.tuple #[.int .i64 (pe f y m d k - pb f y m d k + 1), .int .i64 0]) ∧ Below W.heap.size W w' := by
  have hsp := span_yes p f y m d k W Y h hf hf' hk hk'
  obtain ⟨⟨d1, d2⟩, ⟨d3, d4⟩, d5, d6⟩ := per_days hf hf' h hk hk'
  have hbt := between_yes _ _ _ _ _ _ d1 d3
  rw [d2, d4] at hbt
  obtain ⟨g1, g2, g3⟩ := pe_bd hf hf' h hk hk'
  clear d1 d2 d3 d4 h hk hk'
  generalize yOf (pb f y m d k) = u1 at *
  generalize mOf (pb f y m d k) = u2 at *
  generalize dOf (pb f y m d k) = u3 at *
  generalize yOf (pe f y m d k) = u4 at *
  generalize mOf (pe f y m d k) = u5 at *
  generalize dOf (pe f y m d k) = u6 at *
  generalize pe f y m d k = nb at *
  generalize pb f y m d k = na at *
  go_enter Tryd.func39, Tryd.ntmps39
  go_wp2_with (fail)
  refine hsp.mono ?_
  rintro e w1 ⟨rfl, hb⟩
  have hb2 := two_base w1 #[.int .i64 u1, .int .i64 u2, .int .i64 u3] #[.int .i64 u4, .int .i64 u5, .int .i64 u6] 23 23
  have B2 := below_step hb hb2 hb.size
  obtain ⟨⟨t0, t1, t2⟩, ⟨t3, t4, t5⟩, tz⟩ := box2_new w1 u1 u2 u3 u4 u5 u6 23 23
  clear hb hb2
  go_wp2_with (fail)
  refine (hbt _).mono ?_
  rintro e w2 ⟨rfl, hb⟩
  have B3 := below_step B2 hb B2.size
  go_wp2
  go_ret2
  exact ⟨rfl, B3⟩
theorem quarter_no (p : Nat) (f y m d k : Int) (W : World) (Y : Yr W p f y m d) (h : yrB y m d = true) (hf : 1 ≤ f) (hf' : f ≤ 4) (hk : k < 1 ∨ cnt f y m d < k) :
    Calls Tryd.prog 38 #[.pointer (some ⟨p, 0, none⟩), .int .i64 k] W fun e w' => e = .returned (.tuple #[.int .i64 0, .int .i64 1]) ∧ Below W.heap.size W w' := by
  have hsp := span_no p f y m d k W Y h hf hf' hk
  go_enter Tryd.func38, Tryd.ntmps38
  go_wp2_with (fail)
  refine hsp.mono ?_
  rintro e w1 ⟨rfl, hb⟩
  go_wp2
  go_ret2
  exact ⟨rfl, (hb.alloc hb.size _).alloc (by have := hb.size; simp; omega) _⟩
/-- in which quarter a day is -/
def qtr (y m d n : Int) : Int := if pb 4 y m d 10 ≤ n then 4 else if pb 4 y m d 7 ≤ n then 3 else if pb 4 y m d 4 ≤ n then 2 else 1
theorem qtr_rise (y m d : Int) : pb 4 y m d 4 < pb 4 y m d 7 ∧ pb 4 y m d 7 < pb 4 y m d 10 := by
  have a := pb_mono (f := 4) (y := y) (m := m) (d := d) (a := 4) (b := 7) (by omega) (by omega) (by omega)
  have b := pb_mono (f := 4) (y := y) (m := m) (d := d) (a := 7) (b := 10) (by omega) (by omega) (by omega)
  omega
theorem months_in {y m d j : Int} (h : yrB y m d = true) (hj : 0 ≤ j) (hj' : j ≤ 11) (w : World) : Calls Tryd.prog 23 #[.agg #[.int .i64 y, .int .i64 m, .int .i64 d], .int .i64 j] w fun e w' => e = .returned (.tuple #[.agg #[.int .i64 (yOf (pb 4 y m d (j + 1))), .int .i64 (mOf (pb 4 y m d (j + 1))), .int .i64 (dOf (pb 4 y m d (j + 1)))], .int .i64 0]) ∧ Below w.heap.size w w' := by
  obtain ⟨h0, h1, h2⟩ := yrB_yes h
  obtain ⟨a1, a2, a3, a4, a5, a6⟩ := dayB_yes h0
  have hm := months_yes y m d j h0 (mt_in a1 h1 a3 a4 hj (by omega)) w
  obtain ⟨p1, p2, p3⟩ := pb_month (k := j + 1) h (by omega) (by omega)
  rw [show j + 1 - 1 = j by omega] at p1 p2 p3
  rw [p1, p2, p3] at hm
  exact hm
theorem cmp3_le {y m d y' m' d' : Int} (h : dayB y m d = true) (h' : dayB y' m' d' = true) : decide (cmp3 y m d y' m' d' ≤ 0) = decide (num y m d ≤ num y' m' d') := by
  rcases cmp3_cases y m d y' m' d' h h' with ⟨e, l⟩ | ⟨e, l⟩ | ⟨e, l, _⟩
  · rw [e]; simp; omega
  · rw [e]; simp; omega
  · rw [e]; simp; omega

set_option maxRecDepth 100000 in
set_option maxHeartbeats 4000000 in
theorem quarter_yes (p : Nat) (f y m d k : Int) (W : World) (Y : Yr W p f y m d) (h : yrB y m d = true) (hf : 1 ≤ f) (hf' : f ≤ 4) (hk : 1 ≤ k) (hk' : k ≤ cnt f y m d) :
    Calls Tryd.prog 38 #[.pointer (some ⟨p, 0, none⟩), .int .i64 k] W fun e w' => e = .returned (.tuple #[.int .i64 (qtr y m d (pe f y m d k)), .int .i64 0]) ∧ Below W.heap.size W w' := by
  have hsp := span_yes p f y m d k W Y h hf hf' hk hk'
  obtain ⟨⟨d1, d2⟩, ⟨d3, d4⟩, d5, d6⟩ := per_days hf hf' h hk hk'
  have c12 : cnt 4 y m d = 12 := by simp [cnt]
  have hm3 := months_in (j := 3) h (by omega) (by omega)
  rw [show (3 : Int) + 1 = 4 from rfl] at hm3
  obtain ⟨⟨x1, x2⟩, _, _, _⟩ := per_days (f := 4) (k := 4) (by omega) (by omega) h (by omega) (by omega)
  have hc3 := compare_int (yOf (pb 4 y m d 4)) (mOf (pb 4 y m d 4)) (dOf (pb 4 y m d 4)) (yOf (pe f y m d k)) (mOf (pe f y m d k)) (dOf (pe f y m d k))
  have hv3 := cmp3_le x1 d3
  rw [x2, d4] at hv3
  clear x1 x2
  have hm6 := months_in (j := 6) h (by omega) (by omega)
  rw [show (6 : Int) + 1 = 7 from rfl] at hm6
  obtain ⟨⟨x1, x2⟩, _, _, _⟩ := per_days (f := 4) (k := 7) (by omega) (by omega) h (by omega) (by omega)
  have hc6 := compare_int (yOf (pb 4 y m d 7)) (mOf (pb 4 y m d 7)) (dOf (pb 4 y m d 7)) (yOf (pe f y m d k)) (mOf (pe f y m d k)) (dOf (pe f y m d k))
  have hv6 := cmp3_le x1 d3
  rw [x2, d4] at hv6
  clear x1 x2
  have hm9 := months_in (j := 9) h (by omega) (by omega)
  rw [show (9 : Int) + 1 = 10 from rfl] at hm9
  obtain ⟨⟨x1, x2⟩, _, _, _⟩ := per_days (f := 4) (k := 10) (by omega) (by omega) h (by omega) (by omega)
  have hc9 := compare_int (yOf (pb 4 y m d 10)) (mOf (pb 4 y m d 10)) (dOf (pb 4 y m d 10)) (yOf (pe f y m d k)) (mOf (pe f y m d k)) (dOf (pe f y m d k))
  have hv9 := cmp3_le x1 d3
  rw [x2, d4] at hv9
  clear x1 x2
  have hq := qtr_rise y m d
  obtain ⟨hq1, hq2⟩ := hq
  unfold qtr
  clear d1 d2 d3 d4 d5 d6 h hk hk' c12
  generalize cmp3 (yOf (pb 4 y m d 4)) (mOf (pb 4 y m d 4)) (dOf (pb 4 y m d 4)) (yOf (pe f y m d k)) (mOf (pe f y m d k)) (dOf (pe f y m d k)) = v3 at *
  generalize cmp3 (yOf (pb 4 y m d 7)) (mOf (pb 4 y m d 7)) (dOf (pb 4 y m d 7)) (yOf (pe f y m d k)) (mOf (pe f y m d k)) (dOf (pe f y m d k)) = v6 at *
  generalize cmp3 (yOf (pb 4 y m d 10)) (mOf (pb 4 y m d 10)) (dOf (pb 4 y m d 10)) (yOf (pe f y m d k)) (mOf (pe f y m d k)) (dOf (pe f y m d k)) = v9 at *
  generalize yOf (pb 4 y m d 4) = a3 at *
  generalize mOf (pb 4 y m d 4) = b3 at *
  generalize dOf (pb 4 y m d 4) = c3 at *
  generalize yOf (pb 4 y m d 7) = a6 at *
  generalize mOf (pb 4 y m d 7) = b6 at *
  generalize dOf (pb 4 y m d 7) = c6 at *
  generalize yOf (pb 4 y m d 10) = a9 at *
  generalize mOf (pb 4 y m d 10) = b9 at *
  generalize dOf (pb 4 y m d 10) = c9 at *
  generalize yOf (pe f y m d k) = u4 at *
  generalize mOf (pe f y m d k) = u5 at *
  generalize dOf (pe f y m d k) = u6 at *
  generalize yOf (pb f y m d k) = u1 at *
  generalize mOf (pb f y m d k) = u2 at *
  generalize dOf (pb f y m d k) = u3 at *
  generalize pb 4 y m d 4 = m3 at *
  generalize pb 4 y m d 7 = m6 at *
  generalize pb 4 y m d 10 = m9 at *
  generalize pe f y m d k = n at *
  have ix0 := index3_0 3 6 9
  have ix1 := index3_1 3 6 9
  have ix2 := index3_2 3 6 9

  by_cases q1 : m9 ≤ n
  · have e : (if m9 ≤ n then (4 : Int) else if m6 ≤ n then 3 else if m3 ≤ n then 2 else 1) = 4 := by (repeat' split) <;> omega
    rw [e]
    clear e
    have g3 : v3 ≤ 0 := by
      have : decide (v3 ≤ 0) = true := by rw [hv3]; simp; omega
      simpa using this
    have g6 : v6 ≤ 0 := by
      have : decide (v6 ≤ 0) = true := by rw [hv6]; simp; omega
      simpa using this
    have g9 : v9 ≤ 0 := by
      have : decide (v9 ≤ 0) = true := by rw [hv9]; simp; omega
      simpa using this
    clear hv3 hv6 hv9
    go_enter Tryd.func38, Tryd.ntmps38
    go_wp2_with (fail)
    refine hsp.mono ?_
    rintro e w1 ⟨rfl, hb⟩
    have Y1 := Y.below hb
    have hb2 := two_base w1 #[.int .i64 u1, .int .i64 u2, .int .i64 u3] #[.int .i64 u4, .int .i64 u5, .int .i64 u6] 23 23
    have B2 := below_step hb hb2 hb.size
    have Y2 := Y1.below hb2
    have T2 := box2_new w1 u1 u2 u3 u4 u5 u6 23 23
    clear hb hb2 Y1 Y hsp
    go_wp2
    generalize (w1.alloc (.cells #[.int .i64 u1, .int .i64 u2, .int .i64 u3] 23)).alloc (.cells #[.int .i64 u4, .int .i64 u5, .int .i64 u6] 23) = w2 at *
    obtain ⟨_, _, ⟨s1, s2, s3⟩, _⟩ := id Y2
    refine wp_loop_rounds 4 ?_
    rw [rounds_succ]
    go_wp2_with (fail)
    refine (hm3 _).mono ?_
    rintro e w3 ⟨rfl, hb⟩
    have Y3 := Y2.below hb
    have T3 := T2.below hb
    have B3 := below_step B2 hb B2.size
    have hb2 : Below w3.heap.size w3 (w3.alloc (.cells #[.int .i64 a3, .int .i64 b3, .int .i64 c3] 23)) := (Below.refl _ _).alloc (Nat.le_refl _) _
    obtain ⟨n0, n1, n2⟩ := day_new w3 a3 b3 c3 23
    have Y4 := Y3.below hb2
    have T4 := T3.below hb2
    have B4 := below_step B3 hb2 B3.size
    obtain ⟨⟨t0, t1, t2⟩, ⟨t3, t4, t5⟩, tz⟩ := id T4
    clear hb hb2 s1 s2 s3
    go_wp2_with (fail)
    refine (hc3 _).mono ?_
    rintro e w5 ⟨rfl, hb⟩
    have Y5 := Y4.below hb
    have T5 := T4.below hb
    have B5 := below_step B4 hb B4.size
    clear hb t0 t1 t2 t3 t4 t5 tz n0 n1 n2
    obtain ⟨_, _, ⟨s1, s2, s3⟩, _⟩ := id Y5
    go_wp2
    rw [rounds_succ]
    go_wp2_with (fail)
    refine (hm6 _).mono ?_
    rintro e w6 ⟨rfl, hb⟩
    have Y6 := Y5.below hb
    have T6 := T5.below hb
    have B6 := below_step B5 hb B5.size
    have hb2 : Below w6.heap.size w6 (w6.alloc (.cells #[.int .i64 a6, .int .i64 b6, .int .i64 c6] 23)) := (Below.refl _ _).alloc (Nat.le_refl _) _
    obtain ⟨n0, n1, n2⟩ := day_new w6 a6 b6 c6 23
    have Y7 := Y6.below hb2
    have T7 := T6.below hb2
    have B7 := below_step B6 hb2 B6.size
    obtain ⟨⟨t0, t1, t2⟩, ⟨t3, t4, t5⟩, tz⟩ := id T7
    clear hb hb2 s1 s2 s3
    go_wp2_with (fail)
    refine (hc6 _).mono ?_
    rintro e w8 ⟨rfl, hb⟩
    have Y8 := Y7.below hb
    have T8 := T7.below hb
    have B8 := below_step B7 hb B7.size
    clear hb t0 t1 t2 t3 t4 t5 tz n0 n1 n2
    obtain ⟨_, _, ⟨s1, s2, s3⟩, _⟩ := id Y8
    go_wp2
    rw [rounds_succ]
    go_wp2_with (fail)
    refine (hm9 _).mono ?_
    rintro e w9 ⟨rfl, hb⟩
    have Y9 := Y8.below hb
    have T9 := T8.below hb
    have B9 := below_step B8 hb B8.size
    have hb2 : Below w9.heap.size w9 (w9.alloc (.cells #[.int .i64 a9, .int .i64 b9, .int .i64 c9] 23)) := (Below.refl _ _).alloc (Nat.le_refl _) _
    obtain ⟨n0, n1, n2⟩ := day_new w9 a9 b9 c9 23
    have Y10 := Y9.below hb2
    have T10 := T9.below hb2
    have B10 := below_step B9 hb2 B9.size
    obtain ⟨⟨t0, t1, t2⟩, ⟨t3, t4, t5⟩, tz⟩ := id T10
    clear hb hb2 s1 s2 s3
    go_wp2_with (fail)
    refine (hc9 _).mono ?_
    rintro e w11 ⟨rfl, hb⟩
    have Y11 := Y10.below hb
    have T11 := T10.below hb
    have B11 := below_step B10 hb B10.size
    clear hb t0 t1 t2 t3 t4 t5 tz n0 n1 n2
    obtain ⟨_, _, ⟨s1, s2, s3⟩, _⟩ := id Y11
    go_wp2
    rw [rounds_succ]
    go_wp2
    go_ret2
    exact ⟨rfl, B11⟩

  by_cases q2 : m6 ≤ n
  · have e : (if m9 ≤ n then (4 : Int) else if m6 ≤ n then 3 else if m3 ≤ n then 2 else 1) = 3 := by (repeat' split) <;> omega
    rw [e]
    clear e
    have g3 : v3 ≤ 0 := by
      have : decide (v3 ≤ 0) = true := by rw [hv3]; simp; omega
      simpa using this
    have g6 : v6 ≤ 0 := by
      have : decide (v6 ≤ 0) = true := by rw [hv6]; simp; omega
      simpa using this
    have g9 : ¬ v9 ≤ 0 := by
      have : decide (v9 ≤ 0) = false := by rw [hv9]; simp; omega
      simpa using this
    clear hv3 hv6 hv9
    go_enter Tryd.func38, Tryd.ntmps38
    go_wp2_with (fail)
    refine hsp.mono ?_
    rintro e w1 ⟨rfl, hb⟩
    have Y1 := Y.below hb
    have hb2 := two_base w1 #[.int .i64 u1, .int .i64 u2, .int .i64 u3] #[.int .i64 u4, .int .i64 u5, .int .i64 u6] 23 23
    have B2 := below_step hb hb2 hb.size
    have Y2 := Y1.below hb2
    have T2 := box2_new w1 u1 u2 u3 u4 u5 u6 23 23
    clear hb hb2 Y1 Y hsp
    go_wp2
    generalize (w1.alloc (.cells #[.int .i64 u1, .int .i64 u2, .int .i64 u3] 23)).alloc (.cells #[.int .i64 u4, .int .i64 u5, .int .i64 u6] 23) = w2 at *
    obtain ⟨_, _, ⟨s1, s2, s3⟩, _⟩ := id Y2
    refine wp_loop_rounds 4 ?_
    rw [rounds_succ]
    go_wp2_with (fail)
    refine (hm3 _).mono ?_
    rintro e w3 ⟨rfl, hb⟩
    have Y3 := Y2.below hb
    have T3 := T2.below hb
    have B3 := below_step B2 hb B2.size
    have hb2 : Below w3.heap.size w3 (w3.alloc (.cells #[.int .i64 a3, .int .i64 b3, .int .i64 c3] 23)) := (Below.refl _ _).alloc (Nat.le_refl _) _
    obtain ⟨n0, n1, n2⟩ := day_new w3 a3 b3 c3 23
    have Y4 := Y3.below hb2
    have T4 := T3.below hb2
    have B4 := below_step B3 hb2 B3.size
    obtain ⟨⟨t0, t1, t2⟩, ⟨t3, t4, t5⟩, tz⟩ := id T4
    clear hb hb2 s1 s2 s3
    go_wp2_with (fail)
    refine (hc3 _).mono ?_
    rintro e w5 ⟨rfl, hb⟩
    have Y5 := Y4.below hb
    have T5 := T4.below hb
    have B5 := below_step B4 hb B4.size
    clear hb t0 t1 t2 t3 t4 t5 tz n0 n1 n2
    obtain ⟨_, _, ⟨s1, s2, s3⟩, _⟩ := id Y5
    go_wp2
    rw [rounds_succ]
    go_wp2_with (fail)
    refine (hm6 _).mono ?_
    rintro e w6 ⟨rfl, hb⟩
    have Y6 := Y5.below hb
    have T6 := T5.below hb
    have B6 := below_step B5 hb B5.size
    have hb2 : Below w6.heap.size w6 (w6.alloc (.cells #[.int .i64 a6, .int .i64 b6, .int .i64 c6] 23)) := (Below.refl _ _).alloc (Nat.le_refl _) _
    obtain ⟨n0, n1, n2⟩ := day_new w6 a6 b6 c6 23
    have Y7 := Y6.below hb2
    have T7 := T6.below hb2
    have B7 := below_step B6 hb2 B6.size
    obtain ⟨⟨t0, t1, t2⟩, ⟨t3, t4, t5⟩, tz⟩ := id T7
    clear hb hb2 s1 s2 s3
    go_wp2_with (fail)
    refine (hc6 _).mono ?_
    rintro e w8 ⟨rfl, hb⟩
    have Y8 := Y7.below hb
    have T8 := T7.below hb
    have B8 := below_step B7 hb B7.size
    clear hb t0 t1 t2 t3 t4 t5 tz n0 n1 n2
    obtain ⟨_, _, ⟨s1, s2, s3⟩, _⟩ := id Y8
    go_wp2
    rw [rounds_succ]
    go_wp2_with (fail)
    refine (hm9 _).mono ?_
    rintro e w9 ⟨rfl, hb⟩
    have Y9 := Y8.below hb
    have T9 := T8.below hb
    have B9 := below_step B8 hb B8.size
    have hb2 : Below w9.heap.size w9 (w9.alloc (.cells #[.int .i64 a9, .int .i64 b9, .int .i64 c9] 23)) := (Below.refl _ _).alloc (Nat.le_refl _) _
    obtain ⟨n0, n1, n2⟩ := day_new w9 a9 b9 c9 23
    have Y10 := Y9.below hb2
    have T10 := T9.below hb2
    have B10 := below_step B9 hb2 B9.size
    obtain ⟨⟨t0, t1, t2⟩, ⟨t3, t4, t5⟩, tz⟩ := id T10
    clear hb hb2 s1 s2 s3
    go_wp2_with (fail)
    refine (hc9 _).mono ?_
    rintro e w11 ⟨rfl, hb⟩
    have Y11 := Y10.below hb
    have T11 := T10.below hb
    have B11 := below_step B10 hb B10.size
    clear hb t0 t1 t2 t3 t4 t5 tz n0 n1 n2
    obtain ⟨_, _, ⟨s1, s2, s3⟩, _⟩ := id Y11
    go_wp2
    rw [rounds_succ]
    go_wp2
    go_ret2
    exact ⟨rfl, B11⟩

  by_cases q3 : m3 ≤ n
  · have e : (if m9 ≤ n then (4 : Int) else if m6 ≤ n then 3 else if m3 ≤ n then 2 else 1) = 2 := by (repeat' split) <;> omega
    rw [e]
    clear e
    have g3 : v3 ≤ 0 := by
      have : decide (v3 ≤ 0) = true := by rw [hv3]; simp; omega
      simpa using this
    have g6 : ¬ v6 ≤ 0 := by
      have : decide (v6 ≤ 0) = false := by rw [hv6]; simp; omega
      simpa using this
    have g9 : ¬ v9 ≤ 0 := by
      have : decide (v9 ≤ 0) = false := by rw [hv9]; simp; omega
      simpa using this
    clear hv3 hv6 hv9
    go_enter Tryd.func38, Tryd.ntmps38
    go_wp2_with (fail)
    refine hsp.mono ?_
    rintro e w1 ⟨rfl, hb⟩
    have Y1 := Y.below hb
    have hb2 := two_base w1 #[.int .i64 u1, .int .i64 u2, .int .i64 u3] #[.int .i64 u4, .int .i64 u5, .int .i64 u6] 23 23
    have B2 := below_step hb hb2 hb.size
    have Y2 := Y1.below hb2
    have T2 := box2_new w1 u1 u2 u3 u4 u5 u6 23 23
    clear hb hb2 Y1 Y hsp
    go_wp2
    generalize (w1.alloc (.cells #[.int .i64 u1, .int .i64 u2, .int .i64 u3] 23)).alloc (.cells #[.int .i64 u4, .int .i64 u5, .int .i64 u6] 23) = w2 at *
    obtain ⟨_, _, ⟨s1, s2, s3⟩, _⟩ := id Y2
    refine wp_loop_rounds 4 ?_
    rw [rounds_succ]
    go_wp2_with (fail)
    refine (hm3 _).mono ?_
    rintro e w3 ⟨rfl, hb⟩
    have Y3 := Y2.below hb
    have T3 := T2.below hb
    have B3 := below_step B2 hb B2.size
    have hb2 : Below w3.heap.size w3 (w3.alloc (.cells #[.int .i64 a3, .int .i64 b3, .int .i64 c3] 23)) := (Below.refl _ _).alloc (Nat.le_refl _) _
    obtain ⟨n0, n1, n2⟩ := day_new w3 a3 b3 c3 23
    have Y4 := Y3.below hb2
    have T4 := T3.below hb2
    have B4 := below_step B3 hb2 B3.size
    obtain ⟨⟨t0, t1, t2⟩, ⟨t3, t4, t5⟩, tz⟩ := id T4
    clear hb hb2 s1 s2 s3
    go_wp2_with (fail)
    refine (hc3 _).mono ?_
    rintro e w5 ⟨rfl, hb⟩
    have Y5 := Y4.below hb
    have T5 := T4.below hb
    have B5 := below_step B4 hb B4.size
    clear hb t0 t1 t2 t3 t4 t5 tz n0 n1 n2
    obtain ⟨_, _, ⟨s1, s2, s3⟩, _⟩ := id Y5
    go_wp2
    rw [rounds_succ]
    go_wp2_with (fail)
    refine (hm6 _).mono ?_
    rintro e w6 ⟨rfl, hb⟩
    have Y6 := Y5.below hb
    have T6 := T5.below hb
    have B6 := below_step B5 hb B5.size
    have hb2 : Below w6.heap.size w6 (w6.alloc (.cells #[.int .i64 a6, .int .i64 b6, .int .i64 c6] 23)) := (Below.refl _ _).alloc (Nat.le_refl _) _
    obtain ⟨n0, n1, n2⟩ := day_new w6 a6 b6 c6 23
    have Y7 := Y6.below hb2
    have T7 := T6.below hb2
    have B7 := below_step B6 hb2 B6.size
    obtain ⟨⟨t0, t1, t2⟩, ⟨t3, t4, t5⟩, tz⟩ := id T7
    clear hb hb2 s1 s2 s3
    go_wp2_with (fail)
    refine (hc6 _).mono ?_
    rintro e w8 ⟨rfl, hb⟩
    have Y8 := Y7.below hb
    have T8 := T7.below hb
    have B8 := below_step B7 hb B7.size
    clear hb t0 t1 t2 t3 t4 t5 tz n0 n1 n2
    obtain ⟨_, _, ⟨s1, s2, s3⟩, _⟩ := id Y8
    go_wp2
    rw [rounds_succ]
    go_wp2_with (fail)
    refine (hm9 _).mono ?_
    rintro e w9 ⟨rfl, hb⟩
    have Y9 := Y8.below hb
    have T9 := T8.below hb
    have B9 := below_step B8 hb B8.size
    have hb2 : Below w9.heap.size w9 (w9.alloc (.cells #[.int .i64 a9, .int .i64 b9, .int .i64 c9] 23)) := (Below.refl _ _).alloc (Nat.le_refl _) _
    obtain ⟨n0, n1, n2⟩ := day_new w9 a9 b9 c9 23
    have Y10 := Y9.below hb2
    have T10 := T9.below hb2
    have B10 := below_step B9 hb2 B9.size
    obtain ⟨⟨t0, t1, t2⟩, ⟨t3, t4, t5⟩, tz⟩ := id T10
    clear hb hb2 s1 s2 s3
    go_wp2_with (fail)
    refine (hc9 _).mono ?_
    rintro e w11 ⟨rfl, hb⟩
    have Y11 := Y10.below hb
    have T11 := T10.below hb
    have B11 := below_step B10 hb B10.size
    clear hb t0 t1 t2 t3 t4 t5 tz n0 n1 n2
    obtain ⟨_, _, ⟨s1, s2, s3⟩, _⟩ := id Y11
    go_wp2
    rw [rounds_succ]
    go_wp2
    go_ret2
    exact ⟨rfl, B11⟩

  have e : (if m9 ≤ n then (4 : Int) else if m6 ≤ n then 3 else if m3 ≤ n then 2 else 1) = 1 := by (repeat' split) <;> omega
  rw [e]
  clear e
  have g3 : ¬ v3 ≤ 0 := by
    have : decide (v3 ≤ 0) = false := by rw [hv3]; simp; omega
    simpa using this
  have g6 : ¬ v6 ≤ 0 := by
    have : decide (v6 ≤ 0) = false := by rw [hv6]; simp; omega
    simpa using this
  have g9 : ¬ v9 ≤ 0 := by
    have : decide (v9 ≤ 0) = false := by rw [hv9]; simp; omega
    simpa using this
  clear hv3 hv6 hv9
  go_enter Tryd.func38, Tryd.ntmps38
  go_wp2_with (fail)
  refine hsp.mono ?_
  rintro e w1 ⟨rfl, hb⟩
  have Y1 := Y.below hb
  have hb2 := two_base w1 #[.int .i64 u1, .int .i64 u2, .int .i64 u3] #[.int .i64 u4, .int .i64 u5, .int .i64 u6] 23 23
  have B2 := below_step hb hb2 hb.size
  have Y2 := Y1.below hb2
  have T2 := box2_new w1 u1 u2 u3 u4 u5 u6 23 23
  clear hb hb2 Y1 Y hsp
  go_wp2
  generalize (w1.alloc (.cells #[.int .i64 u1, .int .i64 u2, .int .i64 u3] 23)).alloc (.cells #[.int .i64 u4, .int .i64 u5, .int .i64 u6] 23) = w2 at *
  obtain ⟨_, _, ⟨s1, s2, s3⟩, _⟩ := id Y2
  refine wp_loop_rounds 4 ?_
  rw [rounds_succ]
  go_wp2_with (fail)
  refine (hm3 _).mono ?_
  rintro e w3 ⟨rfl, hb⟩
  have Y3 := Y2.below hb
  have T3 := T2.below hb
  have B3 := below_step B2 hb B2.size
  have hb2 : Below w3.heap.size w3 (w3.alloc (.cells #[.int .i64 a3, .int .i64 b3, .int .i64 c3] 23)) := (Below.refl _ _).alloc (Nat.le_refl _) _
  obtain ⟨n0, n1, n2⟩ := day_new w3 a3 b3 c3 23
  have Y4 := Y3.below hb2
  have T4 := T3.below hb2
  have B4 := below_step B3 hb2 B3.size
  obtain ⟨⟨t0, t1, t2⟩, ⟨t3, t4, t5⟩, tz⟩ := id T4
  clear hb hb2 s1 s2 s3
  go_wp2_with (fail)
  refine (hc3 _).mono ?_
  rintro e w5 ⟨rfl, hb⟩
  have Y5 := Y4.below hb
  have T5 := T4.below hb
  have B5 := below_step B4 hb B4.size
  clear hb t0 t1 t2 t3 t4 t5 tz n0 n1 n2
  obtain ⟨_, _, ⟨s1, s2, s3⟩, _⟩ := id Y5
  go_wp2
  rw [rounds_succ]
  go_wp2_with (fail)
  refine (hm6 _).mono ?_
  rintro e w6 ⟨rfl, hb⟩
  have Y6 := Y5.below hb
  have T6 := T5.below hb
  have B6 := below_step B5 hb B5.size
  have hb2 : Below w6.heap.size w6 (w6.alloc (.cells #[.int .i64 a6, .int .i64 b6, .int .i64 c6] 23)) := (Below.refl _ _).alloc (Nat.le_refl _) _
  obtain ⟨n0, n1, n2⟩ := day_new w6 a6 b6 c6 23
  have Y7 := Y6.below hb2
  have T7 := T6.below hb2
  have B7 := below_step B6 hb2 B6.size
  obtain ⟨⟨t0, t1, t2⟩, ⟨t3, t4, t5⟩, tz⟩ := id T7
  clear hb hb2 s1 s2 s3
  go_wp2_with (fail)
  refine (hc6 _).mono ?_
  rintro e w8 ⟨rfl, hb⟩
  have Y8 := Y7.below hb
  have T8 := T7.below hb
  have B8 := below_step B7 hb B7.size
  clear hb t0 t1 t2 t3 t4 t5 tz n0 n1 n2
  obtain ⟨_, _, ⟨s1, s2, s3⟩, _⟩ := id Y8
  go_wp2
  rw [rounds_succ]
  go_wp2_with (fail)
  refine (hm9 _).mono ?_
  rintro e w9 ⟨rfl, hb⟩
  have Y9 := Y8.below hb
  have T9 := T8.below hb
  have B9 := below_step B8 hb B8.size
  have hb2 : Below w9.heap.size w9 (w9.alloc (.cells #[.int .i64 a9, .int .i64 b9, .int .i64 c9] 23)) := (Below.refl _ _).alloc (Nat.le_refl _) _
  obtain ⟨n0, n1, n2⟩ := day_new w9 a9 b9 c9 23
  have Y10 := Y9.below hb2
  have T10 := T9.below hb2
  have B10 := below_step B9 hb2 B9.size
  obtain ⟨⟨t0, t1, t2⟩, ⟨t3, t4, t5⟩, tz⟩ := id T10
  clear hb hb2 s1 s2 s3
  go_wp2_with (fail)
  refine (hc9 _).mono ?_
  rintro e w11 ⟨rfl, hb⟩
  have Y11 := Y10.below hb
  have T11 := T10.below hb
  have B11 := below_step B10 hb B10.size
  clear hb t0 t1 t2 t3 t4 t5 tz n0 n1 n2
  obtain ⟨_, _, ⟨s1, s2, s3⟩, _⟩ := id Y11
  go_wp2
  rw [rounds_succ]
  go_wp2
  go_ret2
  exact ⟨rfl, B11⟩

end Go.Proofs.YtkgfmanolanlhaaDoor
