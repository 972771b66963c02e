/- What the calls of period answer: begin, Span. -/
import Derived.Test.YtkgfmanolanlhaaDoorPerA
import Derived.Test.YtkgfmanolanlhaaDoorRefDateC
namespace Go.Proofs.YtkgfmanolanlhaaDoor
open Go.RowKit
set_option linter.unusedVariables false
set_option linter.unusedSimpArgs false

theorem mt_in {y m k : Int} (hy : 1900 ≤ y) (hy' : y ≤ 2198) (hm : 1 ≤ m) (hm' : m ≤ 12) (hk : 0 ≤ k) (hk' : k ≤ 12) : mtB (mt y m k) = true := by
  unfold mtB mt
  rw [decide_eq_true_eq]
  omega
theorem pb_month {y m d k : Int} (h : yrB y m d = true) (hk : 1 ≤ k) (hk' : k ≤ 12) : yM (mt y m (k - 1)) = yOf (pb 4 y m d k) ∧ mM (mt y m (k - 1)) = mOf (pb 4 y m d k) ∧ dM (mt y m (k - 1)) d = dOf (pb 4 y m d k) := by
  obtain ⟨h0, h1, h2⟩ := yrB_yes h
  obtain ⟨a1, a2, a3, a4, a5, a6⟩ := dayB_yes h0
  have e : pb 4 y m d k = num (yM (mt y m (k - 1))) (mM (mt y m (k - 1))) (dM (mt y m (k - 1)) d) := by unfold pb; rw [if_pos rfl]
  rw [e]
  obtain ⟨a, b, c⟩ := of_num (months_day (d := d) (mt_in (k := k - 1) a1 h1 a3 a4 (by omega) (by omega)) a5)
  exact ⟨a.symm, b.symm, c.symm⟩
/-- a result's place, fresh and free -/
def Slot (W : World) (r : Nat) : Prop := Day W r 0 0 0 ∧ Free W r ∧ r < W.heap.size
theorem Slot.below {W W' : World} {r : Nat} (S : Slot W r) (hb : Below W.heap.size W W') : Slot W' r := ⟨S.1.below hb S.2.2, S.2.1.below hb S.2.2, by have := S.2.2; have := hb.size; omega⟩
theorem slot_new (W : World) (t : TypeId) : Slot (W.alloc (.cells #[.int .i64 0, .int .i64 0, .int .i64 0] t)) W.heap.size := ⟨day_new W 0 0 0 t, free_new W _ t, by simp⟩
set_option maxHeartbeats 1000000 in
theorem begin_any (p : Nat) (f y m d k : Int) (W : World) (Y : Yr W p f y m d) (h : yrB y m d = true) (hf : 1 ≤ f) (hf' : f ≤ 4) (hk : 1 ≤ k) (hk' : k ≤ cnt f y m d) :
    Calls Tryd.prog 60 #[.pointer (some ⟨p, 0, none⟩), .int .i64 k] W fun e w' => e = .returned (.agg #[.int .i64 (yOf (pb f y m d k)), .int .i64 (mOf (pb f y m d k)), .int .i64 (dOf (pb f y m d k))]) ∧ Below W.heap.size W w' := by
  obtain ⟨h0, h1, h2⟩ := yrB_yes h
  obtain ⟨a1, a2, a3, a4, a5, a6⟩ := dayB_yes h0
  obtain ⟨n1, n2, n3, n4⟩ := pb_bd hf hf' h hk hk'
  have hcb := cnt_bd (y := y) (d := d) hf hf' a3
  have hk53 : k ≤ 53 := by omega
  have S0 := slot_new W 23
  have Bw : Below W.heap.size W (W.alloc (.cells #[.int .i64 0, .int .i64 0, .int .i64 0] 23)) := (Below.refl _ _).alloc (Nat.le_refl _) _
  have Y0 := Y.below Bw
  obtain ⟨⟨k3, k4, k5, k6, k7, k8, k9, k10, k11, k12, k13, k14, hgz⟩, c0, ⟨c1, c2, c3⟩, ⟨c4, c5, c6⟩, hp⟩ := id Y0
  rcases freq_cases hf hf' with rfl | rfl | rfl | rfl
  · have hpb : num y m d + (k - 1) * 7 = pb 1 y m d k := by simp [pb, pd]
    have ha := add_yes y m d ((k - 1) * 7) h0 (by omega) (by omega)
    rw [hpb] at ha
    clear h h0 h1 h2 n1 n2 n3 n4 hcb hk' hpb
    generalize pb 1 y m d k = n at *
    go_enter Tryd.func60, Tryd.ntmps60
    go_wp2_with (fail)
    refine (ha _).mono ?_
    rintro e w1 ⟨rfl, hb⟩
    have S1 := S0.below hb
    have B1 := below_step Bw hb (by simp)
    clear hb S0 Bw Y0
    obtain ⟨⟨r0, r1, r2⟩, ⟨f0, f1, f2⟩, hz⟩ := S1
    go_wp2
    exact bodyPost_ret (v := .agg #[.int .i64 (yOf n), .int .i64 (mOf n), .int .i64 (dOf n)]) (by simp [results, Tryd.results60, go_sem, hz, r0, r1, r2, World.cell?_alloc_lt]) rfl ⟨rfl, (((B1.setCell (by simp) _).setCell (by simp) _).setCell (by simp) _).alloc (by simp; omega) _⟩
  · have hpb : num y m d + (k - 1) * 14 = pb 2 y m d k := by simp [pb, pd]
    have ha := add_yes y m d ((k - 1) * 14) h0 (by omega) (by omega)
    rw [hpb] at ha
    clear h h0 h1 h2 n1 n2 n3 n4 hcb hk' hpb
    generalize pb 2 y m d k = n at *
    go_enter Tryd.func60, Tryd.ntmps60
    go_wp2_with (fail)
    refine (ha _).mono ?_
    rintro e w1 ⟨rfl, hb⟩
    have S1 := S0.below hb
    have B1 := below_step Bw hb (by simp)
    clear hb S0 Bw Y0
    obtain ⟨⟨r0, r1, r2⟩, ⟨f0, f1, f2⟩, hz⟩ := S1
    go_wp2
    exact bodyPost_ret (v := .agg #[.int .i64 (yOf n), .int .i64 (mOf n), .int .i64 (dOf n)]) (by simp [results, Tryd.results60, go_sem, hz, r0, r1, r2, World.cell?_alloc_lt]) rfl ⟨rfl, (((B1.setCell (by simp) _).setCell (by simp) _).setCell (by simp) _).alloc (by simp; omega) _⟩
  · have hpb : num y m d + (k - 1) * 28 = pb 3 y m d k := by simp [pb, pd]
    have ha := add_yes y m d ((k - 1) * 28) h0 (by omega) (by omega)
    rw [hpb] at ha
    clear h h0 h1 h2 n1 n2 n3 n4 hcb hk' hpb
    generalize pb 3 y m d k = n at *
    go_enter Tryd.func60, Tryd.ntmps60
    go_wp2_with (fail)
    refine (ha _).mono ?_
    rintro e w1 ⟨rfl, hb⟩
    have S1 := S0.below hb
    have B1 := below_step Bw hb (by simp)
    clear hb S0 Bw Y0
    obtain ⟨⟨r0, r1, r2⟩, ⟨f0, f1, f2⟩, hz⟩ := S1
    go_wp2
    exact bodyPost_ret (v := .agg #[.int .i64 (yOf n), .int .i64 (mOf n), .int .i64 (dOf n)]) (by simp [results, Tryd.results60, go_sem, hz, r0, r1, r2, World.cell?_alloc_lt]) rfl ⟨rfl, (((B1.setCell (by simp) _).setCell (by simp) _).setCell (by simp) _).alloc (by simp; omega) _⟩
  · have ha := months_yes y m d (k - 1) h0 (mt_in a1 h1 a3 a4 (by omega) (by simp [cnt] at hk'; omega))
    obtain ⟨p1, p2, p3⟩ := pb_month h hk (by simp [cnt] at hk'; omega)
    rw [p1, p2, p3] at ha
    clear p1 p2 p3
    clear h h0 h1 h2 n1 n2 n3 n4 hcb hk'
    generalize pb 4 y m d k = n at *
    go_enter Tryd.func60, Tryd.ntmps60
    go_wp2_with (fail)
    refine (ha _).mono ?_
    rintro e w1 ⟨rfl, hb⟩
    have S1 := S0.below hb
    have B1 := below_step Bw hb (by simp)
    clear hb S0 Bw Y0
    obtain ⟨⟨r0, r1, r2⟩, ⟨f0, f1, f2⟩, hz⟩ := S1
    go_wp2
    exact bodyPost_ret (v := .agg #[.int .i64 (yOf n), .int .i64 (mOf n), .int .i64 (dOf n)]) (by simp [results, Tryd.results60, go_sem, hz, r0, r1, r2, World.cell?_alloc_lt]) rfl ⟨rfl, (((B1.setCell (by simp) _).setCell (by simp) _).setCell (by simp) _).alloc (by simp; omega) _⟩

theorem span_no (p : Nat) (f y m d k : Int) (W : World) (Y : Yr W p f y m d) (h : yrB y m d = true) (hf : 1 ≤ f) (hf' : f ≤ 4) (hk : k < 1 ∨ cnt f y m d < k) :
    Calls Tryd.prog 36 #[.pointer (some ⟨p, 0, none⟩), .int .i64 k] W fun e w' => e = .returned (.tuple #[.agg #[.int .i64 0, .int .i64 0, .int .i64 0], .agg #[.int .i64 0, .int .i64 0, .int .i64 0], .int .i64 1]) ∧ Below W.heap.size W w' := by
  have hc := fun W Y => count_any p f y m d W Y h hf hf'
  generalize cnt f y m d = c at *
  have T0 := two_new W 0 0 0 23 23
  have F0 : Slot ((W.alloc (.cells #[.int .i64 0, .int .i64 0, .int .i64 0] 23)).alloc (.cells #[.int .i64 0, .int .i64 0, .int .i64 0] 23)) W.heap.size := (slot_new W 23).below ((Below.refl _ _).alloc (Nat.le_refl _) _)
  have B0 := two_base W #[.int .i64 0, .int .i64 0, .int .i64 0] #[.int .i64 0, .int .i64 0, .int .i64 0] 23 23
  have Y0 := Y.below B0
  have hcases : k < 1 ∨ (¬ k < 1 ∧ c < k) := by omega
  clear hk
  rcases hcases with hk | ⟨hk0, hk⟩
  all_goals
    go_enter Tryd.func36, Tryd.ntmps36
    go_wp2_with (fail)
    refine (hc _ Y0).mono ?_
    rintro e w1 ⟨rfl, hb⟩
    obtain ⟨⟨a0, a1, a2⟩, ⟨r0, r1, r2⟩, ⟨f0, f1, f2⟩, hz⟩ := T0.below hb
    obtain ⟨_, ⟨g0, g1, g2⟩, hz1⟩ := F0.below hb
    have B1 := below_step B0 hb (by simp; omega)
    clear hb T0 B0 F0 Y0
    go_wp2
    exact bodyPost_ret (v := .tuple #[.agg #[.int .i64 0, .int .i64 0, .int .i64 0], .agg #[.int .i64 0, .int .i64 0, .int .i64 0], .int .i64 1]) (by simp [results, Tryd.results36, go_sem, a0, a1, a2, r0, r1, r2]) rfl ⟨rfl, by first | exact (((((B1.setCell (by simp) _).setCell (by simp) _).setCell (by simp) _).setCell (by simp) _).setCell (by simp) _).setCell (by simp) _ | (trace_state; sorry)⟩
set_option maxHeartbeats 1000000 in
theorem span_mid (p : Nat) (f y m d k : Int) (W : World) (Y : Yr W p f y m d) (h : yrB y m d = true) (hf : 1 ≤ f) (hf' : f ≤ 4) (hk : 1 ≤ k) (hk' : k < cnt f y m d) :
    Calls Tryd.prog 36 #[.pointer (some ⟨p, 0, none⟩), .int .i64 k] W fun e w' => e = .returned (.tuple #[.agg #[.int .i64 (yOf (pb f y m d k)), .int .i64 (mOf (pb f y m d k)), .int .i64 (dOf (pb f y m d k))], .agg #[.int .i64 (yOf (pb f y m d (k + 1) - 1)), .int .i64 (mOf (pb f y m d (k + 1) - 1)), .int .i64 (dOf (pb f y m d (k + 1) - 1))], .int .i64 0]) ∧ Below W.heap.size W w' := by
  have hc := fun W Y => count_any p f y m d W Y h hf hf'
  have hb1 := fun W Y => begin_any p f y m d k W Y h hf hf' hk (by omega)
  have hb2 := fun W Y => begin_any p f y m d (k + 1) W Y h hf hf' (by omega) (by omega)
  obtain ⟨q1, q2, q3, q4⟩ := pb_bd hf hf' h (k := k + 1) (by omega) (by omega)
  obtain ⟨d1, d2⟩ := of_bd (pb f y m d (k + 1)) q3 (by omega)
  have s1 := pb_step y m d k hf hf'
  obtain ⟨t1, t2, t3, t4⟩ := pb_bd hf hf' h hk (by omega)
  have he := eve_any _ _ _ d1 (by rw [d2]; omega)
  rw [d2] at he
  have hkb : k < 53 := by have := cnt_bd (y := y) (d := d) hf hf' (dayB_yes (yrB_yes h).1).2.2.1; omega
  generalize cnt f y m d = c at *
  clear d1 d2 q1 q2 q3 q4 s1 t1 t2 t3 t4 h
  generalize pb f y m d k = n at *
  generalize pb f y m d (k + 1) = n1 at *
  have T0 := two_new W 0 0 0 23 23
  have F0 : Slot ((W.alloc (.cells #[.int .i64 0, .int .i64 0, .int .i64 0] 23)).alloc (.cells #[.int .i64 0, .int .i64 0, .int .i64 0] 23)) W.heap.size := (slot_new W 23).below ((Below.refl _ _).alloc (Nat.le_refl _) _)
  have B0 := two_base W #[.int .i64 0, .int .i64 0, .int .i64 0] #[.int .i64 0, .int .i64 0, .int .i64 0] 23 23
  have Y0 := Y.below B0
  go_enter Tryd.func36, Tryd.ntmps36
  go_wp2_with (fail)
  refine (hc _ Y0).mono ?_
  rintro e w1 ⟨rfl, hb⟩
  have B1 := below_step B0 hb (by simp; omega)
  have T1 := T0.below hb
  have F1 := F0.below hb
  have Y1 := Y0.below hb
  clear hb T0 B0 F0 Y0
  go_wp2_with (fail)
  refine (hb1 _ Y1).mono ?_
  rintro e w2 ⟨rfl, hb⟩
  have B2 := below_step B1 hb B1.size
  have T2 := T1.below hb
  have F2 := F1.below hb
  have Y2 := Y1.below hb
  clear hb T1 B1 F1 Y1
  go_wp2_with (fail)
  refine (hb2 _ Y2).mono ?_
  rintro e w3 ⟨rfl, hb⟩
  have B3 := below_step B2 hb B2.size
  have T3 := T2.below hb
  have F3 := F2.below hb
  clear hb T2 B2 F2 Y2
  go_wp2_with (fail)
  refine (he _).mono ?_
  rintro e w4 ⟨rfl, hb⟩
  have B4 := below_step B3 hb B3.size
  obtain ⟨⟨a0, a1, a2⟩, ⟨r0, r1, r2⟩, ⟨f0, f1, f2⟩, hz⟩ := T3.below hb
  obtain ⟨_, ⟨g0, g1, g2⟩, hz1⟩ := F3.below hb
  clear hb T3 B3 F3
  go_wp2
  exact bodyPost_ret (v := .tuple #[.agg #[.int .i64 (yOf n), .int .i64 (mOf n), .int .i64 (dOf n)], .agg #[.int .i64 (yOf (n1 - 1)), .int .i64 (mOf (n1 - 1)), .int .i64 (dOf (n1 - 1))], .int .i64 0]) (by simp [results, Tryd.results36, go_sem, a0, a1, a2, r0, r1, r2]) rfl ⟨rfl, by first | exact (((((B4.setCell (by simp) _).setCell (by simp) _).setCell (by simp) _).setCell (by simp) _).setCell (by simp) _).setCell (by simp) _ | (trace_state; sorry)⟩

end Go.Proofs.YtkgfmanolanlhaaDoor
