/- What the calls of period answer of a year that lies in memory: Freq, Start, End, Next, Part. -/
import Derived.Test.YtkgfmanolanlhaaDoorPerE
import Derived.Deep.RegionWith
namespace Go.Proofs.YtkgfmanolanlhaaDoor
open Go.RowKit
set_option linter.unusedVariables false
set_option linter.unusedSimpArgs false

theorem freq_any (p : Nat) (f y m d : Int) (W : World) (Y : Yr W p f y m d) : Calls Tryd.prog 56 #[.pointer (some ⟨p, 0, none⟩)] W fun e w' => e = .returned (.int .i64 f) ∧ W = w' := by
  obtain ⟨_, c0, _⟩ := Y
  go_enter Tryd.func56, Tryd.ntmps56
  go_wp2
  go_ret
  exact ⟨rfl, rfl⟩
theorem start_any (p : Nat) (f y m d : Int) (W : World) (Y : Yr W p f y m d) : Calls Tryd.prog 40 #[.pointer (some ⟨p, 0, none⟩)] W fun e w' => e = .returned (.agg #[.int .i64 y, .int .i64 m, .int .i64 d]) ∧ Below W.heap.size W w' := by
  have Y0 := Y.below ((Below.refl _ _).alloc (Nat.le_refl _) (.cells #[.int .i64 0, .int .i64 0, .int .i64 0] 23))
  obtain ⟨_, c0, ⟨c1, c2, c3⟩, _⟩ := Y0
  go_enter Tryd.func40, Tryd.ntmps40
  go_wp2
  exact bodyPost_ret (v := .agg #[.int .i64 y, .int .i64 m, .int .i64 d]) (by simp [results, Tryd.results40, go_sem]) rfl ⟨rfl, by first | exact (Below.refl _ _).alloc (Nat.le_refl _) _ | exact ((((Below.refl _ _).alloc (Nat.le_refl _) _).setCell (by simp) _).setCell (by simp) _).setCell (by simp) _⟩
theorem endd_any (p : Nat) (f y m d : Int) (W : World) (Y : Yr W p f y m d) : Calls Tryd.prog 41 #[.pointer (some ⟨p, 0, none⟩)] W fun e w' => e = .returned (.agg #[.int .i64 (yOf (yend y m d)), .int .i64 (mOf (yend y m d)), .int .i64 (dOf (yend y m d))]) ∧ Below W.heap.size W w' := by
  have Y0 := Y.below ((Below.refl _ _).alloc (Nat.le_refl _) (.cells #[.int .i64 0, .int .i64 0, .int .i64 0] 23))
  obtain ⟨_, c0, _, ⟨c4, c5, c6⟩, _⟩ := Y0
  generalize yOf (yend y m d) = a at *
  generalize mOf (yend y m d) = b at *
  generalize dOf (yend y m d) = c at *
  go_enter Tryd.func41, Tryd.ntmps41
  go_wp2
  exact bodyPost_ret (v := .agg #[.int .i64 a, .int .i64 b, .int .i64 c]) (by simp [results, Tryd.results41, go_sem]) rfl ⟨rfl, by first | exact (Below.refl _ _).alloc (Nat.le_refl _) _ | exact ((((Below.refl _ _).alloc (Nat.le_refl _) _).setCell (by simp) _).setCell (by simp) _).setCell (by simp) _⟩
theorem part_no (p : Nat) (f y m d k : Int) (W : World) (Y : Yr W p f y m d) (h : yrB y m d = true) (hf : 1 ≤ f) (hf' : f ≤ 4) (hk : k < 1 ∨ cnt f y m d < k) :
    Calls Tryd.prog 54 #[.pointer (some ⟨p, 0, none⟩), .int .i64 k] W fun e w' => e = .returned (.tuple #[.int .i64 0, .int .i64 0, .int .i64 1]) ∧ Below W.heap.size W w' := by
  have hc := count_any p f y m d W Y h hf hf'
  generalize cnt f y m d = c at *
  have hcases : k < 1 ∨ (¬ k < 1 ∧ c < k) := by omega
  clear hk
  rcases hcases with hk | ⟨hk0, hk⟩
  · go_enter Tryd.func54, Tryd.ntmps54
    go_wp2
    go_ret3
    exact ⟨rfl, Below.refl _ _⟩
  · go_enter Tryd.func54, Tryd.ntmps54
    go_wp2_with (fail)
    refine hc.mono ?_
    rintro e w1 ⟨rfl, hb⟩
    go_wp2
    go_ret3
    exact ⟨rfl, hb⟩
theorem part_yes (p : Nat) (f y m d k : Int) (W : World) (Y : Yr W p f y m d) (h : yrB y m d = true) (hf : 1 ≤ f) (hf' : f ≤ 4) (hk : 1 ≤ k) (hk' : k ≤ cnt f y m d) :
    Calls Tryd.prog 54 #[.pointer (some ⟨p, 0, none⟩), .int .i64 k] W fun e w' => e = .returned (.tuple #[.int .i64 (min k (nom f)), .int .i64 (nom f), .int .i64 0]) ∧ Below W.heap.size W w' := by
  have hc := count_any p f y m d W Y h hf hf'
  have hn := nominal_any f
  generalize cnt f y m d = c at *
  generalize nom f = n at *
  go_enter Tryd.func54, Tryd.ntmps54
  go_wp2_with (fail)
  refine hc.mono ?_
  rintro e w1 ⟨rfl, hb⟩
  have Y1 := Y.below hb
  obtain ⟨K1, c0, _⟩ := id Y1
  go_wp2_with (fail)
  refine (hn _ K1).mono ?_
  rintro e w' ⟨rfl, rfl⟩
  go_wp2
  go_ret3
  exact ⟨rfl, hb⟩
theorem next_add {y m d : Int} (h : yrB y m d = true) (w : World) : Calls Tryd.prog 21 #[.agg #[.int .i64 (yOf (yend y m d)), .int .i64 (mOf (yend y m d)), .int .i64 (dOf (yend y m d))], .int .i64 1] w fun e w' => e = .returned (.tuple #[.agg #[.int .i64 (y + 1), .int .i64 m, .int .i64 d], .int .i64 0]) ∧ Below w.heap.size w w' := by
  obtain ⟨e1, e2, e3, e4⟩ := end_day h
  have ha := add_yes _ _ _ 1 e1 (by rw [e2]; omega) (by rw [e2]; omega) w
  obtain ⟨o1, o2, o3⟩ := of_num (next_day h)
  have hy : yend y m d + 1 = num (y + 1) m d := by unfold yend; omega
  rw [e2, hy, o1, o2, o3] at ha
  exact ha
set_option maxHeartbeats 1000000 in
theorem next_gen (p : Nat) (f y m d : Int) (W : World) (Y : Yr W p f y m d) (h : yrB y m d = true)
    (hn : ∀ w, Kinds w → Calls Tryd.prog 34 #[.int .i64 f, .agg #[.int .i64 (y + 1), .int .i64 m, .int .i64 d]] w (NewP f (y + 1) m d w)) :
    Calls Tryd.prog 55 #[.pointer (some ⟨p, 0, none⟩)] W (NewP f (y + 1) m d W) := by
  have ha := next_add h
  obtain ⟨K0, c0, _, ⟨c4, c5, c6⟩, hp⟩ := id Y
  clear h
  generalize yOf (yend y m d) = a at *
  generalize mOf (yend y m d) = b at *
  generalize dOf (yend y m d) = c at *
  go_enter Tryd.func55, Tryd.ntmps55
  go_wp2_with (fail)
  refine (ha _).mono ?_
  rintro e w1 ⟨rfl, hb⟩
  have Y1 := Y.below hb
  have hb2 : Below w1.heap.size w1 (w1.alloc (.cells #[.int .i64 (y + 1), .int .i64 m, .int .i64 d] 23)) := (Below.refl _ _).alloc (Nat.le_refl _) _
  have B2 := below_step hb hb2 hb.size
  have Y2 := Y1.below hb2
  obtain ⟨K2, x0, _, _, hp2⟩ := id Y2
  obtain ⟨n0, n1, n2⟩ := day_new w1 (y + 1) m d 23
  have K3 : Kinds (w1.alloc (.cells #[.int .i64 (y + 1), .int .i64 m, .int .i64 d] 23)).drew := K2
  have hsz := B2.size
  clear hb hb2 ha c0 c4 c5 c6 K0 Y Y1
  go_wp2
  go_region_with ((go_at_call 34; (with_reducible refine (hn _ K3).mono ?_); rintro e w3 ⟨q, rfl, hq, Yn, hb⟩))
  all_goals have B3 := below_step B2.drew hb hsz
  all_goals have HY := Lib.hid (And.intro Yn hq)
  all_goals clear Yn hq hb Y2
  all_goals go_wp2
  all_goals exact bodyPost_ret (v := .tuple #[.pointer (some ⟨q, 0, none⟩), .int .i64 0]) (by simp [results, Tryd.results55, go_sem]) rfl (show NewP f (y + 1) m d W _ _ from ⟨q, rfl, Nat.le_trans hsz HY.out.2, HY.out.1, B3⟩)
set_option maxHeartbeats 1000000 in
theorem next_none (p : Nat) (f y m d : Int) (W : World) (Y : Yr W p f y m d) (h : yrB y m d = true)
    (hn : ∀ w, Calls Tryd.prog 34 #[.int .i64 f, .agg #[.int .i64 (y + 1), .int .i64 m, .int .i64 d]] w fun e w' => e = .returned (.tuple #[.pointer none, .int .i64 30]) ∧ Below w.heap.size w w') :
    Calls Tryd.prog 55 #[.pointer (some ⟨p, 0, none⟩)] W fun e w' => e = .returned (.tuple #[.pointer none, .int .i64 30]) ∧ Below W.heap.size W w' := by
  have ha := next_add h
  obtain ⟨K0, c0, _, ⟨c4, c5, c6⟩, hp⟩ := id Y
  clear h
  generalize yOf (yend y m d) = a at *
  generalize mOf (yend y m d) = b at *
  generalize dOf (yend y m d) = c at *
  go_enter Tryd.func55, Tryd.ntmps55
  go_wp2_with (fail)
  refine (ha _).mono ?_
  rintro e w1 ⟨rfl, hb⟩
  have Y1 := Y.below hb
  have hb2 : Below w1.heap.size w1 (w1.alloc (.cells #[.int .i64 (y + 1), .int .i64 m, .int .i64 d] 23)) := (Below.refl _ _).alloc (Nat.le_refl _) _
  have B2 := below_step hb hb2 hb.size
  have Y2 := Y1.below hb2
  obtain ⟨K2, x0, _, _, hp2⟩ := id Y2
  obtain ⟨n0, n1, n2⟩ := day_new w1 (y + 1) m d 23
  have K3 : Kinds (w1.alloc (.cells #[.int .i64 (y + 1), .int .i64 m, .int .i64 d] 23)).drew := K2
  have hsz := B2.size
  clear hb hb2 ha c0 c4 c5 c6 K0 Y Y1
  go_wp2
  go_region_with ((go_at_call 34; (with_reducible refine (hn _).mono ?_); rintro e w3 ⟨rfl, hb⟩))
  all_goals have B3 := below_step B2.drew hb hsz
  all_goals clear hb Y2
  all_goals go_wp2
  all_goals go_ret2
  all_goals exact ⟨rfl, B3⟩
theorem next_ok (p : Nat) (f y m d : Int) (W : World) (Y : Yr W p f y m d) (h : yrB y m d = true) (hf : 1 ≤ f) (hf' : f ≤ 4) (h' : yrB (y + 1) m d = true) :
    Calls Tryd.prog 55 #[.pointer (some ⟨p, 0, none⟩)] W (NewP f (y + 1) m d W) :=
  next_gen p f y m d W Y h (fun w K => new_ok f (y + 1) m d hf hf' h' w K)
theorem next_no (p : Nat) (f y m d : Int) (W : World) (Y : Yr W p f y m d) (h : yrB y m d = true) (hf : 1 ≤ f) (hf' : f ≤ 4) (h' : yrB (y + 1) m d = false) :
    Calls Tryd.prog 55 #[.pointer (some ⟨p, 0, none⟩)] W fun e w' => e = .returned (.tuple #[.pointer none, .int .i64 30]) ∧ Below W.heap.size W w' :=
  next_none p f y m d W Y h (fun w => new_date f (y + 1) m d hf hf' h' w)
end Go.Proofs.YtkgfmanolanlhaaDoor
