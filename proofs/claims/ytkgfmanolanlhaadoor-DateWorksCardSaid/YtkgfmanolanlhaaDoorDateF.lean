/- What date.Workdays answers: the workdays of a stretch, counted weekday by weekday. -/
import Derived.Test.YtkgfmanolanlhaaDoorDateE
import Derived.Shelf.Abstract
namespace Go.Proofs.YtkgfmanolanlhaaDoor
open Go.RowKit
set_option linter.unusedVariables false
set_option linter.unusedSimpArgs false

theorem on_any (bl bf : Nat) (last first wd : Int) (W : World) (hl : W.cell? ⟨bl, 0, none⟩ = some (.int .i64 last)) (hf : W.cell? ⟨bf, 0, none⟩ = some (.int .i64 first)) (h0 : 0 ≤ first) (h1 : first ≤ last) (h2 : last < 109573) (w0 : 0 ≤ wd) (w4 : wd ≤ 4) :
    Calls Tryd.prog 52 #[.int .i64 wd, .pointer (some ⟨bl, 0, none⟩), .pointer (some ⟨bf, 0, none⟩)] W fun e w' => e = .returned (.int .i64 (onD last first wd)) ∧ W = w' := by
  have hb := onD_bd (wd := wd) h0 h1 h2
  go_enter Tryd.func52, Tryd.ntmps52
  go_wp2
  go_ret
  exact ⟨ret_i (by unfold onD; omega), rfl⟩
theorem workdays_gen (y m d y' m' d' a b c : Int) (hc : c ≠ 0 ∨ b < a) (hn : ∀ w, Calls Tryd.prog 48 #[.agg #[.int .i64 y, .int .i64 m, .int .i64 d], .agg #[.int .i64 y', .int .i64 m', .int .i64 d']] w fun e w' => e = .returned (.tuple #[.int .i64 a, .int .i64 b, .int .i64 c]) ∧ Below w.heap.size w w') (w : World) :
    Calls Tryd.prog 32 #[.agg #[.int .i64 y, .int .i64 m, .int .i64 d], .agg #[.int .i64 y', .int .i64 m', .int .i64 d']] w fun e w' => e = .returned (.tuple #[.int .i64 0, .int .i64 c]) ∧ Below w.heap.size w w' := by
  have T0 := box2_new w y m d y' m' d' 23 23
  have B0 := two_base w #[.int .i64 y, .int .i64 m, .int .i64 d] #[.int .i64 y', .int .i64 m', .int .i64 d'] 23 23
  obtain ⟨⟨a0, a1, a2⟩, ⟨b0, b1, b2⟩, _⟩ := id T0
  have hcs : (c != 0) = true ∨ ((c != 0) = false ∧ b < a) := by
    by_cases q : c = 0
    · right; exact ⟨by simpa using q, by omega⟩
    · left; simpa using q
  clear hc
  rcases hcs with g | ⟨g, g2⟩
  all_goals
    go_enter Tryd.func32, Tryd.ntmps32
    go_wp2_with (fail)
    refine (hn _).mono ?_
    rintro e w1 ⟨rfl, hb⟩
    have B1 := below_step B0 hb B0.size
    go_wp2
    go_ret2
    exact ⟨rfl, (B1.alloc B1.size _).alloc (by have := B1.size; simp; omega) _⟩
theorem workdays_no (y m d y' m' d' : Int) (h : dayB y m d = false ∨ dayB y' m' d' = false) (w : World) :
    Calls Tryd.prog 32 #[.agg #[.int .i64 y, .int .i64 m, .int .i64 d], .agg #[.int .i64 y', .int .i64 m', .int .i64 d']] w fun e w' => e = .returned (.tuple #[.int .i64 0, .int .i64 30]) ∧ Below w.heap.size w w' :=
  workdays_gen y m d y' m' d' 0 0 30 (.inl (by omega)) (numbers_no y m d y' m' d' h) w
theorem workdays_ahead (y m d y' m' d' : Int) (h : dayB y m d = true) (h' : dayB y' m' d' = true) (ho : num y' m' d' < num y m d) (w : World) :
    Calls Tryd.prog 32 #[.agg #[.int .i64 y, .int .i64 m, .int .i64 d], .agg #[.int .i64 y', .int .i64 m', .int .i64 d']] w fun e w' => e = .returned (.tuple #[.int .i64 0, .int .i64 0]) ∧ Below w.heap.size w w' :=
  workdays_gen y m d y' m' d' _ _ 0 (.inr ho) (numbers_yes y m d y' m' d' h h') w
set_option maxHeartbeats 2000000 in
theorem workdays_yes (y m d y' m' d' : Int) (h : dayB y m d = true) (h' : dayB y' m' d' = true) (ho : num y m d ≤ num y' m' d') (w : World) :
    Calls Tryd.prog 32 #[.agg #[.int .i64 y, .int .i64 m, .int .i64 d], .agg #[.int .i64 y', .int .i64 m', .int .i64 d']] w fun e w' => e = .returned (.tuple #[.int .i64 (wkc (num y m d) (num y' m' d' - num y m d + 1)), .int .i64 0]) ∧ Below w.heap.size w w' := by
  have hn := numbers_yes y m d y' m' d' h h'
  obtain ⟨_, _, s1, s2⟩ := num_bd h
  obtain ⟨_, _, t1, t2⟩ := num_bd h'
  clear h h'
  have hw : wkc (num y m d) (num y' m' d' - num y m d + 1) = onD (num y' m' d') (num y m d) 0 + onD (num y' m' d') (num y m d) 1 + onD (num y' m' d') (num y m d) 2 + onD (num y' m' d') (num y m d) 3 + onD (num y' m' d') (num y m d) 4 := by
    unfold wkc
    rw [show num y m d + (num y' m' d' - num y m d + 1) - 1 = num y' m' d' by omega]
  rw [hw]
  clear hw
  generalize num y m d = a at *
  generalize num y' m' d' = b at *
  have HON := Lib.hid (fun (wd : Int) (q0 : 0 ≤ wd) (q4 : wd ≤ 4) (bl bf : Nat) W hl hf => on_any bl bf b a wd W hl hf s1 ho t2 q0 q4)
  have o0 := onD_bd (wd := 0) s1 ho t2
  have o1 := onD_bd (wd := 1) s1 ho t2
  have o2 := onD_bd (wd := 2) s1 ho t2
  have o3 := onD_bd (wd := 3) s1 ho t2
  have o4 := onD_bd (wd := 4) s1 ho t2
  obtain ⟨o0, o0'⟩ := o0
  obtain ⟨o1, o1'⟩ := o1
  obtain ⟨o2, o2'⟩ := o2
  obtain ⟨o3, o3'⟩ := o3
  obtain ⟨o4, o4'⟩ := o4
  have T0 := box2_new w y m d y' m' d' 23 23
  have B0 := two_base w #[.int .i64 y, .int .i64 m, .int .i64 d] #[.int .i64 y', .int .i64 m', .int .i64 d'] 23 23
  obtain ⟨⟨a0, a1, a2⟩, ⟨b0, b1, b2⟩, _⟩ := id T0
  go_enter Tryd.func32, Tryd.ntmps32
  go_wp2_with (fail)
  refine (hn _).mono ?_
  rintro e w1 ⟨rfl, hb⟩
  have B1 := below_step B0 hb B0.size
  have B3 := (B1.alloc B1.size (.cells #[.int .i64 a] 3)).alloc (by have := B1.size; simp; omega) (.cells #[.int .i64 b] 3)
  have cl : ((w1.alloc (.cells #[.int .i64 a] 3)).alloc (.cells #[.int .i64 b] 3)).cell? ⟨w1.heap.size + 1, 0, none⟩ = some (.int .i64 b) := by
    simp
  have cf : ((w1.alloc (.cells #[.int .i64 a] 3)).alloc (.cells #[.int .i64 b] 3)).cell? ⟨w1.heap.size, 0, none⟩ = some (.int .i64 a) := by
    have hb3 : Below (w1.alloc (.cells #[.int .i64 a] 3)).heap.size (w1.alloc (.cells #[.int .i64 a] 3)) ((w1.alloc (.cells #[.int .i64 a] 3)).alloc (.cells #[.int .i64 b] 3)) := (Below.refl _ _).alloc (Nat.le_refl _) _
    rw [hb3.cell (p := ⟨w1.heap.size, 0, none⟩) (by simp)]
    simp [World.cell?_alloc_new]
  have h0 := HON.out 0 (by omega) (by omega) _ _ _ cl cf
  have h1 := HON.out 1 (by omega) (by omega) _ _ _ cl cf
  have h2 := HON.out 2 (by omega) (by omega) _ _ _ cl cf
  have h3 := HON.out 3 (by omega) (by omega) _ _ _ cl cf
  have h4 := HON.out 4 (by omega) (by omega) _ _ _ cl cf
  clear hb T0 B0 a0 a1 a2 b0 b1 b2 B1 hn
  go_wp2
  refine wp_loop_rounds 6 ?_
  rw [rounds_succ]
  go_wp2_with (fail)
  refine h0.mono ?_
  rintro e w' ⟨rfl, rfl⟩
  go_wp2
  rw [rounds_succ]
  go_wp2_with (fail)
  refine h1.mono ?_
  rintro e w' ⟨rfl, rfl⟩
  go_wp2
  rw [rounds_succ]
  go_wp2_with (fail)
  refine h2.mono ?_
  rintro e w' ⟨rfl, rfl⟩
  go_wp2
  rw [rounds_succ]
  go_wp2_with (fail)
  refine h3.mono ?_
  rintro e w' ⟨rfl, rfl⟩
  go_wp2
  rw [rounds_succ]
  go_wp2_with (fail)
  refine h4.mono ?_
  rintro e w' ⟨rfl, rfl⟩
  go_wp2
  rw [rounds_succ]
  go_wp2
  go_ret2
  exact ⟨ret_ii (by omega) rfl, B3⟩
end Go.Proofs.YtkgfmanolanlhaaDoor
