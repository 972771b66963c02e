/- What the calls of period answer: Index. -/
import Derived.Test.YtkgfmanolanlhaaDoorPerC
import Derived.Test.YtkgfmanolanlhaaDoorSearch
namespace Go.Proofs.YtkgfmanolanlhaaDoor
open Go.RowKit
set_option linter.unusedVariables false
set_option linter.unusedSimpArgs false

/-- a year's box and a day's, held while something is asked -/
def LS (w : World) (bk dk p : Nat) (f y m d a b c : Int) (W : World) : Prop := W.cell? ⟨bk, 0, none⟩ = some (.pointer (some ⟨p, 0, none⟩)) ∧ W.cell? ⟨dk, 0, none⟩ = some (.int .i64 a) ∧ W.cell? ⟨dk, 1, none⟩ = some (.int .i64 b) ∧ W.cell? ⟨dk, 2, none⟩ = some (.int .i64 c) ∧
  Yr W p f y m d ∧ Below w.heap.size w W ∧ bk < W.heap.size ∧ dk < W.heap.size
theorem LS.step {w : World} {bk dk p : Nat} {f y m d a b c : Int} {W W' : World} (hb : Below W.heap.size W W') (S : LS w bk dk p f y m d a b c W) : LS w bk dk p f y m d a b c W' := by
  obtain ⟨h0, h1, h2, h3, Y, hB, z1, z2⟩ := S
  have hs := hB.size
  have g : ∀ (bb oo : Nat), bb < W.heap.size → W'.cell? ⟨bb, oo, none⟩ = W.cell? ⟨bb, oo, none⟩ := fun bb oo hl => hb.cell (p := ⟨bb, oo, none⟩) hl
  exact ⟨(g _ _ z1).trans h0, (g _ _ z2).trans h1, (g _ _ z2).trans h2, (g _ _ z2).trans h3, Y.below hb, below_step hB hb hs, by have := hb.size; omega, by have := hb.size; omega⟩
theorem LS.rebase {w w2 : World} {bk dk p : Nat} {f y m d a b c : Int} (S : LS w bk dk p f y m d a b c w2) : LS w2 bk dk p f y m d a b c w2 := ⟨S.1, S.2.1, S.2.2.1, S.2.2.2.1, S.2.2.2.2.1, Below.refl _ _, S.2.2.2.2.2.2.1, S.2.2.2.2.2.2.2⟩
theorem cmp3_gt {y m d y' m' d' : Int} (h : dayB y m d = true) (h' : dayB y' m' d' = true) : decide (0 < cmp3 y m d y' m' d') = decide (num y' m' d' < num y m d) := by
  rcases cmp3_cases y m d y' m' d' h h' with ⟨e, l⟩ | ⟨e, l⟩ | ⟨e, l, _⟩
  · rw [e]; simp; omega
  · rw [e]; simp; omega
  · rw [e]; simp; omega
theorem cmp3_lt {y m d y' m' d' : Int} (h : dayB y m d = true) (h' : dayB y' m' d' = true) : decide (cmp3 y m d y' m' d' < 0) = decide (num y m d < num y' m' d') := by
  rcases cmp3_cases y m d y' m' d' h h' with ⟨e, l⟩ | ⟨e, l⟩ | ⟨e, l, _⟩
  · rw [e]; simp; omega
  · rw [e]; simp; omega
  · rw [e]; simp; omega
set_option maxHeartbeats 1000000 in
theorem later_any (bk dk p : Nat) (f y m d a b c : Int) (i : Nat) (W : World) (S : LS W bk dk p f y m d a b c W) (h : yrB y m d = true) (hd : dayB a b c = true) (hf : 1 ≤ f) (hf' : f ≤ 4) (hi : (i : Int) < cnt f y m d) :
    Calls Tryd.prog 73 #[.int .i64 i, .pointer (some ⟨bk, 0, none⟩), .pointer (some ⟨dk, 0, none⟩)] W fun e w' => e = .returned (.bool (decide (num a b c < pb f y m d ((i : Int) + 1)))) ∧ Below W.heap.size W w' := by
  have hcb := cnt_bd (y := y) (d := d) hf hf' (dayB_yes (yrB_yes h).1).2.2.1
  have hbg := fun W Y => begin_any p f y m d ((i : Int) + 1) W Y h hf hf' (by omega) (by omega)
  obtain ⟨q1, q2, q3, q4⟩ := pb_bd hf hf' h (k := (i : Int) + 1) (by omega) (by omega)
  obtain ⟨d1, d2⟩ := of_bd (pb f y m d ((i : Int) + 1)) q3 (by omega)
  have hg := cmp3_gt d1 hd
  rw [d2] at hg
  have hcm := compare_int (yOf (pb f y m d ((i : Int) + 1))) (mOf (pb f y m d ((i : Int) + 1))) (dOf (pb f y m d ((i : Int) + 1))) a b c
  rw [← hg]
  have hi53 : (i : Int) < 53 := by omega
  clear hg d1 d2 q1 q2 q3 q4 hcb hi h hd
  generalize cmp3 (yOf (pb f y m d ((i : Int) + 1))) (mOf (pb f y m d ((i : Int) + 1))) (dOf (pb f y m d ((i : Int) + 1))) a b c = v at *
  generalize pb f y m d ((i : Int) + 1) = n at *
  have S1 := S.step (Below.refl _ _).drew
  have v1 : IntKind.i64.wrap ((i : Int) + 1) = (i : Int) + 1 := IntWalk.i64_in _ (by omega)
  go_enter Tryd.func73, Tryd.ntmps73
  go_wp2
  go_region_held3 (fun W' => W'.cell? ⟨bk, 0, none⟩ = some (.pointer (some ⟨p, 0, none⟩)) ∧ W'.cell? ⟨dk, 0, none⟩ = some (.int .i64 a) ∧ W'.cell? ⟨dk, 1, none⟩ = some (.int .i64 b) ∧ W'.cell? ⟨dk, 2, none⟩ = some (.int .i64 c) ∧ Yr W' p f y m d ∧ Below W.heap.size W W' ∧ bk < W'.heap.size ∧ dk < W'.heap.size)
    ((first | exact S1 | exact LS.step hb (by assumption)))
    (first
      | (go_at_call 60; refine (hbg _ S1.2.2.2.2.1).mono ?_; rintro e w2 ⟨rfl, hb⟩)
      | (go_at_call 27; refine (hcm _).mono ?_; rintro e w2 ⟨rfl, hb⟩))
  rename_i hH
  obtain ⟨_, _, _, _, _, hB, _⟩ := hH
  clear hb S S1
  go_wp2
  go_ret
  exact ⟨rfl, hB⟩
/-- both, and the year's days -/
def XS (w : World) (bk dk p : Nat) (f y m d a b c : Int) (W : World) : Prop := W.cell? ⟨bk, 0, none⟩ = some (.pointer (some ⟨p, 0, none⟩)) ∧ W.cell? ⟨dk, 0, none⟩ = some (.int .i64 a) ∧ W.cell? ⟨dk, 1, none⟩ = some (.int .i64 b) ∧ W.cell? ⟨dk, 2, none⟩ = some (.int .i64 c) ∧
  W.cell? ⟨p, 1, none⟩ = some (.int .i64 y) ∧ W.cell? ⟨p, 2, none⟩ = some (.int .i64 m) ∧ W.cell? ⟨p, 3, none⟩ = some (.int .i64 d) ∧ W.cell? ⟨p, 4, none⟩ = some (.int .i64 (yOf (yend y m d))) ∧ W.cell? ⟨p, 5, none⟩ = some (.int .i64 (mOf (yend y m d))) ∧ W.cell? ⟨p, 6, none⟩ = some (.int .i64 (dOf (yend y m d))) ∧
  LS w bk dk p f y m d a b c W
theorem XS.of {w : World} {bk dk p : Nat} {f y m d a b c : Int} {W : World} (S : LS w bk dk p f y m d a b c W) : XS w bk dk p f y m d a b c W := by
  obtain ⟨h0, h1, h2, h3, Y, hB, z1, z2⟩ := id S
  exact ⟨h0, h1, h2, h3, Y.2.2.1.1, Y.2.2.1.2.1, Y.2.2.1.2.2, Y.2.2.2.1.1, Y.2.2.2.1.2.1, Y.2.2.2.1.2.2, S⟩
theorem XS.step {w : World} {bk dk p : Nat} {f y m d a b c : Int} {W W' : World} (hb : Below W.heap.size W W') (S : XS w bk dk p f y m d a b c W) : XS w bk dk p f y m d a b c W' := XS.of (S.2.2.2.2.2.2.2.2.2.2.step hb)
theorem ls_new (w : World) (p : Nat) (f y m d a b c : Int) (t t' : TypeId) (Y : Yr w p f y m d) : LS w w.heap.size (w.heap.size + 1) p f y m d a b c ((w.alloc (.cells #[.pointer (some ⟨p, 0, none⟩)] t)).alloc (.cells #[.int .i64 a, .int .i64 b, .int .i64 c] t')) := by
  have hb1 : Below w.heap.size w (w.alloc (.cells #[.pointer (some ⟨p, 0, none⟩)] t)) := (Below.refl _ _).alloc (Nat.le_refl _) _
  have hb2 : Below (w.alloc (.cells #[.pointer (some ⟨p, 0, none⟩)] t)).heap.size (w.alloc (.cells #[.pointer (some ⟨p, 0, none⟩)] t)) ((w.alloc (.cells #[.pointer (some ⟨p, 0, none⟩)] t)).alloc (.cells #[.int .i64 a, .int .i64 b, .int .i64 c] t')) := (Below.refl _ _).alloc (Nat.le_refl _) _
  have hs : (w.alloc (.cells #[.pointer (some ⟨p, 0, none⟩)] t)).heap.size = w.heap.size + 1 := by simp
  have hd := day_new (w.alloc (.cells #[.pointer (some ⟨p, 0, none⟩)] t)) a b c t'
  rw [hs] at hd
  refine ⟨?_, hd.1, hd.2.1, hd.2.2, (Y.below hb1).below hb2, below_step hb1 hb2 (by simp), by simp; omega, by simp⟩
  rw [hb2.cell (p := ⟨w.heap.size, 0, none⟩) (by simp)]
  simp [World.cell?_alloc_new]
theorem index_bad (p : Nat) (f y m d a b c : Int) (W : World) (Y : Yr W p f y m d) (hd : dayB a b c = false) :
    Calls Tryd.prog 53 #[.pointer (some ⟨p, 0, none⟩), .agg #[.int .i64 a, .int .i64 b, .int .i64 c]] W fun e w' => e = .returned (.tuple #[.int .i64 0, .int .i64 30]) ∧ Below W.heap.size W w' := by
  have hc := right_b a b c false hd
  have L0 := ls_new W p f y m d a b c 47 23 Y
  obtain ⟨h0, h1, h2, h3, _, B0, _⟩ := id L0
  clear hd Y
  go_enter Tryd.func53, Tryd.ntmps53
  go_wp2_with (fail)
  refine (hc _).mono ?_
  rintro e w1 ⟨rfl, hb⟩
  have B1 := below_step B0 hb B0.size
  go_wp2
  go_ret2
  exact ⟨rfl, B1⟩
/-- in which period a day is -/
def IX (f y m d n : Int) (w : World) (e : Ending) (w' : World) : Prop := ∃ i : Int, 1 ≤ i ∧ i ≤ cnt f y m d ∧ pb f y m d i ≤ n ∧ n ≤ pe f y m d i ∧ e = .returned (.tuple #[.int .i64 i, .int .i64 0]) ∧ Below w.heap.size w w'
theorem ix_of {f y m d n : Int} {k i : Nat} (hf : 1 ≤ f) (hf' : f ≤ 4) (h : yrB y m d = true) (hk : (k : Int) = cnt f y m d) (h0 : num y m d ≤ n) (h1 : n ≤ yend y m d) (hi : i ≤ k)
    (h2 : ∀ t, t < i → decide (n < pb f y m d ((t : Int) + 1)) = false) (h3 : ∀ t, i ≤ t → t < k → decide (n < pb f y m d ((t : Int) + 1)) = true) : 1 ≤ (i : Int) ∧ (i : Int) ≤ cnt f y m d ∧ pb f y m d i ≤ n ∧ n ≤ pe f y m d i := by
  have hcb := cnt_bd (y := y) (d := d) hf hf' (dayB_yes (yrB_yes h).1).2.2.1
  have hi1 : 1 ≤ i := by
    rcases Nat.lt_or_ge i 1 with q | q
    · have := h3 0 (by omega) (by omega)
      rw [show ((0 : Nat) : Int) + 1 = 1 from rfl, pb_one (yrB_yes h).1] at this
      simp at this
      omega
    · exact q
  have h4 := h2 (i - 1) (by omega)
  rw [show ((i - 1 : Nat) : Int) + 1 = (i : Int) by omega] at h4
  simp at h4
  refine ⟨by omega, by omega, h4, ?_⟩
  by_cases hl : i = k
  · subst hl
    rw [hk, pe_last]
    exact h1
  · have h5 := h3 i (Nat.le_refl _) (by omega)
    simp at h5
    rw [pe_next (by omega)]
    omega
end Go.Proofs.YtkgfmanolanlhaaDoor
