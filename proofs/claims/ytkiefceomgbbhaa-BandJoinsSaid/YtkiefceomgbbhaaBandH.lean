/- What band.Join and band.Same answer; and the first call of all of band's statements. -/
import Derived.Test.YtkiefceomgbbhaaBandG
import Derived.Test.YtkiefceomgbbhaaBndC
namespace Go.Proofs.Ytkiefceomgbbhaa
open Go.RowKit Go.Sort
set_option linter.unusedVariables false

set_option maxHeartbeats 1000000 in
theorem join_any (A : Option Addr) (n c : Nat) (w : World) (F R E : Nat → Int) (h : Bds w A n F R E) (h1 : 1 ≤ n) (hn : n ≤ 100000) :
    Calls Try.prog 26 #[.slice A n c] w fun e w' => ∃ v, e = .returned v ∧ Rw w' w.heap.size v (cmj F R E n) ∧ Below w.heap.size w w' := by
  have cl0 := clone_any A n c w F R E h h1 hn
  have cc := fun (g cap : Nat) (W : World) ho hB h3 h4 h5 => compact_any g n cap w.heap.size W F R E ho h1 hn hB h3 h4 h5
  go_enter Try.func26, Try.ntmps26
  go_wp2_with (fail)
  refine cl0.mono ?_
  rintro e w1 ⟨v, rfl, hr, hb⟩
  obtain ⟨g, cap, hv, hg, hgc, hgm, _⟩ := rw_bds_of hr (by rw [lst_len]; omega)
  rw [lst_len] at hv hgc
  subst hv
  unfold Rw at hr
  rw [lst_len] at hr
  go_wp2_with (fail)
  refine (cc g cap _ hr hb.size hgc (by unfold maxLen at hgm; omega) hg).mono ?_
  rintro e w2 ⟨rfl, hr2, hb2⟩
  go_wp2
  go_ret
  exact ⟨_, rfl, hr2, hb.trans hb2⟩

set_option maxHeartbeats 2000000 in
theorem equal_true (A A' : Option Addr) (n c c' : Nat) (w : World) (F R E F' R' E' : Nat → Int) (h : Bds w A n F R E) (h' : Bds w A' n F' R' E') (heq : ∀ i, i < n → F i = F' i ∧ R i = R' i ∧ E i = E' i) (hn : n ≤ 100000) :
    Calls Try.prog 52 #[.slice A n c, .slice A' n c'] w fun e w' => e = .returned (.bool true) ∧ Below w.heap.size w w' := by
  have n0 : ((n : Int) != (n : Int)) = false := by simp
  go_enter Try.func52, Try.ntmps52
  go_wp2
  go_loopw [13] (fun k W => ∃ i : Nat, i ≤ n ∧ k = .int .i64 i ∧ Below w.heap.size w W) (fun k _ => n - (intOf k).toNat)
  case atStart => exact ⟨0, Nat.zero_le _, rfl, Below.refl _ _⟩
  case round =>
    obtain ⟨i, hi, rfl, hb⟩ := hrel
    by_cases hlt : i < n
    · obtain ⟨b, o, rfl, hc⟩ := h (by omega)
      obtain ⟨b', o', rfl, hc'⟩ := h' (by omega)
      obtain ⟨x0, x1, x2⟩ := hc i hlt
      obtain ⟨y0, y1, y2⟩ := hc' i hlt
      obtain ⟨e0, e1, e2⟩ := heq i hlt
      rw [← e0] at y0
      rw [← e1] at y1
      rw [← e2] at y2
      have c0 := cell_later hb x0
      have c1 := cell_later hb x1
      have c2 := cell_later hb x2
      have d0 := cell_later hb y0
      have d1 := cell_later hb y1
      have d2 := cell_later hb y2
      have i4 : (i : Int) < (n : Int) := by omega
      clear x0 x1 x2 y0 y1 y2 e0 e1 e2 hc hc' h h' heq
      generalize F i = p at *
      generalize R i = q at *
      generalize E i = r at *
      have hne : ∀ W, (binOp .neq 37 (.agg #[.int .i64 p, .int .i64 q, .int .i64 r]) (.agg #[.int .i64 p, .int .i64 q, .int .i64 r])).run Try.prog W = .ok (.bool false) W := fun W => by
        simp [go_sem]
      go_wp2
      go_quiet (fail)
      go_wp2
      go_roundw
      case rel => exact ⟨i + 1, by omega, by go_num, below_drewN hb _⟩
      case measure => first | omega | (simp [intOf]; omega)
    · obtain rfl : i = n := by omega
      clear h h' heq
      go_wp2
      go_ret
      exact ⟨rfl, hb⟩

set_option maxHeartbeats 1000000 in
theorem same_true (A A' : Option Addr) (n c n' c' : Nat) (w : World) (F R E F' R' E' : Nat → Int) (h : Bds w A n F R E) (h' : Bds w A' n' F' R' E') (h1 : 1 ≤ n) (hn : n ≤ 100000) (h1' : 1 ≤ n') (hn' : n' ≤ 100000) (heq : cmj F' R' E' n' = cmj F R E n) :
    Calls Try.prog 27 #[.slice A n c, .slice A' n' c'] w fun e w' => e = .returned (.bool true) ∧ Below w.heap.size w w' := by
  have j1 := join_any A n c w F R E h h1 hn
  have j2 := fun (W : World) (hb : Below w.heap.size w W) => join_any A' n' c' W F' R' E' (h'.below hb) h1' hn'
  rw [heq] at j2
  have hpos := cmj_pos F R E (n - 1)
  rw [show n - 1 + 1 = n by omega] at hpos
  have hle := cmj_len F R E n
  generalize cmj F R E n = J at *
  clear heq h h'
  go_enter Try.func27, Try.ntmps27
  go_wp2_with (fail)
  refine j1.mono ?_
  rintro e w1 ⟨v1, rfl, hr1, hb1⟩
  go_wp2_with (fail)
  refine (j2 _ hb1).mono ?_
  rintro e w2 ⟨v2, rfl, hr2, hb2⟩
  obtain ⟨g1, cap1, rfl, _, _, _, B1⟩ := rw_bds_of hr1 hpos
  obtain ⟨g2, cap2, rfl, _, _, _, B2⟩ := rw_bds_of hr2 hpos
  have B1' := B1.below hb2
  go_wp2_with (fail)
  refine (equal_true _ _ _ _ _ _ _ _ _ _ _ _ B1' B2 (fun i hi => ⟨rfl, rfl, rfl⟩) (by omega)).mono ?_
  rintro e w3 ⟨rfl, hb3⟩
  go_wp2
  go_ret
  exact ⟨rfl, (hb1.trans (hb2.mono hb1.size)).trans (hb3.mono (Nat.le_trans hb1.size hb2.size))⟩

def tF (i : Nat) : Int := if i = 0 then 0 else if i = 1 then 100 else 300
def tR (i : Nat) : Int := if i = 0 then 0 else if i = 1 then 2000 else 4000
def tE (i : Nat) : Int := if i = 1 then 1000 else 0
theorem three_ok : Okb tF tR tE 3 := okb_of (by decide)
theorem three_any (w : World) : Calls Try.prog 42 #[] w fun e w' => e = .returned (.slice (some ⟨w.heap.size, 0, none⟩) 3 3) ∧ w' = w.alloc (.cells #[.int .i64 0, .int .i64 0, .int .i64 0, .int .i64 100, .int .i64 2000, .int .i64 1000, .int .i64 300, .int .i64 4000, .int .i64 0] 37) := by
  go_enter Try.func42, Try.ntmps42
  go_wp2
  go_ret
  exact ⟨rfl, rfl⟩
theorem three_bds (w : World) : Bds (w.alloc (.cells #[.int .i64 0, .int .i64 0, .int .i64 0, .int .i64 100, .int .i64 2000, .int .i64 1000, .int .i64 300, .int .i64 4000, .int .i64 0] 37)) (some ⟨w.heap.size, 0, none⟩) 3 tF tR tE := fun _ =>
  ⟨_, _, rfl, fun i hi => by
    have : i = 0 ∨ i = 1 ∨ i = 2 := by omega
    rcases this with rfl | rfl | rfl <;> simp [World.cell?_alloc_new, tF, tR, tE]⟩

set_option maxHeartbeats 4000000 in
set_option maxRecDepth 100000 in
theorem sums_any (w : World) : Calls Try.prog 14 #[] w fun e w' => e = .returned (.bool true) ∧ Below w.heap.size w w' := by
  have q1 : exactV tF tR 3 350 = 600000 := by decide
  have q2 : exactV tF tE 3 350 = 200000 := by decide
  have q3 : exactV tF tR 3 200 - exactV tF tR 3 100 = 200000 := by decide
  have q4 : scl (fun i => tF i * 1 / 2) tR tE 3 = [(0, 0, 0), (50, 2000, 1000), (150, 4000, 0)] := by decide
  have q5 : crn tF 3 = [100, 300] := by decide
  have q6 : fnd tF 300 3 = 1 := by decide
  have q7 : fnd tF 301 3 = 2 := by decide
  have q8 : topb tR 3 = 4000 := by decide
  have ok := three_ok
  have c1 := fun (W : World) A (h : Bds W A 3 tF tR tE) => Exact_ok 3 3 350 A tF tR tE W h ok (by decide)
  have c2 := fun (W : World) A (h : Bds W A 3 tF tR tE) => Employer_ok 3 3 350 A tF tR tE W h ok (by decide)
  have c3 := fun (W : World) A (h : Bds W A 3 tF tR tE) => between_ok 3 3 100 200 A tF tR tE W h ok (by decide) (by decide)
  have c4 := fun (W : World) A (h : Bds W A 3 tF tR tE) => bscale_ok 1 2 A 3 3 W tF tR tE _ h ok (by omega) (by omega) (by omega) (by omega) rfl
  have c5 := fun (W : World) A (h : Bds W A 3 tF tR tE) => corners_any A 3 3 W tF tR tE h (by omega)
  have c6 := fun (W : World) A (h : Bds W A 3 tF tR tE) => find_any 300 A 3 3 W tF tR tE h (by omega) (by omega)
  have c7 := fun (W : World) A (h : Bds W A 3 tF tR tE) => find_any 301 A 3 3 W tF tR tE h (by omega) (by omega)
  have c8 := fun (W : World) A (h : Bds W A 3 tF tR tE) => top_any A 3 3 W tF tR tE h (by omega)
  have c9 := fun (W : World) A (h : Bds W A 3 tF tR tE) => join_any A 3 3 W tF tR tE h (by omega) (by omega)
  rw [q1] at c1
  rw [q2] at c2
  rw [q3] at c3
  rw [q4] at c4
  rw [q5] at c5
  rw [q6] at c6
  rw [q7] at c7
  rw [q8] at c8
  have th := three_any w
  have B0 := three_bds w
  have b0 : Below w.heap.size w (w.alloc (.cells #[.int .i64 0, .int .i64 0, .int .i64 0, .int .i64 100, .int .i64 2000, .int .i64 1000, .int .i64 300, .int .i64 4000, .int .i64 0] 37)) := (Below.refl _ _).alloc (Nat.le_refl _) _
  go_enter Try.func14, Try.ntmps14
  go_wp2_with (fail)
  refine th.mono ?_
  rintro e w0 ⟨rfl, rfl⟩
  generalize hw0 : w.alloc (.cells #[.int .i64 0, .int .i64 0, .int .i64 0, .int .i64 100, .int .i64 2000, .int .i64 1000, .int .i64 300, .int .i64 4000, .int .i64 0] 37) = w0 at *
  clear hw0 th
  go_wp2_with (fail)
  refine (c1 _ _ B0).mono ?_
  rintro e w1 ⟨rfl, d1⟩
  have B1 := B0.below d1
  have b1 := b0.trans (d1.mono b0.size)
  go_wp2_with (fail)
  refine (c2 _ _ B1).mono ?_
  rintro e w2 ⟨rfl, d2⟩
  have B2 := B1.below d2
  have b2 := b1.trans (d2.mono b1.size)
  go_wp2_with (fail)
  refine (c3 _ _ B2).mono ?_
  rintro e w3 ⟨rfl, d3⟩
  have B3 := B2.below d3
  have b3 := b2.trans (d3.mono b2.size)
  go_wp2_with (fail)
  refine (c4 _ _ B3).mono ?_
  rintro e w4 ⟨v4, rfl, r4, d4⟩
  have B4 := B3.below d4
  have b4 := b3.trans (d4.mono b3.size)
  obtain ⟨g4, cap4, rfl, _, _, _, S4⟩ := rw_bds_of r4 (by decide)
  have s4 : w4.cell? ⟨g4, 6, none⟩ = some (.int .i64 150) := r4.cellAt 6 (by decide)
  simp only [List.length_cons, List.length_nil, Nat.zero_add, Nat.reduceAdd] at *
  clear r4 S4
  go_wp2_with (fail)
  refine (c5 _ _ B4).mono ?_
  rintro e w5 ⟨v5, rfl, r5, d5⟩
  have B5 := B4.below d5
  have b5 := b4.trans (d5.mono b4.size)
  have s5 := cell_later d5 s4
  obtain ⟨g5, cap5, rfl, _, _⟩ := World.ownsRow.form r5 (by decide)
  have u5 : w5.cell? ⟨g5, 0, none⟩ = some (.int .i64 100) := r5.cellAt 0 (by decide)
  clear r5 s4
  go_wp2_with (fail)
  refine (c6 _ _ B5).mono ?_
  rintro e w' ⟨rfl, rfl⟩
  go_wp2_with (fail)
  refine (c7 _ _ B5).mono ?_
  rintro e w' ⟨rfl, rfl⟩
  go_wp2_with (fail)
  refine (c8 _ _ B5).mono ?_
  rintro e w8 ⟨rfl, d8⟩
  have B8 := B5.below d8
  have b8 := b5.trans (d8.mono b5.size)
  go_wp2_with (fail)
  refine (c9 _ _ B8).mono ?_
  rintro e w9 ⟨v9, rfl, r9, d9⟩
  have B9 := B8.below d9
  have b9 := b8.trans (d9.mono b8.size)
  obtain ⟨g9, cap9, rfl, _, _, _, S9⟩ := rw_bds_of r9 (by decide)
  go_wp2_with (fail)
  refine (same_true _ _ _ _ _ _ _ _ _ _ _ _ _ B9 S9 (by omega) (by omega) (by decide) (by decide) (by decide)).mono ?_
  rintro e w10 ⟨rfl, d10⟩
  have b10 := b9.trans (d10.mono b9.size)
  go_wp2
  go_ret
  exact ⟨rfl, b10⟩
end Go.Proofs.Ytkiefceomgbbhaa
