/- The first call of all of pair's statements. -/
import Derived.Test.YtkiefceomgbbhaaPairD
namespace Go.Proofs.Ytkiefceomgbbhaa
open Go.RowKit Go.Sort
set_option linter.unusedVariables false

def bF (i : Nat) : Int := if i = 0 then 0 else 100
def bR (i : Nat) : Int := if i = 0 then 0 else 2000
def bE (i : Nat) : Int := if i = 0 then 0 else 1000
theorem two_ok : Okb bF bR bE 2 := okb_of (by decide)
theorem is_25 : Is 4627730092099895296 25 := ⟨false, 7036874417766400, -48, rfl, fun _ => rfl, fun h => by omega, fun _ => rfl⟩
theorem is_50 : Is 4632233691727265792 50 := ⟨false, 7036874417766400, -47, rfl, fun _ => rfl, fun h => by omega, fun _ => rfl⟩
set_option maxHeartbeats 8000000 in
set_option maxRecDepth 100000 in
theorem both_any (w : World) : Calls Try.prog 29 #[] w fun e w' => e = .returned (.bool true) ∧ Below w.heap.size w w' := by
  have q1 : exactV bF bR 2 350 = 500000 := by decide
  have q2 : exactV bF bE 2 350 = 250000 := by decide
  have q3 : rnd 500000 10000 1 = 50 := by decide
  have q4 : rnd 250000 10000 1 = 25 := by decide
  have q5 : totV (fun _ => 50) (fun _ => 25) 2 = .tuple #[.agg #[.int .i64 100, .int .i64 50], .int .i64 0] := by simp [totV, okT, tsm, amtB]
  have b0 : Below w.heap.size w (w.alloc (.cells #[.int .i64 0, .int .i64 0, .int .i64 0, .int .i64 100, .int .i64 2000, .int .i64 1000] 37)) := (Below.refl _ _).alloc (Nat.le_refl _) _
  have B0 : Bds (w.alloc (.cells #[.int .i64 0, .int .i64 0, .int .i64 0, .int .i64 100, .int .i64 2000, .int .i64 1000] 37)) (some ⟨w.heap.size, 0, none⟩) 2 bF bR bE := fun _ =>
    ⟨_, _, rfl, fun i hi => by
      have : i = 0 ∨ i = 1 := by omega
      rcases this with rfl | rfl <;> simp [World.cell?_alloc_new, bF, bR, bE]⟩
  have c1 := banded_ok 2 2 350 _ bF bR bE _ B0 two_ok (by decide)
  rw [q1, q2] at c1
  have i50 := of_is 50 (by decide)
  have i25 := of_is 25 (by decide)
  have c4 := share_ok 50 25 (by decide) (by decide)
  have c6 := of_ok2 50 25 (by decide) (by decide)
  generalize floatOfInt .f64 50 = p50 at *
  generalize floatOfInt .f64 25 = p25 at *
  have o1 := order_eq i50 i50 rfl
  have o2 := order_eq i25 i25 rfl
  have o3 := order_eq i25 is_25 rfl
  have o4 := order_eq i50 is_50 rfl
  have c7 := swap_any p50 p25
  clear q1 q2 i50 i25 B0
  go_enter Try.func29, Try.ntmps29
  go_wp2_with (fail)
  with_reducible refine c1.mono ?_
  rintro e w1 ⟨sx, sy, rfl, isx, isy, d1⟩
  have b1 := b0.trans (d1.mono b0.size)
  clear c1 d1 b0
  have c2 := sides_ok sx sy 500000 250000 isx isy (by decide) (by decide)
  have c3 := pcoins_ok sx sy 500000 250000 1 isx isy (by decide) (by decide) (by decide)
  rw [q3, q4] at c3
  clear isx isy q3 q4
  go_wp2_with (fail)
  with_reducible refine (c2 _).mono ?_
  rintro e w' ⟨rfl, rfl⟩
  go_wp2_with (fail)
  with_reducible refine (c3 _).mono ?_
  rintro e w3 ⟨rfl, d3⟩
  have b3 := b1.trans (d3.mono b1.size)
  have p3 := P2.new w3 50 25 65
  have b3' := b3.alloc b3.size (.cells #[.int .i64 50, .int .i64 25] 65)
  clear c2 c3 d3 b1
  go_wp2_with (fail)
  with_reducible refine (c4 _).mono ?_
  rintro e w4 ⟨rfl, d4⟩
  have p4 := p3.below d4
  have b4 := b3'.trans (d4.mono b3'.size)
  obtain ⟨x0, x1, _, _, xz⟩ := id p4
  have S5 : Shs (w4.alloc (.cells #[.int .i64 50, .int .i64 25, .int .i64 50, .int .i64 25] 65)) (some ⟨w4.heap.size, 0, none⟩) 2 (fun _ => 50) (fun _ => 25) := fun _ =>
    ⟨_, _, rfl, fun i hi => by
      have : i = 0 ∨ i = 1 := by omega
      rcases this with rfl | rfl <;> simp [World.cell?_alloc_new]⟩
  have c5 := total_any _ 2 2 _ _ _ S5 (by omega)
  rw [q5] at c5
  have b5 := b4.alloc b4.size (.cells #[.int .i64 50, .int .i64 25, .int .i64 50, .int .i64 25] 65)
  have p5 := p4.below ((Below.refl _ _).alloc (Nat.le_refl _) (.cells #[.int .i64 50, .int .i64 25, .int .i64 50, .int .i64 25] 65))
  clear c4 d4 p3 b3 b3' S5 q5
  go_wp2_with (fail)
  with_reducible refine c5.mono ?_
  rintro e w5 ⟨rfl, d5⟩
  have p6 := p5.below d5
  have b6 := b5.trans (d5.mono b5.size)
  have b7 := b6.alloc b6.size (.cells #[.int .i64 100, .int .i64 50] 65)
  have p7 := p6.below ((Below.refl _ _).alloc (Nat.le_refl _) (.cells #[.int .i64 100, .int .i64 50] 65))
  have p8 := P2.new w5 100 50 65
  clear c5 d5 b4 b5 p4 p5 p6 x0 x1 xz
  go_wp2_with (fail)
  with_reducible refine (c6 _).mono ?_
  rintro e w' ⟨rfl, rfl⟩
  obtain ⟨y0, y1, _, _, yz⟩ := p7
  obtain ⟨z0, z1, _, _, zz⟩ := p8
  generalize w5.alloc _ = w9 at *
  clear c6
  go_wp2_with (fail)
  with_reducible refine (c7 _).mono ?_
  rintro e w' ⟨rfl, rfl⟩
  go_wp2
  go_ret
  exact ⟨rfl, b7⟩
end Go.Proofs.Ytkiefceomgbbhaa
