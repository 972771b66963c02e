/- What social.Exact and social.Due answer. -/
import Derived.Test.YtffihnbpjcgicaaSocA
import Derived.Test.YtffihnbpjcgicaaBox
import Derived.Test.YtffihnbpjcgicaaOwnM
namespace Go.Proofs.Ytffihnbpjcgicaa
open Go.RowKit Go.Sort
set_option linter.unusedVariables false
set_option linter.unusedSimpArgs false

/-- both sides of a contribution of so much -/
def dueA (c : CB) (x : Int) : Int := rnd (exactV c.b.F c.b.R c.b.n x) 10000 c.W
def dueB (c : CB) (x : Int) : Int := rnd (exactV c.b.F c.b.E c.b.n x) 10000 c.W
theorem sexact_ok (c : CB) (x : Int) (w : World) (h : Bds w c.b.A c.b.n c.b.F c.b.R c.b.E) (hok : Okb c.b.F c.b.R c.b.E c.b.n) (hx : amtB x = true) :
    Calls Try.prog 54 #[c.v, .int .i64 x] w fun e w' => ∃ sx sy, e = .returned (.tuple #[.complex .f64 sx sy, .int .i64 0]) ∧ Is sx (exactV c.b.F c.b.R c.b.n x) ∧ Is sy (exactV c.b.F c.b.E c.b.n x) ∧ Below w.heap.size w w' := by
  obtain ⟨N, B, ⟨A, n, cc, F, R, E⟩, P, Y, W⟩ := c
  dsimp only [CB.v] at *
  have B1 := below_new w (.cells #[.string N, .int .i64 B, .slice A n cc, .int .i64 P, .int .i64 Y, .int .i64 W] 58)
  have cb := banded_ok n cc x A F R E _ (h.below B1) hok hx
  clear h hok hx
  go_enter Try.func54, Try.ntmps54
  go_wp2_with (fail)
  with_reducible refine cb.mono ?_
  rintro e w' ⟨sx, sy, rfl, ix, iy, hb⟩
  go_wp2
  go_ret2
  exact ⟨sx, sy, rfl, ix, iy, below_step B1 hb B1.size⟩
theorem sexact_amt (c : CB) (x : Int) (w : World) (h : Bds w c.b.A c.b.n c.b.F c.b.R c.b.E) (hok : Okb c.b.F c.b.R c.b.E c.b.n) (hx : amtB x = false) :
    Calls Try.prog 54 #[c.v, .int .i64 x] w fun e w' => e = .returned (.tuple #[.complex .f64 0 0, .int .i64 10]) ∧ Below w.heap.size w w' := by
  obtain ⟨N, B, ⟨A, n, cc, F, R, E⟩, P, Y, W⟩ := c
  dsimp only [CB.v] at *
  have B1 := below_new w (.cells #[.string N, .int .i64 B, .slice A n cc, .int .i64 P, .int .i64 Y, .int .i64 W] 58)
  have cb := banded_amt n cc x A F R E _ (h.below B1) hok hx
  clear h hok hx
  go_enter Try.func54, Try.ntmps54
  go_wp2_with (fail)
  with_reducible refine cb.mono ?_
  rintro e w' ⟨rfl, hb⟩
  go_wp2
  go_ret2
  exact ⟨rfl, below_step B1 hb B1.size⟩
theorem sdue_ok (c : CB) (x : Int) (w : World) (h : Bds w c.b.A c.b.n c.b.F c.b.R c.b.E) (hok : Okb c.b.F c.b.R c.b.E c.b.n) (hm : modeB c.W = true) (hx : amtB x = true) :
    Calls Try.prog 46 #[c.v, .int .i64 x] w fun e w' => e = .returned (.tuple #[.agg #[.int .i64 (dueA c x), .int .i64 (dueB c x)], .int .i64 0]) ∧ Below w.heap.size w w' := by
  have ce := fun w h => sexact_ok c x w h hok hx
  have hxx := amtB_yes hx
  have eA := exact_bd hok.1 hok.2.2.1 hok.2.2.2.1 hok.2.2.2.2.1 hxx.2
  have eB := exact_bd hok.1 hok.2.2.1 hok.2.2.2.1 hok.2.2.2.2.2 hxx.2
  have hA : dueA c x = rnd (exactV c.b.F c.b.R c.b.n x) 10000 c.W := rfl
  have hB : dueB c x = rnd (exactV c.b.F c.b.E c.b.n x) 10000 c.W := rfl
  generalize exactV c.b.F c.b.R c.b.n x = u at *
  generalize exactV c.b.F c.b.E c.b.n x = v at *
  have cc := fun sx sy w ix iy => pcoins_ok sx sy u v c.W ix iy (sdB_mk (by omega) (by omega)) (sdB_mk (by omega) (by omega)) hm w
  rw [← hA, ← hB] at cc
  generalize dueA c x = da at *
  generalize dueB c x = db at *
  clear hok hm hx hxx eA eB hA hB
  obtain ⟨N, B, ⟨A, n, cb, F, R, E⟩, P, Y, W⟩ := c
  dsimp only [CB.v] at *
  have K1 := (bx_new w [.string N, .int .i64 B, .slice A n cb, .int .i64 P, .int .i64 Y, .int .i64 W] 58).alloc (.cells #[.int .i64 0, .int .i64 0] 47)
  have K2 := bx_at (w.alloc (.cells #[.string N, .int .i64 B, .slice A n cb, .int .i64 P, .int .i64 Y, .int .i64 W] 58)) [.int .i64 0, .int .i64 0] 47 (n := w.heap.size + 1) (by simp)
  have B1 := (below_new w (.cells #[.string N, .int .i64 B, .slice A n cb, .int .i64 P, .int .i64 Y, .int .i64 W] 58)).alloc (by simp) (.cells #[.int .i64 0, .int .i64 0] 47)
  have ce' := ce _ (h.below B1)
  go_enter Try.func46, Try.ntmps46
  go_wp2_with (fail)
  with_reducible refine ce'.mono ?_
  rintro e w1 ⟨sx, sy, rfl, ix, iy, hb⟩
  have k5 := (K1.below hb).cell (i := 5) rfl
  have K3 := K2.below hb
  have k20 := K3.cell (i := 0) rfl
  have k21 := K3.cell (i := 1) rfl
  have B2 := below_step B1 hb B1.size
  clear ce ce' h K1 K2 B1 hb
  go_wp2_with (fail)
  with_reducible refine (cc sx sy _ ix iy).mono ?_
  rintro e w2 ⟨rfl, hb⟩
  have K4 := K3.below hb
  have k20 := K4.cell (i := 0) rfl
  have k21 := K4.cell (i := 1) rfl
  have f0 := K4.fr 0
  have f1 := K4.fr 1
  have B3 := below_step B2 hb B2.size
  have Z := (K4.set 0 (.int .i64 da)).set 1 (.int .i64 db)
  have z0 := Z.cell (i := 0) rfl
  have z1 := Z.cell (i := 1) rfl
  clear K3 K4 Z
  go_wp2
  exact bodyPost_ret (v := .tuple #[.agg #[.int .i64 da, .int .i64 db], .int .i64 0]) (by simp [results, Try.results46, go_sem, z0, z1]) rfl ⟨rfl, (B3.setCell (p := ⟨w.heap.size + 1, 0, none⟩) (by show w.heap.size ≤ w.heap.size + 1; omega) _).setCell (p := ⟨w.heap.size + 1, 1, none⟩) (by show w.heap.size ≤ w.heap.size + 1; omega) _⟩
theorem sdue_amt (c : CB) (x : Int) (w : World) (h : Bds w c.b.A c.b.n c.b.F c.b.R c.b.E) (hok : Okb c.b.F c.b.R c.b.E c.b.n) (hx : amtB x = false) :
    Calls Try.prog 46 #[c.v, .int .i64 x] w fun e w' => e = .returned (.tuple #[.agg #[.int .i64 0, .int .i64 0], .int .i64 10]) ∧ Below w.heap.size w w' := by
  have ce := fun w h => sexact_amt c x w h hok hx
  clear hok hx
  obtain ⟨N, B, ⟨A, n, cb, F, R, E⟩, P, Y, W⟩ := c
  dsimp only [CB.v] at *
  have K2 := bx_at (w.alloc (.cells #[.string N, .int .i64 B, .slice A n cb, .int .i64 P, .int .i64 Y, .int .i64 W] 58)) [.int .i64 0, .int .i64 0] 47 (n := w.heap.size + 1) (by simp)
  have B1 := (below_new w (.cells #[.string N, .int .i64 B, .slice A n cb, .int .i64 P, .int .i64 Y, .int .i64 W] 58)).alloc (by simp) (.cells #[.int .i64 0, .int .i64 0] 47)
  have ce' := ce _ (h.below B1)
  go_enter Try.func46, Try.ntmps46
  go_wp2_with (fail)
  with_reducible refine ce'.mono ?_
  rintro e w1 ⟨rfl, hb⟩
  have K3 := K2.below hb
  have k20 := K3.cell (i := 0) rfl
  have k21 := K3.cell (i := 1) rfl
  have f0 := K3.fr 0
  have f1 := K3.fr 1
  have B2 := below_step B1 hb B1.size
  have Z := (K3.set 0 (.int .i64 0)).set 1 (.int .i64 0)
  have z0 := Z.cell (i := 0) rfl
  have z1 := Z.cell (i := 1) rfl
  clear ce ce' h K2 K3 B1 hb Z
  go_wp2
  exact bodyPost_ret (v := .tuple #[.agg #[.int .i64 0, .int .i64 0], .int .i64 10]) (by simp [results, Try.results46, go_sem, z0, z1]) rfl ⟨rfl, (B2.setCell (p := ⟨w.heap.size + 1, 0, none⟩) (by show w.heap.size ≤ w.heap.size + 1; omega) _).setCell (p := ⟨w.heap.size + 1, 1, none⟩) (by show w.heap.size ≤ w.heap.size + 1; omega) _⟩
end Go.Proofs.Ytffihnbpjcgicaa
