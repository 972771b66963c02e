/- What the calls of pair answer of shares: Share, Coins, Total; and Banded where it refuses. -/
import Derived.Test.YtffihnbpjcgicaaPairB
namespace Go.Proofs.Ytffihnbpjcgicaa
open Go.RowKit Go.Sort
set_option linter.unusedVariables false

set_option maxRecDepth 100000 in
set_option maxHeartbeats 1000000 in
theorem banded_chk (n c : Nat) (x : Int) (A : Option Addr) (F R E : Nat → Int) (w : World) (h : Bds w A n F R E) (hn : n ≤ 9223372036854775807) (hbad : chk F R E n ≠ 0) :
    Calls Try.prog 58 #[.int .i64 x, .slice A n c] w fun e w' => e = .returned (.tuple #[.complex .f64 0 0, .int .i64 (chk F R E n)]) ∧ Below w.heap.size w w' := by
  have ck := check_any A n c w F R E h hn
  have hne : (chk F R E n != 0) = true := by simpa using hbad
  generalize chk F R E n = k at *
  clear hbad
  go_enter Try.func58, Try.ntmps58
  go_wp2_with (fail)
  go_step3
  go_wp2_with (fail)
  with_reducible refine ck.mono ?_
  rintro e w1 ⟨rfl, hb1⟩
  go_wp2
  try rw [Exit.noGoto_ret]
  go_ret2
  exact ⟨rfl, hb1⟩
set_option maxRecDepth 100000 in
set_option maxHeartbeats 1000000 in
theorem banded_amt (n c : Nat) (x : Int) (A : Option Addr) (F R E : Nat → Int) (w : World) (h : Bds w A n F R E) (hok : Okb F R E n) (hx : amtB x = false) :
    Calls Try.prog 58 #[.int .i64 x, .slice A n c] w fun e w' => e = .returned (.tuple #[.complex .f64 0 0, .int .i64 10]) ∧ Below w.heap.size w w' := by
  have ck := check_any A n c w F R E h (by have := hok.2.1; omega)
  rw [chk_of hok] at ck
  go_enter Try.func58, Try.ntmps58
  go_wp2_with (fail)
  go_step3
  go_wp2_with (fail)
  with_reducible refine ck.mono ?_
  rintro e w1 ⟨rfl, hb1⟩
  go_wp2_with (fail)
  refine (right_at x _ _ _ false hx (by simp [go_sem])).mono ?_
  rintro e w' ⟨rfl, rfl⟩
  go_wp2
  try rw [Exit.noGoto_ret]
  go_ret2
  exact ⟨rfl, hb1.alloc hb1.size _⟩
theorem pcoins_mode (x y : Nat) (a b m : Int) (hx : Is x a) (hy : Is y b) (ha : sdB a = true) (hb : sdB b = true) (hm : modeB m = false) (w : World) :
    Calls Try.prog 55 #[.complex .f64 x y, .int .i64 m] w fun e w' => e = .returned (.tuple #[.agg #[.int .i64 0, .int .i64 0], .int .i64 1]) ∧ Below w.heap.size w w' := by
  have c1 := sides_ok x y a b hx hy ha hb
  have c2 := fun W => round_bad a 10000 m W (.inr hm)
  clear hx hy ha hb hm
  go_enter Try.func55, Try.ntmps55
  go_wp2_with (fail)
  with_reducible refine (c1 _).mono ?_
  rintro e w' ⟨rfl, rfl⟩
  go_wp2_with (fail)
  with_reducible refine (c2 _).mono ?_
  rintro e w' ⟨rfl, rfl⟩
  go_wp2
  exact bodyPost_ret (v := .tuple #[.agg #[.int .i64 0, .int .i64 0], .int .i64 1]) (by simp [results, Try.results55, go_sem]) rfl ⟨rfl, (Below.refl _ _).alloc (Nat.le_refl _) _⟩
theorem pcoins_ok (x y : Nat) (a b m : Int) (hx : Is x a) (hy : Is y b) (ha : sdB a = true) (hb : sdB b = true) (hm : modeB m = true) (w : World) :
    Calls Try.prog 55 #[.complex .f64 x y, .int .i64 m] w fun e w' => e = .returned (.tuple #[.agg #[.int .i64 (rnd a 10000 m), .int .i64 (rnd b 10000 m)], .int .i64 0]) ∧ Below w.heap.size w w' := by
  have c1 := sides_ok x y a b hx hy ha hb
  have h1 := sdB_yes ha
  have h2 := sdB_yes hb
  have c2 := fun W => round_ok a 10000 m W (by omega) (by omega) (by omega) (by omega) hm
  have c3 := fun W => round_ok b 10000 m W (by omega) (by omega) (by omega) (by omega) hm
  generalize rnd a 10000 m = u at *
  generalize rnd b 10000 m = v at *
  clear hx hy ha hb hm h1 h2
  go_enter Try.func55, Try.ntmps55
  go_wp2_with (fail)
  with_reducible refine (c1 _).mono ?_
  rintro e w' ⟨rfl, rfl⟩
  go_wp2_with (fail)
  with_reducible refine (c2 _).mono ?_
  rintro e w' ⟨rfl, k, rfl⟩
  go_wp2_with (fail)
  with_reducible refine (c3 _).mono ?_
  rintro e w' ⟨rfl, q, rfl⟩
  go_wp2
  exact bodyPost_ret (v := .tuple #[.agg #[.int .i64 u, .int .i64 v], .int .i64 0]) (by simp [results, Try.results55, go_sem]) rfl ⟨rfl, ((below_drewN ((Below.refl _ _).alloc (Nat.le_refl _) _) _).setCell (Nat.le_refl _) _).setCell (Nat.le_refl _) _⟩
end Go.Proofs.Ytffihnbpjcgicaa
