/- What period's Index answers. -/
import Derived.Test.YtkgfmanolanlhaaDoorPerD
import Derived.Deep.RegionWith
namespace Go.Proofs.YtkgfmanolanlhaaDoor
open Go.RowKit
set_option linter.unusedVariables false
set_option linter.unusedSimpArgs false
set_option maxRecDepth 100000 in
set_option maxHeartbeats 1000000 in
theorem index_early' (p : Nat) (f y m d a b c : Int) (W : World) (Y : Yr W p f y m d) (hd : dayB a b c = true) (hcs : ∀ w, Calls Tryd.prog 27 #[.agg #[.int .i64 a, .int .i64 b, .int .i64 c], .agg #[.int .i64 y, .int .i64 m, .int .i64 d]] w fun e w' => e = .returned (.int .i64 (-1)) ∧ Below w.heap.size w w') (hce : True) :
    Calls Tryd.prog 53 #[.pointer (some ⟨p, 0, none⟩), .agg #[.int .i64 a, .int .i64 b, .int .i64 c]] W fun e w' => e = .returned (.tuple #[.int .i64 0, .int .i64 1]) ∧ Below W.heap.size W w' := by
  have hc := right_b a b c true hd
  have L0 := ls_new W p f y m d a b c 47 23 Y
  obtain ⟨k0, k1, k2, k3, _, B0, _⟩ := id L0
  clear hd Y
  go_enter Tryd.func53, Tryd.ntmps53
  go_wp2_with (fail)
  refine (hc _).mono ?_
  rintro e w1 ⟨rfl, hb⟩
  have X1 := (XS.of L0).step hb
  have X2 := X1.step (Below.refl _ _).drew
  clear k0 k1 k2 k3 B0 L0 hb
  go_wp2
  obtain ⟨x0, x1, x2, x3, x4, x5, x6, x7, x8, x9, X3⟩ := id X1
  go_region_with ((go_at_call 27; (with_reducible refine (hcs _).mono ?_); rintro e w2 ⟨rfl, hb⟩; have hB := (X2.step hb).2.2.2.2.2.2.2.2.2.2.2.2.2.2.2.1))
  all_goals go_wp2
  all_goals go_ret2
  all_goals exact ⟨rfl, hB⟩
end Go.Proofs.YtkgfmanolanlhaaDoor
