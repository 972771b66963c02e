/- What the law's own same answers of alike payslips. -/
import Derived.Test.YtfnjhalpedccaaaYrU
namespace Go.Proofs.Ytfnjhalpedccaaa
open Go.RowKit Go.Sort
set_option linter.unusedVariables false
set_option linter.unusedSimpArgs false

set_option maxRecDepth 100000 in
set_option maxHeartbeats 4000000 in
theorem lsame_raw (k ca tb so tx sf : Int) (A : Option Addr) (n c : Nat) (net : Int) (T : Option Addr) (m d : Nat) (pay : Int) (A' : Option Addr) (c' : Nat) (T' : Option Addr) (d' : Nat) (X Y : Nat → Int) (f : Nat → Tkn) (w : World) (h : Shs w A n X Y) (h' : Shs w A' n X Y) (g : Tks w T m f) (g' : Tks w T' m f) (hn : n ≤ 1000000) (hm : m ≤ 1000000) :
    Calls Try.prog 16 #[.agg #[.int .i64 k, .int .i64 ca, .int .i64 tb, .int .i64 so, .int .i64 tx, .int .i64 sf, .slice A n c, .int .i64 net, .slice T m d, .int .i64 pay], .agg #[.int .i64 k, .int .i64 ca, .int .i64 tb, .int .i64 so, .int .i64 tx, .int .i64 sf, .slice A' n c', .int .i64 net, .slice T' m d', .int .i64 pay]] w fun e w' => e = .returned (.bool true) ∧ Below w.heap.size w w' := by
  have K0 : Bx ((w.alloc (.cells #[.int .i64 k, .int .i64 ca, .int .i64 tb, .int .i64 so, .int .i64 tx, .int .i64 sf, .slice A n c, .int .i64 net, .slice T m d, .int .i64 pay] 37)).alloc (.cells #[.int .i64 k, .int .i64 ca, .int .i64 tb, .int .i64 so, .int .i64 tx, .int .i64 sf, .slice A' n c', .int .i64 net, .slice T' m d', .int .i64 pay] 37)) (w.heap.size) 37 [.int .i64 k, .int .i64 ca, .int .i64 tb, .int .i64 so, .int .i64 tx, .int .i64 sf, .slice A n c, .int .i64 net, .slice T m d, .int .i64 pay] := (bx_new w [.int .i64 k, .int .i64 ca, .int .i64 tb, .int .i64 so, .int .i64 tx, .int .i64 sf, .slice A n c, .int .i64 net, .slice T m d, .int .i64 pay] 37).alloc _
  have K1 : Bx ((w.alloc (.cells #[.int .i64 k, .int .i64 ca, .int .i64 tb, .int .i64 so, .int .i64 tx, .int .i64 sf, .slice A n c, .int .i64 net, .slice T m d, .int .i64 pay] 37)).alloc (.cells #[.int .i64 k, .int .i64 ca, .int .i64 tb, .int .i64 so, .int .i64 tx, .int .i64 sf, .slice A' n c', .int .i64 net, .slice T' m d', .int .i64 pay] 37)) (w.heap.size + 1) 37 [.int .i64 k, .int .i64 ca, .int .i64 tb, .int .i64 so, .int .i64 tx, .int .i64 sf, .slice A' n c', .int .i64 net, .slice T' m d', .int .i64 pay] := bx_at _ [.int .i64 k, .int .i64 ca, .int .i64 tb, .int .i64 so, .int .i64 tx, .int .i64 sf, .slice A' n c', .int .i64 net, .slice T' m d', .int .i64 pay] 37 (by simp)
  have B : Below w.heap.size w ((w.alloc (.cells #[.int .i64 k, .int .i64 ca, .int .i64 tb, .int .i64 so, .int .i64 tx, .int .i64 sf, .slice A n c, .int .i64 net, .slice T m d, .int .i64 pay] 37)).alloc (.cells #[.int .i64 k, .int .i64 ca, .int .i64 tb, .int .i64 so, .int .i64 tx, .int .i64 sf, .slice A' n c', .int .i64 net, .slice T' m d', .int .i64 pay] 37)) := (((Below.refl _ _).alloc (Nat.le_refl _) _).alloc (by simp) _)
  have k0_0 := K0.cell (i := 0) rfl
  have k0_1 := K0.cell (i := 1) rfl
  have k0_2 := K0.cell (i := 2) rfl
  have k0_3 := K0.cell (i := 3) rfl
  have k0_4 := K0.cell (i := 4) rfl
  have k0_5 := K0.cell (i := 5) rfl
  have k0_6 := K0.cell (i := 6) rfl
  have k0_7 := K0.cell (i := 7) rfl
  have k0_8 := K0.cell (i := 8) rfl
  have k0_9 := K0.cell (i := 9) rfl
  have k1_0 := K1.cell (i := 0) rfl
  have k1_1 := K1.cell (i := 1) rfl
  have k1_2 := K1.cell (i := 2) rfl
  have k1_3 := K1.cell (i := 3) rfl
  have k1_4 := K1.cell (i := 4) rfl
  have k1_5 := K1.cell (i := 5) rfl
  have k1_6 := K1.cell (i := 6) rfl
  have k1_7 := K1.cell (i := 7) rfl
  have k1_8 := K1.cell (i := 8) rfl
  have k1_9 := K1.cell (i := 9) rfl
  have cE := fun w h h' => eq2 A A' n c c' w X Y h h' hn
  have cF := fun w g g' => eq6 T T' m d d' w f g g' hm
  replace h := h.below (show Below w.heap.size w ((w.alloc (.cells #[.int .i64 k, .int .i64 ca, .int .i64 tb, .int .i64 so, .int .i64 tx, .int .i64 sf, .slice A n c, .int .i64 net, .slice T m d, .int .i64 pay] 37)).alloc (.cells #[.int .i64 k, .int .i64 ca, .int .i64 tb, .int .i64 so, .int .i64 tx, .int .i64 sf, .slice A' n c', .int .i64 net, .slice T' m d', .int .i64 pay] 37)) from B)
  replace h' := h'.below (show Below w.heap.size w ((w.alloc (.cells #[.int .i64 k, .int .i64 ca, .int .i64 tb, .int .i64 so, .int .i64 tx, .int .i64 sf, .slice A n c, .int .i64 net, .slice T m d, .int .i64 pay] 37)).alloc (.cells #[.int .i64 k, .int .i64 ca, .int .i64 tb, .int .i64 so, .int .i64 tx, .int .i64 sf, .slice A' n c', .int .i64 net, .slice T' m d', .int .i64 pay] 37)) from B)
  replace g := g.below (show Below w.heap.size w ((w.alloc (.cells #[.int .i64 k, .int .i64 ca, .int .i64 tb, .int .i64 so, .int .i64 tx, .int .i64 sf, .slice A n c, .int .i64 net, .slice T m d, .int .i64 pay] 37)).alloc (.cells #[.int .i64 k, .int .i64 ca, .int .i64 tb, .int .i64 so, .int .i64 tx, .int .i64 sf, .slice A' n c', .int .i64 net, .slice T' m d', .int .i64 pay] 37)) from B)
  replace g' := g'.below (show Below w.heap.size w ((w.alloc (.cells #[.int .i64 k, .int .i64 ca, .int .i64 tb, .int .i64 so, .int .i64 tx, .int .i64 sf, .slice A n c, .int .i64 net, .slice T m d, .int .i64 pay] 37)).alloc (.cells #[.int .i64 k, .int .i64 ca, .int .i64 tb, .int .i64 so, .int .i64 tx, .int .i64 sf, .slice A' n c', .int .i64 net, .slice T' m d', .int .i64 pay] 37)) from B)
  have hq := eql_bs ca tb so
  go_enter Try.func16, Try.ntmps16
  go_wp2_with (fail)
  with_reducible refine (cE _ h h').mono ?_
  rintro e w1 ⟨rfl, hb⟩
  clear cE h h'
  replace g := g.below hb
  replace g' := g'.below hb
  clear k0_0 k0_1 k0_2 k0_3 k0_4 k0_5 k0_6 k0_7 k0_8 k0_9 k1_0 k1_1 k1_2 k1_3 k1_4 k1_5 k1_6 k1_7 k1_8 k1_9
  replace K0 := K0.below hb
  replace K1 := K1.below hb
  replace B := below_step B hb B.size
  clear hb
  have k0_0 := K0.cell (i := 0) rfl
  have k0_1 := K0.cell (i := 1) rfl
  have k0_2 := K0.cell (i := 2) rfl
  have k0_3 := K0.cell (i := 3) rfl
  have k0_4 := K0.cell (i := 4) rfl
  have k0_5 := K0.cell (i := 5) rfl
  have k0_6 := K0.cell (i := 6) rfl
  have k0_7 := K0.cell (i := 7) rfl
  have k0_8 := K0.cell (i := 8) rfl
  have k0_9 := K0.cell (i := 9) rfl
  have k1_0 := K1.cell (i := 0) rfl
  have k1_1 := K1.cell (i := 1) rfl
  have k1_2 := K1.cell (i := 2) rfl
  have k1_3 := K1.cell (i := 3) rfl
  have k1_4 := K1.cell (i := 4) rfl
  have k1_5 := K1.cell (i := 5) rfl
  have k1_6 := K1.cell (i := 6) rfl
  have k1_7 := K1.cell (i := 7) rfl
  have k1_8 := K1.cell (i := 8) rfl
  have k1_9 := K1.cell (i := 9) rfl
  go_wp2_with (fail)
  with_reducible refine (cF _ g g').mono ?_
  rintro e w2 ⟨rfl, hb⟩
  clear cF g g'
  clear k0_0 k0_1 k0_2 k0_3 k0_4 k0_5 k0_6 k0_7 k0_8 k0_9 k1_0 k1_1 k1_2 k1_3 k1_4 k1_5 k1_6 k1_7 k1_8 k1_9
  replace K0 := K0.below hb
  replace K1 := K1.below hb
  replace B := below_step B hb B.size
  clear hb
  have k0_0 := K0.cell (i := 0) rfl
  have k0_1 := K0.cell (i := 1) rfl
  have k0_2 := K0.cell (i := 2) rfl
  have k0_3 := K0.cell (i := 3) rfl
  have k0_4 := K0.cell (i := 4) rfl
  have k0_5 := K0.cell (i := 5) rfl
  have k0_6 := K0.cell (i := 6) rfl
  have k0_7 := K0.cell (i := 7) rfl
  have k0_8 := K0.cell (i := 8) rfl
  have k0_9 := K0.cell (i := 9) rfl
  have k1_0 := K1.cell (i := 0) rfl
  have k1_1 := K1.cell (i := 1) rfl
  have k1_2 := K1.cell (i := 2) rfl
  have k1_3 := K1.cell (i := 3) rfl
  have k1_4 := K1.cell (i := 4) rfl
  have k1_5 := K1.cell (i := 5) rfl
  have k1_6 := K1.cell (i := 6) rfl
  have k1_7 := K1.cell (i := 7) rfl
  have k1_8 := K1.cell (i := 8) rfl
  have k1_9 := K1.cell (i := 9) rfl
  go_wp2
  go_ret
  exact ⟨rfl, B⟩
end Go.Proofs.Ytfnjhalpedccaaa
