/- The laws' own test of a table, a code and a part of the year. -/
import Derived.Test.YtgekojbmlppmdaaDoorTaxB
import Derived.Test.YtgekojbmlppmdaaDoorOpenT
namespace Go.Proofs.YtgekojbmlppmdaaDoor
open Go.RowKit Go.Sort
set_option linter.unusedVariables false
set_option linter.unusedSimpArgs false

/-- may a code be with a table that may be, and by a part of the year? -/
def lfitB (T : TB) (s k a f n d : Int) : Bool :=
  decide ((T.nS : Int) ≤ 20) && decide ((T.nK : Int) ≤ 30) && decide ((T.nC : Int) ≤ 20) && (T.chk == 0) && (fitsV T s k a f == 0) && decide (0 ≤ n) && decide (1 ≤ d) && decide (n ≤ d) && decide (d ≤ 1048576)
theorem Tm.s {w : World} {T : TB} (h : Tm w T) : SchM w T.AS T.nS T.S := And.left h
theorem tsz_of {T : TB} (h : TFits T) : Tsz T := ⟨h.2.1.1, h.2.2.1.1, fun _ i hi => (h.2.2.2.2.2.1 i hi).1.1, fun _ i hi => (h.2.2.2.2.2.2.1 i hi).2.2.2.2.2.1.1⟩
set_option maxRecDepth 100000 in
theorem lfit_0 (T : TB) (s k a f : Int) (x : Bool) (n d : Int) (w : World) (h : Tm w T) (hF : TFits T) (ha : -9223372036854775808 ≤ a) (ha2 : a ≤ 9223372036854775807) (g0 : decide ((T.nS : Int) ≤ 20) = false) :
    Calls Tryd.prog 11 #[.agg #[.slice T.AS T.nS T.cS, .slice T.AC T.nC T.cC, .slice T.AK T.nK T.cK, .int .i64 T.L, .int .i64 T.W], .agg #[.int .i64 s, .int .i64 k, .int .i64 a, .int .i64 f, .bool x], .agg #[.int .i64 n, .int .i64 d]] w fun e w' => e = .returned (.bool false) ∧ Below w.heap.size w w' := by
  have K1 : Bx (((w.alloc (.cells #[.slice T.AS T.nS T.cS, .slice T.AC T.nC T.cC, .slice T.AK T.nK T.cK, .int .i64 T.L, .int .i64 T.W] 26)).alloc (.cells #[.int .i64 s, .int .i64 k, .int .i64 a, .int .i64 f, .bool x] 28)).alloc (.cells #[.int .i64 n, .int .i64 d] 33)) w.heap.size 26 [.slice T.AS T.nS T.cS, .slice T.AC T.nC T.cC, .slice T.AK T.nK T.cK, .int .i64 T.L, .int .i64 T.W] := ((bx_new w [.slice T.AS T.nS T.cS, .slice T.AC T.nC T.cC, .slice T.AK T.nK T.cK, .int .i64 T.L, .int .i64 T.W] 26).alloc _).alloc _
  have K2 : Bx (((w.alloc (.cells #[.slice T.AS T.nS T.cS, .slice T.AC T.nC T.cC, .slice T.AK T.nK T.cK, .int .i64 T.L, .int .i64 T.W] 26)).alloc (.cells #[.int .i64 s, .int .i64 k, .int .i64 a, .int .i64 f, .bool x] 28)).alloc (.cells #[.int .i64 n, .int .i64 d] 33)) (w.heap.size + 1) 28 [.int .i64 s, .int .i64 k, .int .i64 a, .int .i64 f, .bool x] := (bx_at _ [.int .i64 s, .int .i64 k, .int .i64 a, .int .i64 f, .bool x] 28 (by simp)).alloc _
  have K3 : Bx (((w.alloc (.cells #[.slice T.AS T.nS T.cS, .slice T.AC T.nC T.cC, .slice T.AK T.nK T.cK, .int .i64 T.L, .int .i64 T.W] 26)).alloc (.cells #[.int .i64 s, .int .i64 k, .int .i64 a, .int .i64 f, .bool x] 28)).alloc (.cells #[.int .i64 n, .int .i64 d] 33)) (w.heap.size + 1 + 1) 33 [.int .i64 n, .int .i64 d] := bx_at _ [.int .i64 n, .int .i64 d] 33 (by simp)
  have B : Below w.heap.size w (((w.alloc (.cells #[.slice T.AS T.nS T.cS, .slice T.AC T.nC T.cC, .slice T.AK T.nK T.cK, .int .i64 T.L, .int .i64 T.W] 26)).alloc (.cells #[.int .i64 s, .int .i64 k, .int .i64 a, .int .i64 f, .bool x] 28)).alloc (.cells #[.int .i64 n, .int .i64 d] 33)) := (((Below.refl _ _).alloc (Nat.le_refl _) _).alloc (by simp) _).alloc (by simp; omega) _
  have hfs := hF.1.1
  have hfc := hF.2.1.1
  have hfk := hF.2.2.1.1
  clear h hF
  have t0 := K1.cell (i := 0) rfl
  have t1 := K1.cell (i := 1) rfl
  have t2 := K1.cell (i := 2) rfl
  have t3 := K1.cell (i := 3) rfl
  have t4 := K1.cell (i := 4) rfl
  have c0 := K2.cell (i := 0) rfl
  have c1 := K2.cell (i := 1) rfl
  have c2 := K2.cell (i := 2) rfl
  have c3 := K2.cell (i := 3) rfl
  have c4 := K2.cell (i := 4) rfl
  have p0 := K3.cell (i := 0) rfl
  have p1 := K3.cell (i := 1) rfl
  go_enter Tryd.func11, Tryd.ntmps11
  go_wp2
  go_ret
  exact ⟨rfl, B⟩
set_option maxRecDepth 100000 in
theorem lfit_1 (T : TB) (s k a f : Int) (x : Bool) (n d : Int) (w : World) (h : Tm w T) (hF : TFits T) (ha : -9223372036854775808 ≤ a) (ha2 : a ≤ 9223372036854775807) (g0 : decide ((T.nS : Int) ≤ 20) = true) (g1 : decide ((T.nK : Int) ≤ 30) = false) :
    Calls Tryd.prog 11 #[.agg #[.slice T.AS T.nS T.cS, .slice T.AC T.nC T.cC, .slice T.AK T.nK T.cK, .int .i64 T.L, .int .i64 T.W], .agg #[.int .i64 s, .int .i64 k, .int .i64 a, .int .i64 f, .bool x], .agg #[.int .i64 n, .int .i64 d]] w fun e w' => e = .returned (.bool false) ∧ Below w.heap.size w w' := by
  have K1 : Bx (((w.alloc (.cells #[.slice T.AS T.nS T.cS, .slice T.AC T.nC T.cC, .slice T.AK T.nK T.cK, .int .i64 T.L, .int .i64 T.W] 26)).alloc (.cells #[.int .i64 s, .int .i64 k, .int .i64 a, .int .i64 f, .bool x] 28)).alloc (.cells #[.int .i64 n, .int .i64 d] 33)) w.heap.size 26 [.slice T.AS T.nS T.cS, .slice T.AC T.nC T.cC, .slice T.AK T.nK T.cK, .int .i64 T.L, .int .i64 T.W] := ((bx_new w [.slice T.AS T.nS T.cS, .slice T.AC T.nC T.cC, .slice T.AK T.nK T.cK, .int .i64 T.L, .int .i64 T.W] 26).alloc _).alloc _
  have K2 : Bx (((w.alloc (.cells #[.slice T.AS T.nS T.cS, .slice T.AC T.nC T.cC, .slice T.AK T.nK T.cK, .int .i64 T.L, .int .i64 T.W] 26)).alloc (.cells #[.int .i64 s, .int .i64 k, .int .i64 a, .int .i64 f, .bool x] 28)).alloc (.cells #[.int .i64 n, .int .i64 d] 33)) (w.heap.size + 1) 28 [.int .i64 s, .int .i64 k, .int .i64 a, .int .i64 f, .bool x] := (bx_at _ [.int .i64 s, .int .i64 k, .int .i64 a, .int .i64 f, .bool x] 28 (by simp)).alloc _
  have K3 : Bx (((w.alloc (.cells #[.slice T.AS T.nS T.cS, .slice T.AC T.nC T.cC, .slice T.AK T.nK T.cK, .int .i64 T.L, .int .i64 T.W] 26)).alloc (.cells #[.int .i64 s, .int .i64 k, .int .i64 a, .int .i64 f, .bool x] 28)).alloc (.cells #[.int .i64 n, .int .i64 d] 33)) (w.heap.size + 1 + 1) 33 [.int .i64 n, .int .i64 d] := bx_at _ [.int .i64 n, .int .i64 d] 33 (by simp)
  have B : Below w.heap.size w (((w.alloc (.cells #[.slice T.AS T.nS T.cS, .slice T.AC T.nC T.cC, .slice T.AK T.nK T.cK, .int .i64 T.L, .int .i64 T.W] 26)).alloc (.cells #[.int .i64 s, .int .i64 k, .int .i64 a, .int .i64 f, .bool x] 28)).alloc (.cells #[.int .i64 n, .int .i64 d] 33)) := (((Below.refl _ _).alloc (Nat.le_refl _) _).alloc (by simp) _).alloc (by simp; omega) _
  have hfs := hF.1.1
  have hfc := hF.2.1.1
  have hfk := hF.2.2.1.1
  clear h hF
  have t0 := K1.cell (i := 0) rfl
  have t1 := K1.cell (i := 1) rfl
  have t2 := K1.cell (i := 2) rfl
  have t3 := K1.cell (i := 3) rfl
  have t4 := K1.cell (i := 4) rfl
  have c0 := K2.cell (i := 0) rfl
  have c1 := K2.cell (i := 1) rfl
  have c2 := K2.cell (i := 2) rfl
  have c3 := K2.cell (i := 3) rfl
  have c4 := K2.cell (i := 4) rfl
  have p0 := K3.cell (i := 0) rfl
  have p1 := K3.cell (i := 1) rfl
  go_enter Tryd.func11, Tryd.ntmps11
  go_wp2
  go_ret
  exact ⟨rfl, B⟩
set_option maxRecDepth 100000 in
theorem lfit_2 (T : TB) (s k a f : Int) (x : Bool) (n d : Int) (w : World) (h : Tm w T) (hF : TFits T) (ha : -9223372036854775808 ≤ a) (ha2 : a ≤ 9223372036854775807) (g0 : decide ((T.nS : Int) ≤ 20) = true) (g1 : decide ((T.nK : Int) ≤ 30) = true) (g2 : decide ((T.nC : Int) ≤ 20) = false) :
    Calls Tryd.prog 11 #[.agg #[.slice T.AS T.nS T.cS, .slice T.AC T.nC T.cC, .slice T.AK T.nK T.cK, .int .i64 T.L, .int .i64 T.W], .agg #[.int .i64 s, .int .i64 k, .int .i64 a, .int .i64 f, .bool x], .agg #[.int .i64 n, .int .i64 d]] w fun e w' => e = .returned (.bool false) ∧ Below w.heap.size w w' := by
  have K1 : Bx (((w.alloc (.cells #[.slice T.AS T.nS T.cS, .slice T.AC T.nC T.cC, .slice T.AK T.nK T.cK, .int .i64 T.L, .int .i64 T.W] 26)).alloc (.cells #[.int .i64 s, .int .i64 k, .int .i64 a, .int .i64 f, .bool x] 28)).alloc (.cells #[.int .i64 n, .int .i64 d] 33)) w.heap.size 26 [.slice T.AS T.nS T.cS, .slice T.AC T.nC T.cC, .slice T.AK T.nK T.cK, .int .i64 T.L, .int .i64 T.W] := ((bx_new w [.slice T.AS T.nS T.cS, .slice T.AC T.nC T.cC, .slice T.AK T.nK T.cK, .int .i64 T.L, .int .i64 T.W] 26).alloc _).alloc _
  have K2 : Bx (((w.alloc (.cells #[.slice T.AS T.nS T.cS, .slice T.AC T.nC T.cC, .slice T.AK T.nK T.cK, .int .i64 T.L, .int .i64 T.W] 26)).alloc (.cells #[.int .i64 s, .int .i64 k, .int .i64 a, .int .i64 f, .bool x] 28)).alloc (.cells #[.int .i64 n, .int .i64 d] 33)) (w.heap.size + 1) 28 [.int .i64 s, .int .i64 k, .int .i64 a, .int .i64 f, .bool x] := (bx_at _ [.int .i64 s, .int .i64 k, .int .i64 a, .int .i64 f, .bool x] 28 (by simp)).alloc _
  have K3 : Bx (((w.alloc (.cells #[.slice T.AS T.nS T.cS, .slice T.AC T.nC T.cC, .slice T.AK T.nK T.cK, .int .i64 T.L, .int .i64 T.W] 26)).alloc (.cells #[.int .i64 s, .int .i64 k, .int .i64 a, .int .i64 f, .bool x] 28)).alloc (.cells #[.int .i64 n, .int .i64 d] 33)) (w.heap.size + 1 + 1) 33 [.int .i64 n, .int .i64 d] := bx_at _ [.int .i64 n, .int .i64 d] 33 (by simp)
  have B : Below w.heap.size w (((w.alloc (.cells #[.slice T.AS T.nS T.cS, .slice T.AC T.nC T.cC, .slice T.AK T.nK T.cK, .int .i64 T.L, .int .i64 T.W] 26)).alloc (.cells #[.int .i64 s, .int .i64 k, .int .i64 a, .int .i64 f, .bool x] 28)).alloc (.cells #[.int .i64 n, .int .i64 d] 33)) := (((Below.refl _ _).alloc (Nat.le_refl _) _).alloc (by simp) _).alloc (by simp; omega) _
  have hfs := hF.1.1
  have hfc := hF.2.1.1
  have hfk := hF.2.2.1.1
  clear h hF
  have t0 := K1.cell (i := 0) rfl
  have t1 := K1.cell (i := 1) rfl
  have t2 := K1.cell (i := 2) rfl
  have t3 := K1.cell (i := 3) rfl
  have t4 := K1.cell (i := 4) rfl
  have c0 := K2.cell (i := 0) rfl
  have c1 := K2.cell (i := 1) rfl
  have c2 := K2.cell (i := 2) rfl
  have c3 := K2.cell (i := 3) rfl
  have c4 := K2.cell (i := 4) rfl
  have p0 := K3.cell (i := 0) rfl
  have p1 := K3.cell (i := 1) rfl
  go_enter Tryd.func11, Tryd.ntmps11
  go_wp2
  go_ret
  exact ⟨rfl, B⟩
set_option maxRecDepth 100000 in
theorem lfit_3 (T : TB) (s k a f : Int) (x : Bool) (n d : Int) (w : World) (h : Tm w T) (hF : TFits T) (ha : -9223372036854775808 ≤ a) (ha2 : a ≤ 9223372036854775807) (g0 : decide ((T.nS : Int) ≤ 20) = true) (g1 : decide ((T.nK : Int) ≤ 30) = true) (g2 : decide ((T.nC : Int) ≤ 20) = true) (g3 : (T.chk == 0) = false) :
    Calls Tryd.prog 11 #[.agg #[.slice T.AS T.nS T.cS, .slice T.AC T.nC T.cC, .slice T.AK T.nK T.cK, .int .i64 T.L, .int .i64 T.W], .agg #[.int .i64 s, .int .i64 k, .int .i64 a, .int .i64 f, .bool x], .agg #[.int .i64 n, .int .i64 d]] w fun e w' => e = .returned (.bool false) ∧ Below w.heap.size w w' := by
  have K1 : Bx (((w.alloc (.cells #[.slice T.AS T.nS T.cS, .slice T.AC T.nC T.cC, .slice T.AK T.nK T.cK, .int .i64 T.L, .int .i64 T.W] 26)).alloc (.cells #[.int .i64 s, .int .i64 k, .int .i64 a, .int .i64 f, .bool x] 28)).alloc (.cells #[.int .i64 n, .int .i64 d] 33)) w.heap.size 26 [.slice T.AS T.nS T.cS, .slice T.AC T.nC T.cC, .slice T.AK T.nK T.cK, .int .i64 T.L, .int .i64 T.W] := ((bx_new w [.slice T.AS T.nS T.cS, .slice T.AC T.nC T.cC, .slice T.AK T.nK T.cK, .int .i64 T.L, .int .i64 T.W] 26).alloc _).alloc _
  have K2 : Bx (((w.alloc (.cells #[.slice T.AS T.nS T.cS, .slice T.AC T.nC T.cC, .slice T.AK T.nK T.cK, .int .i64 T.L, .int .i64 T.W] 26)).alloc (.cells #[.int .i64 s, .int .i64 k, .int .i64 a, .int .i64 f, .bool x] 28)).alloc (.cells #[.int .i64 n, .int .i64 d] 33)) (w.heap.size + 1) 28 [.int .i64 s, .int .i64 k, .int .i64 a, .int .i64 f, .bool x] := (bx_at _ [.int .i64 s, .int .i64 k, .int .i64 a, .int .i64 f, .bool x] 28 (by simp)).alloc _
  have K3 : Bx (((w.alloc (.cells #[.slice T.AS T.nS T.cS, .slice T.AC T.nC T.cC, .slice T.AK T.nK T.cK, .int .i64 T.L, .int .i64 T.W] 26)).alloc (.cells #[.int .i64 s, .int .i64 k, .int .i64 a, .int .i64 f, .bool x] 28)).alloc (.cells #[.int .i64 n, .int .i64 d] 33)) (w.heap.size + 1 + 1) 33 [.int .i64 n, .int .i64 d] := bx_at _ [.int .i64 n, .int .i64 d] 33 (by simp)
  have B : Below w.heap.size w (((w.alloc (.cells #[.slice T.AS T.nS T.cS, .slice T.AC T.nC T.cC, .slice T.AK T.nK T.cK, .int .i64 T.L, .int .i64 T.W] 26)).alloc (.cells #[.int .i64 s, .int .i64 k, .int .i64 a, .int .i64 f, .bool x] 28)).alloc (.cells #[.int .i64 n, .int .i64 d] 33)) := (((Below.refl _ _).alloc (Nat.le_refl _) _).alloc (by simp) _).alloc (by simp; omega) _
  have hfs := hF.1.1
  have hfc := hF.2.1.1
  have hfk := hF.2.2.1.1
  have ck := fun w h => check_tab w T h (tsz_of hF)
  rw [show T.v = .agg #[.slice T.AS T.nS T.cS, .slice T.AC T.nC T.cC, .slice T.AK T.nK T.cK, .int .i64 T.L, .int .i64 T.W] from rfl] at ck
  have h2 := h.below (show Below w.heap.size w (((w.alloc (.cells #[.slice T.AS T.nS T.cS, .slice T.AC T.nC T.cC, .slice T.AK T.nK T.cK, .int .i64 T.L, .int .i64 T.W] 26)).alloc (.cells #[.int .i64 s, .int .i64 k, .int .i64 a, .int .i64 f, .bool x] 28)).alloc (.cells #[.int .i64 n, .int .i64 d] 33)) from B)
  generalize T.chk = E1 at *
  clear h hF
  have t0 := K1.cell (i := 0) rfl
  have t1 := K1.cell (i := 1) rfl
  have t2 := K1.cell (i := 2) rfl
  have t3 := K1.cell (i := 3) rfl
  have t4 := K1.cell (i := 4) rfl
  have c0 := K2.cell (i := 0) rfl
  have c1 := K2.cell (i := 1) rfl
  have c2 := K2.cell (i := 2) rfl
  have c3 := K2.cell (i := 3) rfl
  have c4 := K2.cell (i := 4) rfl
  have p0 := K3.cell (i := 0) rfl
  have p1 := K3.cell (i := 1) rfl
  go_enter Tryd.func11, Tryd.ntmps11
  go_wp2_with (fail)
  with_reducible refine (ck _ h2).mono ?_
  rintro e w1 ⟨rfl, hb⟩
  have K1 := K1.below hb
  have K2 := K2.below hb
  have K3 := K3.below hb
  have h3 := h2.below hb
  have B1 := below_step B hb B.size
  clear t0 t1 t2 t3 t4 c0 c1 c2 c3 c4 p0 p1 hb B ck h2
  have t0 := K1.cell (i := 0) rfl
  have t1 := K1.cell (i := 1) rfl
  have t2 := K1.cell (i := 2) rfl
  have t3 := K1.cell (i := 3) rfl
  have t4 := K1.cell (i := 4) rfl
  have c0 := K2.cell (i := 0) rfl
  have c1 := K2.cell (i := 1) rfl
  have c2 := K2.cell (i := 2) rfl
  have c3 := K2.cell (i := 3) rfl
  have c4 := K2.cell (i := 4) rfl
  have p0 := K3.cell (i := 0) rfl
  have p1 := K3.cell (i := 1) rfl
  go_wp2
  go_ret
  exact ⟨rfl, B1⟩
set_option maxRecDepth 100000 in
theorem lfit_4 (T : TB) (s k a f : Int) (x : Bool) (n d : Int) (w : World) (h : Tm w T) (hF : TFits T) (ha : -9223372036854775808 ≤ a) (ha2 : a ≤ 9223372036854775807) (g0 : decide ((T.nS : Int) ≤ 20) = true) (g1 : decide ((T.nK : Int) ≤ 30) = true) (g2 : decide ((T.nC : Int) ≤ 20) = true) (g3 : (T.chk == 0) = true) (g4 : (fitsV T s k a f == 0) = false) :
    Calls Tryd.prog 11 #[.agg #[.slice T.AS T.nS T.cS, .slice T.AC T.nC T.cC, .slice T.AK T.nK T.cK, .int .i64 T.L, .int .i64 T.W], .agg #[.int .i64 s, .int .i64 k, .int .i64 a, .int .i64 f, .bool x], .agg #[.int .i64 n, .int .i64 d]] w fun e w' => e = .returned (.bool false) ∧ Below w.heap.size w w' := by
  have K1 : Bx (((w.alloc (.cells #[.slice T.AS T.nS T.cS, .slice T.AC T.nC T.cC, .slice T.AK T.nK T.cK, .int .i64 T.L, .int .i64 T.W] 26)).alloc (.cells #[.int .i64 s, .int .i64 k, .int .i64 a, .int .i64 f, .bool x] 28)).alloc (.cells #[.int .i64 n, .int .i64 d] 33)) w.heap.size 26 [.slice T.AS T.nS T.cS, .slice T.AC T.nC T.cC, .slice T.AK T.nK T.cK, .int .i64 T.L, .int .i64 T.W] := ((bx_new w [.slice T.AS T.nS T.cS, .slice T.AC T.nC T.cC, .slice T.AK T.nK T.cK, .int .i64 T.L, .int .i64 T.W] 26).alloc _).alloc _
  have K2 : Bx (((w.alloc (.cells #[.slice T.AS T.nS T.cS, .slice T.AC T.nC T.cC, .slice T.AK T.nK T.cK, .int .i64 T.L, .int .i64 T.W] 26)).alloc (.cells #[.int .i64 s, .int .i64 k, .int .i64 a, .int .i64 f, .bool x] 28)).alloc (.cells #[.int .i64 n, .int .i64 d] 33)) (w.heap.size + 1) 28 [.int .i64 s, .int .i64 k, .int .i64 a, .int .i64 f, .bool x] := (bx_at _ [.int .i64 s, .int .i64 k, .int .i64 a, .int .i64 f, .bool x] 28 (by simp)).alloc _
  have K3 : Bx (((w.alloc (.cells #[.slice T.AS T.nS T.cS, .slice T.AC T.nC T.cC, .slice T.AK T.nK T.cK, .int .i64 T.L, .int .i64 T.W] 26)).alloc (.cells #[.int .i64 s, .int .i64 k, .int .i64 a, .int .i64 f, .bool x] 28)).alloc (.cells #[.int .i64 n, .int .i64 d] 33)) (w.heap.size + 1 + 1) 33 [.int .i64 n, .int .i64 d] := bx_at _ [.int .i64 n, .int .i64 d] 33 (by simp)
  have B : Below w.heap.size w (((w.alloc (.cells #[.slice T.AS T.nS T.cS, .slice T.AC T.nC T.cC, .slice T.AK T.nK T.cK, .int .i64 T.L, .int .i64 T.W] 26)).alloc (.cells #[.int .i64 s, .int .i64 k, .int .i64 a, .int .i64 f, .bool x] 28)).alloc (.cells #[.int .i64 n, .int .i64 d] 33)) := (((Below.refl _ _).alloc (Nat.le_refl _) _).alloc (by simp) _).alloc (by simp; omega) _
  have hfs := hF.1.1
  have hfc := hF.2.1.1
  have hfk := hF.2.2.1.1
  have ck := fun w h => check_tab w T h (tsz_of hF)
  rw [show T.v = .agg #[.slice T.AS T.nS T.cS, .slice T.AC T.nC T.cC, .slice T.AK T.nK T.cK, .int .i64 T.L, .int .i64 T.W] from rfl] at ck
  have h2 := h.below (show Below w.heap.size w (((w.alloc (.cells #[.slice T.AS T.nS T.cS, .slice T.AC T.nC T.cC, .slice T.AK T.nK T.cK, .int .i64 T.L, .int .i64 T.W] 26)).alloc (.cells #[.int .i64 s, .int .i64 k, .int .i64 a, .int .i64 f, .bool x] 28)).alloc (.cells #[.int .i64 n, .int .i64 d] 33)) from B)
  have tg : TG T := tg_of (by simpa using g3)
  have ft := fun w h => fits_tab T s k a f x w h tg.z ha ha2
  generalize T.chk = E1 at *
  generalize fitsV T s k a f = E2 at *
  clear tg
  clear h hF
  have t0 := K1.cell (i := 0) rfl
  have t1 := K1.cell (i := 1) rfl
  have t2 := K1.cell (i := 2) rfl
  have t3 := K1.cell (i := 3) rfl
  have t4 := K1.cell (i := 4) rfl
  have c0 := K2.cell (i := 0) rfl
  have c1 := K2.cell (i := 1) rfl
  have c2 := K2.cell (i := 2) rfl
  have c3 := K2.cell (i := 3) rfl
  have c4 := K2.cell (i := 4) rfl
  have p0 := K3.cell (i := 0) rfl
  have p1 := K3.cell (i := 1) rfl
  go_enter Tryd.func11, Tryd.ntmps11
  go_wp2_with (fail)
  with_reducible refine (ck _ h2).mono ?_
  rintro e w1 ⟨rfl, hb⟩
  have K1 := K1.below hb
  have K2 := K2.below hb
  have K3 := K3.below hb
  have h3 := h2.below hb
  have B1 := below_step B hb B.size
  clear t0 t1 t2 t3 t4 c0 c1 c2 c3 c4 p0 p1 hb B ck h2
  have t0 := K1.cell (i := 0) rfl
  have t1 := K1.cell (i := 1) rfl
  have t2 := K1.cell (i := 2) rfl
  have t3 := K1.cell (i := 3) rfl
  have t4 := K1.cell (i := 4) rfl
  have c0 := K2.cell (i := 0) rfl
  have c1 := K2.cell (i := 1) rfl
  have c2 := K2.cell (i := 2) rfl
  have c3 := K2.cell (i := 3) rfl
  have c4 := K2.cell (i := 4) rfl
  have p0 := K3.cell (i := 0) rfl
  have p1 := K3.cell (i := 1) rfl
  go_wp2_with (fail)
  with_reducible refine (ft _ h3.s).mono ?_
  rintro e w2 ⟨rfl, hb⟩
  have K1 := K1.below hb
  have K2 := K2.below hb
  have K3 := K3.below hb
  have B2 := below_step B1 hb B1.size
  clear t0 t1 t2 t3 t4 c0 c1 c2 c3 c4 p0 p1 hb B1 ft h3
  have t0 := K1.cell (i := 0) rfl
  have t1 := K1.cell (i := 1) rfl
  have t2 := K1.cell (i := 2) rfl
  have t3 := K1.cell (i := 3) rfl
  have t4 := K1.cell (i := 4) rfl
  have c0 := K2.cell (i := 0) rfl
  have c1 := K2.cell (i := 1) rfl
  have c2 := K2.cell (i := 2) rfl
  have c3 := K2.cell (i := 3) rfl
  have c4 := K2.cell (i := 4) rfl
  have p0 := K3.cell (i := 0) rfl
  have p1 := K3.cell (i := 1) rfl
  go_wp2
  go_ret
  exact ⟨rfl, B2⟩
set_option maxRecDepth 100000 in
theorem lfit_5 (T : TB) (s k a f : Int) (x : Bool) (n d : Int) (w : World) (h : Tm w T) (hF : TFits T) (ha : -9223372036854775808 ≤ a) (ha2 : a ≤ 9223372036854775807) (g0 : decide ((T.nS : Int) ≤ 20) = true) (g1 : decide ((T.nK : Int) ≤ 30) = true) (g2 : decide ((T.nC : Int) ≤ 20) = true) (g3 : (T.chk == 0) = true) (g4 : (fitsV T s k a f == 0) = true) (g5 : decide (0 ≤ n) = false) :
    Calls Tryd.prog 11 #[.agg #[.slice T.AS T.nS T.cS, .slice T.AC T.nC T.cC, .slice T.AK T.nK T.cK, .int .i64 T.L, .int .i64 T.W], .agg #[.int .i64 s, .int .i64 k, .int .i64 a, .int .i64 f, .bool x], .agg #[.int .i64 n, .int .i64 d]] w fun e w' => e = .returned (.bool false) ∧ Below w.heap.size w w' := by
  have K1 : Bx (((w.alloc (.cells #[.slice T.AS T.nS T.cS, .slice T.AC T.nC T.cC, .slice T.AK T.nK T.cK, .int .i64 T.L, .int .i64 T.W] 26)).alloc (.cells #[.int .i64 s, .int .i64 k, .int .i64 a, .int .i64 f, .bool x] 28)).alloc (.cells #[.int .i64 n, .int .i64 d] 33)) w.heap.size 26 [.slice T.AS T.nS T.cS, .slice T.AC T.nC T.cC, .slice T.AK T.nK T.cK, .int .i64 T.L, .int .i64 T.W] := ((bx_new w [.slice T.AS T.nS T.cS, .slice T.AC T.nC T.cC, .slice T.AK T.nK T.cK, .int .i64 T.L, .int .i64 T.W] 26).alloc _).alloc _
  have K2 : Bx (((w.alloc (.cells #[.slice T.AS T.nS T.cS, .slice T.AC T.nC T.cC, .slice T.AK T.nK T.cK, .int .i64 T.L, .int .i64 T.W] 26)).alloc (.cells #[.int .i64 s, .int .i64 k, .int .i64 a, .int .i64 f, .bool x] 28)).alloc (.cells #[.int .i64 n, .int .i64 d] 33)) (w.heap.size + 1) 28 [.int .i64 s, .int .i64 k, .int .i64 a, .int .i64 f, .bool x] := (bx_at _ [.int .i64 s, .int .i64 k, .int .i64 a, .int .i64 f, .bool x] 28 (by simp)).alloc _
  have K3 : Bx (((w.alloc (.cells #[.slice T.AS T.nS T.cS, .slice T.AC T.nC T.cC, .slice T.AK T.nK T.cK, .int .i64 T.L, .int .i64 T.W] 26)).alloc (.cells #[.int .i64 s, .int .i64 k, .int .i64 a, .int .i64 f, .bool x] 28)).alloc (.cells #[.int .i64 n, .int .i64 d] 33)) (w.heap.size + 1 + 1) 33 [.int .i64 n, .int .i64 d] := bx_at _ [.int .i64 n, .int .i64 d] 33 (by simp)
  have B : Below w.heap.size w (((w.alloc (.cells #[.slice T.AS T.nS T.cS, .slice T.AC T.nC T.cC, .slice T.AK T.nK T.cK, .int .i64 T.L, .int .i64 T.W] 26)).alloc (.cells #[.int .i64 s, .int .i64 k, .int .i64 a, .int .i64 f, .bool x] 28)).alloc (.cells #[.int .i64 n, .int .i64 d] 33)) := (((Below.refl _ _).alloc (Nat.le_refl _) _).alloc (by simp) _).alloc (by simp; omega) _
  have hfs := hF.1.1
  have hfc := hF.2.1.1
  have hfk := hF.2.2.1.1
  have ck := fun w h => check_tab w T h (tsz_of hF)
  rw [show T.v = .agg #[.slice T.AS T.nS T.cS, .slice T.AC T.nC T.cC, .slice T.AK T.nK T.cK, .int .i64 T.L, .int .i64 T.W] from rfl] at ck
  have h2 := h.below (show Below w.heap.size w (((w.alloc (.cells #[.slice T.AS T.nS T.cS, .slice T.AC T.nC T.cC, .slice T.AK T.nK T.cK, .int .i64 T.L, .int .i64 T.W] 26)).alloc (.cells #[.int .i64 s, .int .i64 k, .int .i64 a, .int .i64 f, .bool x] 28)).alloc (.cells #[.int .i64 n, .int .i64 d] 33)) from B)
  have tg : TG T := tg_of (by simpa using g3)
  have ft := fun w h => fits_tab T s k a f x w h tg.z ha ha2
  generalize T.chk = E1 at *
  generalize fitsV T s k a f = E2 at *
  clear tg
  clear h hF
  have t0 := K1.cell (i := 0) rfl
  have t1 := K1.cell (i := 1) rfl
  have t2 := K1.cell (i := 2) rfl
  have t3 := K1.cell (i := 3) rfl
  have t4 := K1.cell (i := 4) rfl
  have c0 := K2.cell (i := 0) rfl
  have c1 := K2.cell (i := 1) rfl
  have c2 := K2.cell (i := 2) rfl
  have c3 := K2.cell (i := 3) rfl
  have c4 := K2.cell (i := 4) rfl
  have p0 := K3.cell (i := 0) rfl
  have p1 := K3.cell (i := 1) rfl
  go_enter Tryd.func11, Tryd.ntmps11
  go_wp2_with (fail)
  with_reducible refine (ck _ h2).mono ?_
  rintro e w1 ⟨rfl, hb⟩
  have K1 := K1.below hb
  have K2 := K2.below hb
  have K3 := K3.below hb
  have h3 := h2.below hb
  have B1 := below_step B hb B.size
  clear t0 t1 t2 t3 t4 c0 c1 c2 c3 c4 p0 p1 hb B ck h2
  have t0 := K1.cell (i := 0) rfl
  have t1 := K1.cell (i := 1) rfl
  have t2 := K1.cell (i := 2) rfl
  have t3 := K1.cell (i := 3) rfl
  have t4 := K1.cell (i := 4) rfl
  have c0 := K2.cell (i := 0) rfl
  have c1 := K2.cell (i := 1) rfl
  have c2 := K2.cell (i := 2) rfl
  have c3 := K2.cell (i := 3) rfl
  have c4 := K2.cell (i := 4) rfl
  have p0 := K3.cell (i := 0) rfl
  have p1 := K3.cell (i := 1) rfl
  go_wp2_with (fail)
  with_reducible refine (ft _ h3.s).mono ?_
  rintro e w2 ⟨rfl, hb⟩
  have K1 := K1.below hb
  have K2 := K2.below hb
  have K3 := K3.below hb
  have B2 := below_step B1 hb B1.size
  clear t0 t1 t2 t3 t4 c0 c1 c2 c3 c4 p0 p1 hb B1 ft h3
  have t0 := K1.cell (i := 0) rfl
  have t1 := K1.cell (i := 1) rfl
  have t2 := K1.cell (i := 2) rfl
  have t3 := K1.cell (i := 3) rfl
  have t4 := K1.cell (i := 4) rfl
  have c0 := K2.cell (i := 0) rfl
  have c1 := K2.cell (i := 1) rfl
  have c2 := K2.cell (i := 2) rfl
  have c3 := K2.cell (i := 3) rfl
  have c4 := K2.cell (i := 4) rfl
  have p0 := K3.cell (i := 0) rfl
  have p1 := K3.cell (i := 1) rfl
  go_wp2
  go_ret
  exact ⟨rfl, B2⟩
set_option maxRecDepth 100000 in
theorem lfit_6 (T : TB) (s k a f : Int) (x : Bool) (n d : Int) (w : World) (h : Tm w T) (hF : TFits T) (ha : -9223372036854775808 ≤ a) (ha2 : a ≤ 9223372036854775807) (g0 : decide ((T.nS : Int) ≤ 20) = true) (g1 : decide ((T.nK : Int) ≤ 30) = true) (g2 : decide ((T.nC : Int) ≤ 20) = true) (g3 : (T.chk == 0) = true) (g4 : (fitsV T s k a f == 0) = true) (g5 : decide (0 ≤ n) = true) (g6 : decide (1 ≤ d) = false) :
    Calls Tryd.prog 11 #[.agg #[.slice T.AS T.nS T.cS, .slice T.AC T.nC T.cC, .slice T.AK T.nK T.cK, .int .i64 T.L, .int .i64 T.W], .agg #[.int .i64 s, .int .i64 k, .int .i64 a, .int .i64 f, .bool x], .agg #[.int .i64 n, .int .i64 d]] w fun e w' => e = .returned (.bool false) ∧ Below w.heap.size w w' := by
  have K1 : Bx (((w.alloc (.cells #[.slice T.AS T.nS T.cS, .slice T.AC T.nC T.cC, .slice T.AK T.nK T.cK, .int .i64 T.L, .int .i64 T.W] 26)).alloc (.cells #[.int .i64 s, .int .i64 k, .int .i64 a, .int .i64 f, .bool x] 28)).alloc (.cells #[.int .i64 n, .int .i64 d] 33)) w.heap.size 26 [.slice T.AS T.nS T.cS, .slice T.AC T.nC T.cC, .slice T.AK T.nK T.cK, .int .i64 T.L, .int .i64 T.W] := ((bx_new w [.slice T.AS T.nS T.cS, .slice T.AC T.nC T.cC, .slice T.AK T.nK T.cK, .int .i64 T.L, .int .i64 T.W] 26).alloc _).alloc _
  have K2 : Bx (((w.alloc (.cells #[.slice T.AS T.nS T.cS, .slice T.AC T.nC T.cC, .slice T.AK T.nK T.cK, .int .i64 T.L, .int .i64 T.W] 26)).alloc (.cells #[.int .i64 s, .int .i64 k, .int .i64 a, .int .i64 f, .bool x] 28)).alloc (.cells #[.int .i64 n, .int .i64 d] 33)) (w.heap.size + 1) 28 [.int .i64 s, .int .i64 k, .int .i64 a, .int .i64 f, .bool x] := (bx_at _ [.int .i64 s, .int .i64 k, .int .i64 a, .int .i64 f, .bool x] 28 (by simp)).alloc _
  have K3 : Bx (((w.alloc (.cells #[.slice T.AS T.nS T.cS, .slice T.AC T.nC T.cC, .slice T.AK T.nK T.cK, .int .i64 T.L, .int .i64 T.W] 26)).alloc (.cells #[.int .i64 s, .int .i64 k, .int .i64 a, .int .i64 f, .bool x] 28)).alloc (.cells #[.int .i64 n, .int .i64 d] 33)) (w.heap.size + 1 + 1) 33 [.int .i64 n, .int .i64 d] := bx_at _ [.int .i64 n, .int .i64 d] 33 (by simp)
  have B : Below w.heap.size w (((w.alloc (.cells #[.slice T.AS T.nS T.cS, .slice T.AC T.nC T.cC, .slice T.AK T.nK T.cK, .int .i64 T.L, .int .i64 T.W] 26)).alloc (.cells #[.int .i64 s, .int .i64 k, .int .i64 a, .int .i64 f, .bool x] 28)).alloc (.cells #[.int .i64 n, .int .i64 d] 33)) := (((Below.refl _ _).alloc (Nat.le_refl _) _).alloc (by simp) _).alloc (by simp; omega) _
  have hfs := hF.1.1
  have hfc := hF.2.1.1
  have hfk := hF.2.2.1.1
  have ck := fun w h => check_tab w T h (tsz_of hF)
  rw [show T.v = .agg #[.slice T.AS T.nS T.cS, .slice T.AC T.nC T.cC, .slice T.AK T.nK T.cK, .int .i64 T.L, .int .i64 T.W] from rfl] at ck
  have h2 := h.below (show Below w.heap.size w (((w.alloc (.cells #[.slice T.AS T.nS T.cS, .slice T.AC T.nC T.cC, .slice T.AK T.nK T.cK, .int .i64 T.L, .int .i64 T.W] 26)).alloc (.cells #[.int .i64 s, .int .i64 k, .int .i64 a, .int .i64 f, .bool x] 28)).alloc (.cells #[.int .i64 n, .int .i64 d] 33)) from B)
  have tg : TG T := tg_of (by simpa using g3)
  have ft := fun w h => fits_tab T s k a f x w h tg.z ha ha2
  generalize T.chk = E1 at *
  generalize fitsV T s k a f = E2 at *
  clear tg
  clear h hF
  have t0 := K1.cell (i := 0) rfl
  have t1 := K1.cell (i := 1) rfl
  have t2 := K1.cell (i := 2) rfl
  have t3 := K1.cell (i := 3) rfl
  have t4 := K1.cell (i := 4) rfl
  have c0 := K2.cell (i := 0) rfl
  have c1 := K2.cell (i := 1) rfl
  have c2 := K2.cell (i := 2) rfl
  have c3 := K2.cell (i := 3) rfl
  have c4 := K2.cell (i := 4) rfl
  have p0 := K3.cell (i := 0) rfl
  have p1 := K3.cell (i := 1) rfl
  go_enter Tryd.func11, Tryd.ntmps11
  go_wp2_with (fail)
  with_reducible refine (ck _ h2).mono ?_
  rintro e w1 ⟨rfl, hb⟩
  have K1 := K1.below hb
  have K2 := K2.below hb
  have K3 := K3.below hb
  have h3 := h2.below hb
  have B1 := below_step B hb B.size
  clear t0 t1 t2 t3 t4 c0 c1 c2 c3 c4 p0 p1 hb B ck h2
  have t0 := K1.cell (i := 0) rfl
  have t1 := K1.cell (i := 1) rfl
  have t2 := K1.cell (i := 2) rfl
  have t3 := K1.cell (i := 3) rfl
  have t4 := K1.cell (i := 4) rfl
  have c0 := K2.cell (i := 0) rfl
  have c1 := K2.cell (i := 1) rfl
  have c2 := K2.cell (i := 2) rfl
  have c3 := K2.cell (i := 3) rfl
  have c4 := K2.cell (i := 4) rfl
  have p0 := K3.cell (i := 0) rfl
  have p1 := K3.cell (i := 1) rfl
  go_wp2_with (fail)
  with_reducible refine (ft _ h3.s).mono ?_
  rintro e w2 ⟨rfl, hb⟩
  have K1 := K1.below hb
  have K2 := K2.below hb
  have K3 := K3.below hb
  have B2 := below_step B1 hb B1.size
  clear t0 t1 t2 t3 t4 c0 c1 c2 c3 c4 p0 p1 hb B1 ft h3
  have t0 := K1.cell (i := 0) rfl
  have t1 := K1.cell (i := 1) rfl
  have t2 := K1.cell (i := 2) rfl
  have t3 := K1.cell (i := 3) rfl
  have t4 := K1.cell (i := 4) rfl
  have c0 := K2.cell (i := 0) rfl
  have c1 := K2.cell (i := 1) rfl
  have c2 := K2.cell (i := 2) rfl
  have c3 := K2.cell (i := 3) rfl
  have c4 := K2.cell (i := 4) rfl
  have p0 := K3.cell (i := 0) rfl
  have p1 := K3.cell (i := 1) rfl
  go_wp2
  go_ret
  exact ⟨rfl, B2⟩
set_option maxRecDepth 100000 in
theorem lfit_7 (T : TB) (s k a f : Int) (x : Bool) (n d : Int) (w : World) (h : Tm w T) (hF : TFits T) (ha : -9223372036854775808 ≤ a) (ha2 : a ≤ 9223372036854775807) (g0 : decide ((T.nS : Int) ≤ 20) = true) (g1 : decide ((T.nK : Int) ≤ 30) = true) (g2 : decide ((T.nC : Int) ≤ 20) = true) (g3 : (T.chk == 0) = true) (g4 : (fitsV T s k a f == 0) = true) (g5 : decide (0 ≤ n) = true) (g6 : decide (1 ≤ d) = true) (g7 : decide (n ≤ d) = false) :
    Calls Tryd.prog 11 #[.agg #[.slice T.AS T.nS T.cS, .slice T.AC T.nC T.cC, .slice T.AK T.nK T.cK, .int .i64 T.L, .int .i64 T.W], .agg #[.int .i64 s, .int .i64 k, .int .i64 a, .int .i64 f, .bool x], .agg #[.int .i64 n, .int .i64 d]] w fun e w' => e = .returned (.bool false) ∧ Below w.heap.size w w' := by
  have K1 : Bx (((w.alloc (.cells #[.slice T.AS T.nS T.cS, .slice T.AC T.nC T.cC, .slice T.AK T.nK T.cK, .int .i64 T.L, .int .i64 T.W] 26)).alloc (.cells #[.int .i64 s, .int .i64 k, .int .i64 a, .int .i64 f, .bool x] 28)).alloc (.cells #[.int .i64 n, .int .i64 d] 33)) w.heap.size 26 [.slice T.AS T.nS T.cS, .slice T.AC T.nC T.cC, .slice T.AK T.nK T.cK, .int .i64 T.L, .int .i64 T.W] := ((bx_new w [.slice T.AS T.nS T.cS, .slice T.AC T.nC T.cC, .slice T.AK T.nK T.cK, .int .i64 T.L, .int .i64 T.W] 26).alloc _).alloc _
  have K2 : Bx (((w.alloc (.cells #[.slice T.AS T.nS T.cS, .slice T.AC T.nC T.cC, .slice T.AK T.nK T.cK, .int .i64 T.L, .int .i64 T.W] 26)).alloc (.cells #[.int .i64 s, .int .i64 k, .int .i64 a, .int .i64 f, .bool x] 28)).alloc (.cells #[.int .i64 n, .int .i64 d] 33)) (w.heap.size + 1) 28 [.int .i64 s, .int .i64 k, .int .i64 a, .int .i64 f, .bool x] := (bx_at _ [.int .i64 s, .int .i64 k, .int .i64 a, .int .i64 f, .bool x] 28 (by simp)).alloc _
  have K3 : Bx (((w.alloc (.cells #[.slice T.AS T.nS T.cS, .slice T.AC T.nC T.cC, .slice T.AK T.nK T.cK, .int .i64 T.L, .int .i64 T.W] 26)).alloc (.cells #[.int .i64 s, .int .i64 k, .int .i64 a, .int .i64 f, .bool x] 28)).alloc (.cells #[.int .i64 n, .int .i64 d] 33)) (w.heap.size + 1 + 1) 33 [.int .i64 n, .int .i64 d] := bx_at _ [.int .i64 n, .int .i64 d] 33 (by simp)
  have B : Below w.heap.size w (((w.alloc (.cells #[.slice T.AS T.nS T.cS, .slice T.AC T.nC T.cC, .slice T.AK T.nK T.cK, .int .i64 T.L, .int .i64 T.W] 26)).alloc (.cells #[.int .i64 s, .int .i64 k, .int .i64 a, .int .i64 f, .bool x] 28)).alloc (.cells #[.int .i64 n, .int .i64 d] 33)) := (((Below.refl _ _).alloc (Nat.le_refl _) _).alloc (by simp) _).alloc (by simp; omega) _
  have hfs := hF.1.1
  have hfc := hF.2.1.1
  have hfk := hF.2.2.1.1
  have ck := fun w h => check_tab w T h (tsz_of hF)
  rw [show T.v = .agg #[.slice T.AS T.nS T.cS, .slice T.AC T.nC T.cC, .slice T.AK T.nK T.cK, .int .i64 T.L, .int .i64 T.W] from rfl] at ck
  have h2 := h.below (show Below w.heap.size w (((w.alloc (.cells #[.slice T.AS T.nS T.cS, .slice T.AC T.nC T.cC, .slice T.AK T.nK T.cK, .int .i64 T.L, .int .i64 T.W] 26)).alloc (.cells #[.int .i64 s, .int .i64 k, .int .i64 a, .int .i64 f, .bool x] 28)).alloc (.cells #[.int .i64 n, .int .i64 d] 33)) from B)
  have tg : TG T := tg_of (by simpa using g3)
  have ft := fun w h => fits_tab T s k a f x w h tg.z ha ha2
  generalize T.chk = E1 at *
  generalize fitsV T s k a f = E2 at *
  clear tg
  clear h hF
  have t0 := K1.cell (i := 0) rfl
  have t1 := K1.cell (i := 1) rfl
  have t2 := K1.cell (i := 2) rfl
  have t3 := K1.cell (i := 3) rfl
  have t4 := K1.cell (i := 4) rfl
  have c0 := K2.cell (i := 0) rfl
  have c1 := K2.cell (i := 1) rfl
  have c2 := K2.cell (i := 2) rfl
  have c3 := K2.cell (i := 3) rfl
  have c4 := K2.cell (i := 4) rfl
  have p0 := K3.cell (i := 0) rfl
  have p1 := K3.cell (i := 1) rfl
  go_enter Tryd.func11, Tryd.ntmps11
  go_wp2_with (fail)
  with_reducible refine (ck _ h2).mono ?_
  rintro e w1 ⟨rfl, hb⟩
  have K1 := K1.below hb
  have K2 := K2.below hb
  have K3 := K3.below hb
  have h3 := h2.below hb
  have B1 := below_step B hb B.size
  clear t0 t1 t2 t3 t4 c0 c1 c2 c3 c4 p0 p1 hb B ck h2
  have t0 := K1.cell (i := 0) rfl
  have t1 := K1.cell (i := 1) rfl
  have t2 := K1.cell (i := 2) rfl
  have t3 := K1.cell (i := 3) rfl
  have t4 := K1.cell (i := 4) rfl
  have c0 := K2.cell (i := 0) rfl
  have c1 := K2.cell (i := 1) rfl
  have c2 := K2.cell (i := 2) rfl
  have c3 := K2.cell (i := 3) rfl
  have c4 := K2.cell (i := 4) rfl
  have p0 := K3.cell (i := 0) rfl
  have p1 := K3.cell (i := 1) rfl
  go_wp2_with (fail)
  with_reducible refine (ft _ h3.s).mono ?_
  rintro e w2 ⟨rfl, hb⟩
  have K1 := K1.below hb
  have K2 := K2.below hb
  have K3 := K3.below hb
  have B2 := below_step B1 hb B1.size
  clear t0 t1 t2 t3 t4 c0 c1 c2 c3 c4 p0 p1 hb B1 ft h3
  have t0 := K1.cell (i := 0) rfl
  have t1 := K1.cell (i := 1) rfl
  have t2 := K1.cell (i := 2) rfl
  have t3 := K1.cell (i := 3) rfl
  have t4 := K1.cell (i := 4) rfl
  have c0 := K2.cell (i := 0) rfl
  have c1 := K2.cell (i := 1) rfl
  have c2 := K2.cell (i := 2) rfl
  have c3 := K2.cell (i := 3) rfl
  have c4 := K2.cell (i := 4) rfl
  have p0 := K3.cell (i := 0) rfl
  have p1 := K3.cell (i := 1) rfl
  go_wp2
  go_ret
  exact ⟨rfl, B2⟩
set_option maxRecDepth 100000 in
theorem lfit_8 (T : TB) (s k a f : Int) (x : Bool) (n d : Int) (w : World) (h : Tm w T) (hF : TFits T) (ha : -9223372036854775808 ≤ a) (ha2 : a ≤ 9223372036854775807) (g0 : decide ((T.nS : Int) ≤ 20) = true) (g1 : decide ((T.nK : Int) ≤ 30) = true) (g2 : decide ((T.nC : Int) ≤ 20) = true) (g3 : (T.chk == 0) = true) (g4 : (fitsV T s k a f == 0) = true) (g5 : decide (0 ≤ n) = true) (g6 : decide (1 ≤ d) = true) (g7 : decide (n ≤ d) = true) (g8 : decide (d ≤ 1048576) = false) :
    Calls Tryd.prog 11 #[.agg #[.slice T.AS T.nS T.cS, .slice T.AC T.nC T.cC, .slice T.AK T.nK T.cK, .int .i64 T.L, .int .i64 T.W], .agg #[.int .i64 s, .int .i64 k, .int .i64 a, .int .i64 f, .bool x], .agg #[.int .i64 n, .int .i64 d]] w fun e w' => e = .returned (.bool false) ∧ Below w.heap.size w w' := by
  have K1 : Bx (((w.alloc (.cells #[.slice T.AS T.nS T.cS, .slice T.AC T.nC T.cC, .slice T.AK T.nK T.cK, .int .i64 T.L, .int .i64 T.W] 26)).alloc (.cells #[.int .i64 s, .int .i64 k, .int .i64 a, .int .i64 f, .bool x] 28)).alloc (.cells #[.int .i64 n, .int .i64 d] 33)) w.heap.size 26 [.slice T.AS T.nS T.cS, .slice T.AC T.nC T.cC, .slice T.AK T.nK T.cK, .int .i64 T.L, .int .i64 T.W] := ((bx_new w [.slice T.AS T.nS T.cS, .slice T.AC T.nC T.cC, .slice T.AK T.nK T.cK, .int .i64 T.L, .int .i64 T.W] 26).alloc _).alloc _
  have K2 : Bx (((w.alloc (.cells #[.slice T.AS T.nS T.cS, .slice T.AC T.nC T.cC, .slice T.AK T.nK T.cK, .int .i64 T.L, .int .i64 T.W] 26)).alloc (.cells #[.int .i64 s, .int .i64 k, .int .i64 a, .int .i64 f, .bool x] 28)).alloc (.cells #[.int .i64 n, .int .i64 d] 33)) (w.heap.size + 1) 28 [.int .i64 s, .int .i64 k, .int .i64 a, .int .i64 f, .bool x] := (bx_at _ [.int .i64 s, .int .i64 k, .int .i64 a, .int .i64 f, .bool x] 28 (by simp)).alloc _
  have K3 : Bx (((w.alloc (.cells #[.slice T.AS T.nS T.cS, .slice T.AC T.nC T.cC, .slice T.AK T.nK T.cK, .int .i64 T.L, .int .i64 T.W] 26)).alloc (.cells #[.int .i64 s, .int .i64 k, .int .i64 a, .int .i64 f, .bool x] 28)).alloc (.cells #[.int .i64 n, .int .i64 d] 33)) (w.heap.size + 1 + 1) 33 [.int .i64 n, .int .i64 d] := bx_at _ [.int .i64 n, .int .i64 d] 33 (by simp)
  have B : Below w.heap.size w (((w.alloc (.cells #[.slice T.AS T.nS T.cS, .slice T.AC T.nC T.cC, .slice T.AK T.nK T.cK, .int .i64 T.L, .int .i64 T.W] 26)).alloc (.cells #[.int .i64 s, .int .i64 k, .int .i64 a, .int .i64 f, .bool x] 28)).alloc (.cells #[.int .i64 n, .int .i64 d] 33)) := (((Below.refl _ _).alloc (Nat.le_refl _) _).alloc (by simp) _).alloc (by simp; omega) _
  have hfs := hF.1.1
  have hfc := hF.2.1.1
  have hfk := hF.2.2.1.1
  have ck := fun w h => check_tab w T h (tsz_of hF)
  rw [show T.v = .agg #[.slice T.AS T.nS T.cS, .slice T.AC T.nC T.cC, .slice T.AK T.nK T.cK, .int .i64 T.L, .int .i64 T.W] from rfl] at ck
  have h2 := h.below (show Below w.heap.size w (((w.alloc (.cells #[.slice T.AS T.nS T.cS, .slice T.AC T.nC T.cC, .slice T.AK T.nK T.cK, .int .i64 T.L, .int .i64 T.W] 26)).alloc (.cells #[.int .i64 s, .int .i64 k, .int .i64 a, .int .i64 f, .bool x] 28)).alloc (.cells #[.int .i64 n, .int .i64 d] 33)) from B)
  have tg : TG T := tg_of (by simpa using g3)
  have ft := fun w h => fits_tab T s k a f x w h tg.z ha ha2
  generalize T.chk = E1 at *
  generalize fitsV T s k a f = E2 at *
  clear tg
  clear h hF
  have t0 := K1.cell (i := 0) rfl
  have t1 := K1.cell (i := 1) rfl
  have t2 := K1.cell (i := 2) rfl
  have t3 := K1.cell (i := 3) rfl
  have t4 := K1.cell (i := 4) rfl
  have c0 := K2.cell (i := 0) rfl
  have c1 := K2.cell (i := 1) rfl
  have c2 := K2.cell (i := 2) rfl
  have c3 := K2.cell (i := 3) rfl
  have c4 := K2.cell (i := 4) rfl
  have p0 := K3.cell (i := 0) rfl
  have p1 := K3.cell (i := 1) rfl
  go_enter Tryd.func11, Tryd.ntmps11
  go_wp2_with (fail)
  with_reducible refine (ck _ h2).mono ?_
  rintro e w1 ⟨rfl, hb⟩
  have K1 := K1.below hb
  have K2 := K2.below hb
  have K3 := K3.below hb
  have h3 := h2.below hb
  have B1 := below_step B hb B.size
  clear t0 t1 t2 t3 t4 c0 c1 c2 c3 c4 p0 p1 hb B ck h2
  have t0 := K1.cell (i := 0) rfl
  have t1 := K1.cell (i := 1) rfl
  have t2 := K1.cell (i := 2) rfl
  have t3 := K1.cell (i := 3) rfl
  have t4 := K1.cell (i := 4) rfl
  have c0 := K2.cell (i := 0) rfl
  have c1 := K2.cell (i := 1) rfl
  have c2 := K2.cell (i := 2) rfl
  have c3 := K2.cell (i := 3) rfl
  have c4 := K2.cell (i := 4) rfl
  have p0 := K3.cell (i := 0) rfl
  have p1 := K3.cell (i := 1) rfl
  go_wp2_with (fail)
  with_reducible refine (ft _ h3.s).mono ?_
  rintro e w2 ⟨rfl, hb⟩
  have K1 := K1.below hb
  have K2 := K2.below hb
  have K3 := K3.below hb
  have B2 := below_step B1 hb B1.size
  clear t0 t1 t2 t3 t4 c0 c1 c2 c3 c4 p0 p1 hb B1 ft h3
  have t0 := K1.cell (i := 0) rfl
  have t1 := K1.cell (i := 1) rfl
  have t2 := K1.cell (i := 2) rfl
  have t3 := K1.cell (i := 3) rfl
  have t4 := K1.cell (i := 4) rfl
  have c0 := K2.cell (i := 0) rfl
  have c1 := K2.cell (i := 1) rfl
  have c2 := K2.cell (i := 2) rfl
  have c3 := K2.cell (i := 3) rfl
  have c4 := K2.cell (i := 4) rfl
  have p0 := K3.cell (i := 0) rfl
  have p1 := K3.cell (i := 1) rfl
  go_wp2
  go_ret
  exact ⟨rfl, B2⟩
set_option maxRecDepth 100000 in
theorem lfit_9 (T : TB) (s k a f : Int) (x : Bool) (n d : Int) (w : World) (h : Tm w T) (hF : TFits T) (ha : -9223372036854775808 ≤ a) (ha2 : a ≤ 9223372036854775807) (g0 : decide ((T.nS : Int) ≤ 20) = true) (g1 : decide ((T.nK : Int) ≤ 30) = true) (g2 : decide ((T.nC : Int) ≤ 20) = true) (g3 : (T.chk == 0) = true) (g4 : (fitsV T s k a f == 0) = true) (g5 : decide (0 ≤ n) = true) (g6 : decide (1 ≤ d) = true) (g7 : decide (n ≤ d) = true) (g8 : decide (d ≤ 1048576) = true) :
    Calls Tryd.prog 11 #[.agg #[.slice T.AS T.nS T.cS, .slice T.AC T.nC T.cC, .slice T.AK T.nK T.cK, .int .i64 T.L, .int .i64 T.W], .agg #[.int .i64 s, .int .i64 k, .int .i64 a, .int .i64 f, .bool x], .agg #[.int .i64 n, .int .i64 d]] w fun e w' => e = .returned (.bool true) ∧ Below w.heap.size w w' := by
  have K1 : Bx (((w.alloc (.cells #[.slice T.AS T.nS T.cS, .slice T.AC T.nC T.cC, .slice T.AK T.nK T.cK, .int .i64 T.L, .int .i64 T.W] 26)).alloc (.cells #[.int .i64 s, .int .i64 k, .int .i64 a, .int .i64 f, .bool x] 28)).alloc (.cells #[.int .i64 n, .int .i64 d] 33)) w.heap.size 26 [.slice T.AS T.nS T.cS, .slice T.AC T.nC T.cC, .slice T.AK T.nK T.cK, .int .i64 T.L, .int .i64 T.W] := ((bx_new w [.slice T.AS T.nS T.cS, .slice T.AC T.nC T.cC, .slice T.AK T.nK T.cK, .int .i64 T.L, .int .i64 T.W] 26).alloc _).alloc _
  have K2 : Bx (((w.alloc (.cells #[.slice T.AS T.nS T.cS, .slice T.AC T.nC T.cC, .slice T.AK T.nK T.cK, .int .i64 T.L, .int .i64 T.W] 26)).alloc (.cells #[.int .i64 s, .int .i64 k, .int .i64 a, .int .i64 f, .bool x] 28)).alloc (.cells #[.int .i64 n, .int .i64 d] 33)) (w.heap.size + 1) 28 [.int .i64 s, .int .i64 k, .int .i64 a, .int .i64 f, .bool x] := (bx_at _ [.int .i64 s, .int .i64 k, .int .i64 a, .int .i64 f, .bool x] 28 (by simp)).alloc _
  have K3 : Bx (((w.alloc (.cells #[.slice T.AS T.nS T.cS, .slice T.AC T.nC T.cC, .slice T.AK T.nK T.cK, .int .i64 T.L, .int .i64 T.W] 26)).alloc (.cells #[.int .i64 s, .int .i64 k, .int .i64 a, .int .i64 f, .bool x] 28)).alloc (.cells #[.int .i64 n, .int .i64 d] 33)) (w.heap.size + 1 + 1) 33 [.int .i64 n, .int .i64 d] := bx_at _ [.int .i64 n, .int .i64 d] 33 (by simp)
  have B : Below w.heap.size w (((w.alloc (.cells #[.slice T.AS T.nS T.cS, .slice T.AC T.nC T.cC, .slice T.AK T.nK T.cK, .int .i64 T.L, .int .i64 T.W] 26)).alloc (.cells #[.int .i64 s, .int .i64 k, .int .i64 a, .int .i64 f, .bool x] 28)).alloc (.cells #[.int .i64 n, .int .i64 d] 33)) := (((Below.refl _ _).alloc (Nat.le_refl _) _).alloc (by simp) _).alloc (by simp; omega) _
  have hfs := hF.1.1
  have hfc := hF.2.1.1
  have hfk := hF.2.2.1.1
  have ck := fun w h => check_tab w T h (tsz_of hF)
  rw [show T.v = .agg #[.slice T.AS T.nS T.cS, .slice T.AC T.nC T.cC, .slice T.AK T.nK T.cK, .int .i64 T.L, .int .i64 T.W] from rfl] at ck
  have h2 := h.below (show Below w.heap.size w (((w.alloc (.cells #[.slice T.AS T.nS T.cS, .slice T.AC T.nC T.cC, .slice T.AK T.nK T.cK, .int .i64 T.L, .int .i64 T.W] 26)).alloc (.cells #[.int .i64 s, .int .i64 k, .int .i64 a, .int .i64 f, .bool x] 28)).alloc (.cells #[.int .i64 n, .int .i64 d] 33)) from B)
  have tg : TG T := tg_of (by simpa using g3)
  have ft := fun w h => fits_tab T s k a f x w h tg.z ha ha2
  generalize T.chk = E1 at *
  generalize fitsV T s k a f = E2 at *
  clear tg
  clear h hF
  have t0 := K1.cell (i := 0) rfl
  have t1 := K1.cell (i := 1) rfl
  have t2 := K1.cell (i := 2) rfl
  have t3 := K1.cell (i := 3) rfl
  have t4 := K1.cell (i := 4) rfl
  have c0 := K2.cell (i := 0) rfl
  have c1 := K2.cell (i := 1) rfl
  have c2 := K2.cell (i := 2) rfl
  have c3 := K2.cell (i := 3) rfl
  have c4 := K2.cell (i := 4) rfl
  have p0 := K3.cell (i := 0) rfl
  have p1 := K3.cell (i := 1) rfl
  go_enter Tryd.func11, Tryd.ntmps11
  go_wp2_with (fail)
  with_reducible refine (ck _ h2).mono ?_
  rintro e w1 ⟨rfl, hb⟩
  have K1 := K1.below hb
  have K2 := K2.below hb
  have K3 := K3.below hb
  have h3 := h2.below hb
  have B1 := below_step B hb B.size
  clear t0 t1 t2 t3 t4 c0 c1 c2 c3 c4 p0 p1 hb B ck h2
  have t0 := K1.cell (i := 0) rfl
  have t1 := K1.cell (i := 1) rfl
  have t2 := K1.cell (i := 2) rfl
  have t3 := K1.cell (i := 3) rfl
  have t4 := K1.cell (i := 4) rfl
  have c0 := K2.cell (i := 0) rfl
  have c1 := K2.cell (i := 1) rfl
  have c2 := K2.cell (i := 2) rfl
  have c3 := K2.cell (i := 3) rfl
  have c4 := K2.cell (i := 4) rfl
  have p0 := K3.cell (i := 0) rfl
  have p1 := K3.cell (i := 1) rfl
  go_wp2_with (fail)
  with_reducible refine (ft _ h3.s).mono ?_
  rintro e w2 ⟨rfl, hb⟩
  have K1 := K1.below hb
  have K2 := K2.below hb
  have K3 := K3.below hb
  have B2 := below_step B1 hb B1.size
  clear t0 t1 t2 t3 t4 c0 c1 c2 c3 c4 p0 p1 hb B1 ft h3
  have t0 := K1.cell (i := 0) rfl
  have t1 := K1.cell (i := 1) rfl
  have t2 := K1.cell (i := 2) rfl
  have t3 := K1.cell (i := 3) rfl
  have t4 := K1.cell (i := 4) rfl
  have c0 := K2.cell (i := 0) rfl
  have c1 := K2.cell (i := 1) rfl
  have c2 := K2.cell (i := 2) rfl
  have c3 := K2.cell (i := 3) rfl
  have c4 := K2.cell (i := 4) rfl
  have p0 := K3.cell (i := 0) rfl
  have p1 := K3.cell (i := 1) rfl
  go_wp2
  go_ret
  exact ⟨rfl, B2⟩
theorem lfit_any (T : TB) (s k a f : Int) (x : Bool) (n d : Int) (w : World) (h : Tm w T) (hF : TFits T) (ha : -9223372036854775808 ≤ a) (ha2 : a ≤ 9223372036854775807) :
    Calls Tryd.prog 11 #[.agg #[.slice T.AS T.nS T.cS, .slice T.AC T.nC T.cC, .slice T.AK T.nK T.cK, .int .i64 T.L, .int .i64 T.W], .agg #[.int .i64 s, .int .i64 k, .int .i64 a, .int .i64 f, .bool x], .agg #[.int .i64 n, .int .i64 d]] w fun e w' => e = .returned (.bool (lfitB T s k a f n d)) ∧ Below w.heap.size w w' := by
  cases g0 : decide ((T.nS : Int) ≤ 20)
  · rw [show lfitB T s k a f n d = false by unfold lfitB; rw [g0]; simp]
    exact lfit_0 T s k a f x n d w h hF ha ha2 g0
  · skip
    cases g1 : decide ((T.nK : Int) ≤ 30)
    · rw [show lfitB T s k a f n d = false by unfold lfitB; rw [g0, g1]; simp]
      exact lfit_1 T s k a f x n d w h hF ha ha2 g0 g1
    · skip
      cases g2 : decide ((T.nC : Int) ≤ 20)
      · rw [show lfitB T s k a f n d = false by unfold lfitB; rw [g0, g1, g2]; simp]
        exact lfit_2 T s k a f x n d w h hF ha ha2 g0 g1 g2
      · skip
        cases g3 : (T.chk == 0)
        · rw [show lfitB T s k a f n d = false by unfold lfitB; rw [g0, g1, g2, g3]; simp]
          exact lfit_3 T s k a f x n d w h hF ha ha2 g0 g1 g2 g3
        · skip
          cases g4 : (fitsV T s k a f == 0)
          · rw [show lfitB T s k a f n d = false by unfold lfitB; rw [g0, g1, g2, g3, g4]; simp]
            exact lfit_4 T s k a f x n d w h hF ha ha2 g0 g1 g2 g3 g4
          · skip
            cases g5 : decide (0 ≤ n)
            · rw [show lfitB T s k a f n d = false by unfold lfitB; rw [g0, g1, g2, g3, g4, g5]; simp]
              exact lfit_5 T s k a f x n d w h hF ha ha2 g0 g1 g2 g3 g4 g5
            · skip
              cases g6 : decide (1 ≤ d)
              · rw [show lfitB T s k a f n d = false by unfold lfitB; rw [g0, g1, g2, g3, g4, g5, g6]; simp]
                exact lfit_6 T s k a f x n d w h hF ha ha2 g0 g1 g2 g3 g4 g5 g6
              · skip
                cases g7 : decide (n ≤ d)
                · rw [show lfitB T s k a f n d = false by unfold lfitB; rw [g0, g1, g2, g3, g4, g5, g6, g7]; simp]
                  exact lfit_7 T s k a f x n d w h hF ha ha2 g0 g1 g2 g3 g4 g5 g6 g7
                · skip
                  cases g8 : decide (d ≤ 1048576)
                  · rw [show lfitB T s k a f n d = false by unfold lfitB; rw [g0, g1, g2, g3, g4, g5, g6, g7, g8]; simp]
                    exact lfit_8 T s k a f x n d w h hF ha ha2 g0 g1 g2 g3 g4 g5 g6 g7 g8
                  · skip
                    rw [show lfitB T s k a f n d = true by unfold lfitB; rw [g0, g1, g2, g3, g4, g5, g6, g7, g8]; simp]
                    exact lfit_9 T s k a f x n d w h hF ha ha2 g0 g1 g2 g3 g4 g5 g6 g7 g8
end Go.Proofs.YtgekojbmlppmdaaDoor
