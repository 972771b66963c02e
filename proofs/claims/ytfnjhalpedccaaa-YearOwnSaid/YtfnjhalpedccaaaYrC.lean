/- What base.each and base.Add answer. -/
import Derived.Test.YtfnjhalpedccaaaYrA
import Derived.Laws.EntriesVeiled
import Derived.LoopN
namespace Go.Proofs.Ytfnjhalpedccaaa
open Go.RowKit Go.Sort
set_option linter.unusedVariables false
set_option linter.unusedSimpArgs false

def eB (a x : Int) : Bool := amtB a && amtB x && amtB (a + x)
def fvA : Value := .func (.func 53) #[] #[]
theorem ixe_0 (a x b y c z : Int) (p q r : Option Addr) (W : World) : (Instr.index 137 (.agg #[.int .i64 a, .int .i64 x, .pointer p, .int .i64 b, .int .i64 y, .pointer q, .int .i64 c, .int .i64 z, .pointer r]) (.int .i64 0)).run Try.prog W = .ok (.agg #[.int .i64 a, .int .i64 x, .pointer p]) W := by kernel_rfl
theorem ixe_1 (a x b y c z : Int) (p q r : Option Addr) (W : World) : (Instr.index 137 (.agg #[.int .i64 a, .int .i64 x, .pointer p, .int .i64 b, .int .i64 y, .pointer q, .int .i64 c, .int .i64 z, .pointer r]) (.int .i64 1)).run Try.prog W = .ok (.agg #[.int .i64 b, .int .i64 y, .pointer q]) W := by kernel_rfl
theorem ixe_2 (a x b y c z : Int) (p q r : Option Addr) (W : World) : (Instr.index 137 (.agg #[.int .i64 a, .int .i64 x, .pointer p, .int .i64 b, .int .i64 y, .pointer q, .int .i64 c, .int .i64 z, .pointer r]) (.int .i64 2)).run Try.prog W = .ok (.agg #[.int .i64 c, .int .i64 z, .pointer r]) W := by kernel_rfl
set_option maxRecDepth 100000 in
set_option maxHeartbeats 4000000 in
theorem each_0 (a b c x y z : Int) (w : World) (h0 : (amtB a && amtB x && amtB (a + x)) = false) :
    Calls Try.prog 66 #[.agg #[.int .i64 a, .int .i64 b, .int .i64 c], .agg #[.int .i64 x, .int .i64 y, .int .i64 z], fvA] w fun e w' => e = .returned (.tuple #[.agg #[.int .i64 0, .int .i64 0, .int .i64 0], .int .i64 10]) ∧ Below w.heap.size w w' := by
  unfold fvA
  have K0 : Bx ((((w.alloc (.cells #[.int .i64 a, .int .i64 b, .int .i64 c] 30)).alloc (.cells #[.int .i64 x, .int .i64 y, .int .i64 z] 30)).alloc (.cells #[.int .i64 0, .int .i64 0, .int .i64 0] 30)).alloc (.cells #[.int .i64 0, .int .i64 0, .int .i64 0] 30)) (w.heap.size) 30 [.int .i64 a, .int .i64 b, .int .i64 c] := (((bx_new w [.int .i64 a, .int .i64 b, .int .i64 c] 30).alloc _).alloc _).alloc _
  have K1 : Bx ((((w.alloc (.cells #[.int .i64 a, .int .i64 b, .int .i64 c] 30)).alloc (.cells #[.int .i64 x, .int .i64 y, .int .i64 z] 30)).alloc (.cells #[.int .i64 0, .int .i64 0, .int .i64 0] 30)).alloc (.cells #[.int .i64 0, .int .i64 0, .int .i64 0] 30)) (w.heap.size + 1) 30 [.int .i64 x, .int .i64 y, .int .i64 z] := ((bx_at _ [.int .i64 x, .int .i64 y, .int .i64 z] 30 (by simp)).alloc _).alloc _
  have K2 : Bx ((((w.alloc (.cells #[.int .i64 a, .int .i64 b, .int .i64 c] 30)).alloc (.cells #[.int .i64 x, .int .i64 y, .int .i64 z] 30)).alloc (.cells #[.int .i64 0, .int .i64 0, .int .i64 0] 30)).alloc (.cells #[.int .i64 0, .int .i64 0, .int .i64 0] 30)) (w.heap.size + 1 + 1) 30 [.int .i64 0, .int .i64 0, .int .i64 0] := (bx_at _ [.int .i64 0, .int .i64 0, .int .i64 0] 30 (by simp)).alloc _
  have K3 : Bx ((((w.alloc (.cells #[.int .i64 a, .int .i64 b, .int .i64 c] 30)).alloc (.cells #[.int .i64 x, .int .i64 y, .int .i64 z] 30)).alloc (.cells #[.int .i64 0, .int .i64 0, .int .i64 0] 30)).alloc (.cells #[.int .i64 0, .int .i64 0, .int .i64 0] 30)) (w.heap.size + 1 + 1 + 1) 30 [.int .i64 0, .int .i64 0, .int .i64 0] := bx_at _ [.int .i64 0, .int .i64 0, .int .i64 0] 30 (by simp)
  have B : Below w.heap.size w ((((w.alloc (.cells #[.int .i64 a, .int .i64 b, .int .i64 c] 30)).alloc (.cells #[.int .i64 x, .int .i64 y, .int .i64 z] 30)).alloc (.cells #[.int .i64 0, .int .i64 0, .int .i64 0] 30)).alloc (.cells #[.int .i64 0, .int .i64 0, .int .i64 0] 30)) := (((((Below.refl _ _).alloc (Nat.le_refl _) _).alloc (by simp) _).alloc (by simp; omega) _).alloc (by simp; omega) _)
  have k0_0 := K0.cell (i := 0) rfl
  have k0_1 := K0.cell (i := 1) rfl
  have k0_2 := K0.cell (i := 2) rfl
  have k1_0 := K1.cell (i := 0) rfl
  have k1_1 := K1.cell (i := 1) rfl
  have k1_2 := K1.cell (i := 2) rfl
  have k2_0 := K2.cell (i := 0) rfl
  have k2_1 := K2.cell (i := 1) rfl
  have k2_2 := K2.cell (i := 2) rfl
  have k3_0 := K3.cell (i := 0) rfl
  have k3_1 := K3.cell (i := 1) rfl
  have k3_2 := K3.cell (i := 2) rfl
  have cA0 := fun w => add_any a x w false h0
  simp only [if_neg Bool.false_ne_true] at cA0
  have ix0 := fun W => ixe_0 a x b y c z (some ⟨w.heap.size + 1 + 1 + 1, 0, none⟩) (some ⟨w.heap.size + 1 + 1 + 1, 1, none⟩) (some ⟨w.heap.size + 1 + 1 + 1, 2, none⟩) W
  have ix1 := fun W => ixe_1 a x b y c z (some ⟨w.heap.size + 1 + 1 + 1, 0, none⟩) (some ⟨w.heap.size + 1 + 1 + 1, 1, none⟩) (some ⟨w.heap.size + 1 + 1 + 1, 2, none⟩) W
  have ix2 := fun W => ixe_2 a x b y c z (some ⟨w.heap.size + 1 + 1 + 1, 0, none⟩) (some ⟨w.heap.size + 1 + 1 + 1, 1, none⟩) (some ⟨w.heap.size + 1 + 1 + 1, 2, none⟩) W
  go_enter Try.func66, Try.ntmps66
  go_wp2_with (fail)
  generalize hW : ((((w.alloc (.cells #[.int .i64 a, .int .i64 b, .int .i64 c] 30)).alloc (.cells #[.int .i64 x, .int .i64 y, .int .i64 z] 30)).alloc (.cells #[.int .i64 0, .int .i64 0, .int .i64 0] 30)).alloc (.cells #[.int .i64 0, .int .i64 0, .int .i64 0] 30)) = w0 at *
  have hz : w.heap.size + 1 + 1 + 1 + 1 ≤ w0.heap.size := by rw [← hW]; simp
  clear hW
  refine wp_loop_rounds 3 ?_
  rw [rounds_succ]
  have NBn := below_new w0 (.cells #[.int .i64 a, .int .i64 x, .pointer (some ⟨w.heap.size + 1 + 1 + 1, 0, none⟩)] 136)
  have KO0 := bx_new w0 [.int .i64 a, .int .i64 x, .pointer (some ⟨w.heap.size + 1 + 1 + 1, 0, none⟩)] 136
  clear k0_0 k0_1 k0_2 k1_0 k1_1 k1_2 k2_0 k2_1 k2_2 k3_0 k3_1 k3_2
  replace K0 := K0.below NBn
  replace K1 := K1.below NBn
  replace K2 := K2.below NBn
  replace K3 := K3.below NBn
  replace B := below_step B NBn B.size
  clear NBn
  have k0_0 := K0.cell (i := 0) rfl
  have k0_1 := K0.cell (i := 1) rfl
  have k0_2 := K0.cell (i := 2) rfl
  have k1_0 := K1.cell (i := 0) rfl
  have k1_1 := K1.cell (i := 1) rfl
  have k1_2 := K1.cell (i := 2) rfl
  have k2_0 := K2.cell (i := 0) rfl
  have k2_1 := K2.cell (i := 1) rfl
  have k2_2 := K2.cell (i := 2) rfl
  have k3_0 := K3.cell (i := 0) rfl
  have k3_1 := K3.cell (i := 1) rfl
  have k3_2 := K3.cell (i := 2) rfl
  have ko0_0 := KO0.cell (i := 0) rfl
  have ko0_1 := KO0.cell (i := 1) rfl
  have ko0_2 := KO0.cell (i := 2) rfl
  go_wp2_with (fail)
  with_reducible refine (cA0 _).mono ?_
  rintro e w1 ⟨rfl, hb⟩
  clear k0_0 k0_1 k0_2 k1_0 k1_1 k1_2 k2_0 k2_1 k2_2 k3_0 k3_1 k3_2 ko0_0 ko0_1 ko0_2
  replace K0 := K0.below hb
  replace K1 := K1.below hb
  replace K2 := K2.below hb
  replace K3 := K3.below hb
  replace KO0 := KO0.below hb
  replace B := below_step B hb B.size
  clear hb
  have k0_0 := K0.cell (i := 0) rfl
  have k0_1 := K0.cell (i := 1) rfl
  have k0_2 := K0.cell (i := 2) rfl
  have k1_0 := K1.cell (i := 0) rfl
  have k1_1 := K1.cell (i := 1) rfl
  have k1_2 := K1.cell (i := 2) rfl
  have k2_0 := K2.cell (i := 0) rfl
  have k2_1 := K2.cell (i := 1) rfl
  have k2_2 := K2.cell (i := 2) rfl
  have k3_0 := K3.cell (i := 0) rfl
  have k3_1 := K3.cell (i := 1) rfl
  have k3_2 := K3.cell (i := 2) rfl
  have ko0_0 := KO0.cell (i := 0) rfl
  have ko0_1 := KO0.cell (i := 1) rfl
  have ko0_2 := KO0.cell (i := 2) rfl
  clear cA0
  replace hz : w.heap.size + 1 + 1 + 1 + 1 ≤ w1.heap.size := by have := B.size; have := K3.lt; omega
  have gr_0 := K2.fr 0
  have gr_1 := K2.fr 1
  have gr_2 := K2.fr 2
  have Z := ((K2.set 0 (.int .i64 0)).set 1 (.int .i64 0)).set 2 (.int .i64 0)
  have z0 := Z.cell (i := 0) rfl
  have z1 := Z.cell (i := 1) rfl
  have z2 := Z.cell (i := 2) rfl
  have hp : w.heap.size ≤ w.heap.size + 1 + 1 := by omega
  clear Z
  clear k0_0 k0_1 k0_2 K0
  clear k1_0 k1_1 k1_2 K1
  clear k3_0 k3_1 k3_2 K3
  clear ko0_0 ko0_1 ko0_2 KO0
  clear K2
  go_wp2
  exact bodyPost_ret (v := .tuple #[.agg #[.int .i64 0, .int .i64 0, .int .i64 0], .int .i64 10]) (by simp [results, Try.results66, go_sem, z0, z1, z2]) rfl ⟨rfl, ((B.setCell (p := ⟨w.heap.size + 1 + 1, 0, none⟩) hp _).setCell (p := ⟨w.heap.size + 1 + 1, 1, none⟩) hp _).setCell (p := ⟨w.heap.size + 1 + 1, 2, none⟩) hp _⟩
set_option maxRecDepth 100000 in
set_option maxHeartbeats 4000000 in
theorem each_1 (a b c x y z : Int) (w : World) (h0 : (amtB a && amtB x && amtB (a + x)) = true) (h1 : (amtB b && amtB y && amtB (b + y)) = false) :
    Calls Try.prog 66 #[.agg #[.int .i64 a, .int .i64 b, .int .i64 c], .agg #[.int .i64 x, .int .i64 y, .int .i64 z], fvA] w fun e w' => e = .returned (.tuple #[.agg #[.int .i64 0, .int .i64 0, .int .i64 0], .int .i64 10]) ∧ Below w.heap.size w w' := by
  unfold fvA
  have K0 : Bx ((((w.alloc (.cells #[.int .i64 a, .int .i64 b, .int .i64 c] 30)).alloc (.cells #[.int .i64 x, .int .i64 y, .int .i64 z] 30)).alloc (.cells #[.int .i64 0, .int .i64 0, .int .i64 0] 30)).alloc (.cells #[.int .i64 0, .int .i64 0, .int .i64 0] 30)) (w.heap.size) 30 [.int .i64 a, .int .i64 b, .int .i64 c] := (((bx_new w [.int .i64 a, .int .i64 b, .int .i64 c] 30).alloc _).alloc _).alloc _
  have K1 : Bx ((((w.alloc (.cells #[.int .i64 a, .int .i64 b, .int .i64 c] 30)).alloc (.cells #[.int .i64 x, .int .i64 y, .int .i64 z] 30)).alloc (.cells #[.int .i64 0, .int .i64 0, .int .i64 0] 30)).alloc (.cells #[.int .i64 0, .int .i64 0, .int .i64 0] 30)) (w.heap.size + 1) 30 [.int .i64 x, .int .i64 y, .int .i64 z] := ((bx_at _ [.int .i64 x, .int .i64 y, .int .i64 z] 30 (by simp)).alloc _).alloc _
  have K2 : Bx ((((w.alloc (.cells #[.int .i64 a, .int .i64 b, .int .i64 c] 30)).alloc (.cells #[.int .i64 x, .int .i64 y, .int .i64 z] 30)).alloc (.cells #[.int .i64 0, .int .i64 0, .int .i64 0] 30)).alloc (.cells #[.int .i64 0, .int .i64 0, .int .i64 0] 30)) (w.heap.size + 1 + 1) 30 [.int .i64 0, .int .i64 0, .int .i64 0] := (bx_at _ [.int .i64 0, .int .i64 0, .int .i64 0] 30 (by simp)).alloc _
  have K3 : Bx ((((w.alloc (.cells #[.int .i64 a, .int .i64 b, .int .i64 c] 30)).alloc (.cells #[.int .i64 x, .int .i64 y, .int .i64 z] 30)).alloc (.cells #[.int .i64 0, .int .i64 0, .int .i64 0] 30)).alloc (.cells #[.int .i64 0, .int .i64 0, .int .i64 0] 30)) (w.heap.size + 1 + 1 + 1) 30 [.int .i64 0, .int .i64 0, .int .i64 0] := bx_at _ [.int .i64 0, .int .i64 0, .int .i64 0] 30 (by simp)
  have B : Below w.heap.size w ((((w.alloc (.cells #[.int .i64 a, .int .i64 b, .int .i64 c] 30)).alloc (.cells #[.int .i64 x, .int .i64 y, .int .i64 z] 30)).alloc (.cells #[.int .i64 0, .int .i64 0, .int .i64 0] 30)).alloc (.cells #[.int .i64 0, .int .i64 0, .int .i64 0] 30)) := (((((Below.refl _ _).alloc (Nat.le_refl _) _).alloc (by simp) _).alloc (by simp; omega) _).alloc (by simp; omega) _)
  have k0_0 := K0.cell (i := 0) rfl
  have k0_1 := K0.cell (i := 1) rfl
  have k0_2 := K0.cell (i := 2) rfl
  have k1_0 := K1.cell (i := 0) rfl
  have k1_1 := K1.cell (i := 1) rfl
  have k1_2 := K1.cell (i := 2) rfl
  have k2_0 := K2.cell (i := 0) rfl
  have k2_1 := K2.cell (i := 1) rfl
  have k2_2 := K2.cell (i := 2) rfl
  have k3_0 := K3.cell (i := 0) rfl
  have k3_1 := K3.cell (i := 1) rfl
  have k3_2 := K3.cell (i := 2) rfl
  have cA0 := fun w => add_any a x w true h0
  simp only [if_true] at cA0
  clear h0
  generalize a + x = s0 at *
  have cA1 := fun w => add_any b y w false h1
  simp only [if_neg Bool.false_ne_true] at cA1
  have ix0 := fun W => ixe_0 a x b y c z (some ⟨w.heap.size + 1 + 1 + 1, 0, none⟩) (some ⟨w.heap.size + 1 + 1 + 1, 1, none⟩) (some ⟨w.heap.size + 1 + 1 + 1, 2, none⟩) W
  have ix1 := fun W => ixe_1 a x b y c z (some ⟨w.heap.size + 1 + 1 + 1, 0, none⟩) (some ⟨w.heap.size + 1 + 1 + 1, 1, none⟩) (some ⟨w.heap.size + 1 + 1 + 1, 2, none⟩) W
  have ix2 := fun W => ixe_2 a x b y c z (some ⟨w.heap.size + 1 + 1 + 1, 0, none⟩) (some ⟨w.heap.size + 1 + 1 + 1, 1, none⟩) (some ⟨w.heap.size + 1 + 1 + 1, 2, none⟩) W
  go_enter Try.func66, Try.ntmps66
  go_wp2_with (fail)
  generalize hW : ((((w.alloc (.cells #[.int .i64 a, .int .i64 b, .int .i64 c] 30)).alloc (.cells #[.int .i64 x, .int .i64 y, .int .i64 z] 30)).alloc (.cells #[.int .i64 0, .int .i64 0, .int .i64 0] 30)).alloc (.cells #[.int .i64 0, .int .i64 0, .int .i64 0] 30)) = w0 at *
  have hz : w.heap.size + 1 + 1 + 1 + 1 ≤ w0.heap.size := by rw [← hW]; simp
  clear hW
  refine wp_loop_rounds 3 ?_
  rw [rounds_succ]
  have NBn := below_new w0 (.cells #[.int .i64 a, .int .i64 x, .pointer (some ⟨w.heap.size + 1 + 1 + 1, 0, none⟩)] 136)
  have KO0 := bx_new w0 [.int .i64 a, .int .i64 x, .pointer (some ⟨w.heap.size + 1 + 1 + 1, 0, none⟩)] 136
  clear k0_0 k0_1 k0_2 k1_0 k1_1 k1_2 k2_0 k2_1 k2_2 k3_0 k3_1 k3_2
  replace K0 := K0.below NBn
  replace K1 := K1.below NBn
  replace K2 := K2.below NBn
  replace K3 := K3.below NBn
  replace B := below_step B NBn B.size
  clear NBn
  have k0_0 := K0.cell (i := 0) rfl
  have k0_1 := K0.cell (i := 1) rfl
  have k0_2 := K0.cell (i := 2) rfl
  have k1_0 := K1.cell (i := 0) rfl
  have k1_1 := K1.cell (i := 1) rfl
  have k1_2 := K1.cell (i := 2) rfl
  have k2_0 := K2.cell (i := 0) rfl
  have k2_1 := K2.cell (i := 1) rfl
  have k2_2 := K2.cell (i := 2) rfl
  have k3_0 := K3.cell (i := 0) rfl
  have k3_1 := K3.cell (i := 1) rfl
  have k3_2 := K3.cell (i := 2) rfl
  have ko0_0 := KO0.cell (i := 0) rfl
  have ko0_1 := KO0.cell (i := 1) rfl
  have ko0_2 := KO0.cell (i := 2) rfl
  go_wp2_with (fail)
  with_reducible refine (cA0 _).mono ?_
  rintro e w1 ⟨rfl, hb⟩
  clear k0_0 k0_1 k0_2 k1_0 k1_1 k1_2 k2_0 k2_1 k2_2 k3_0 k3_1 k3_2 ko0_0 ko0_1 ko0_2
  replace K0 := K0.below hb
  replace K1 := K1.below hb
  replace K2 := K2.below hb
  replace K3 := K3.below hb
  replace KO0 := KO0.below hb
  replace B := below_step B hb B.size
  clear hb
  have k0_0 := K0.cell (i := 0) rfl
  have k0_1 := K0.cell (i := 1) rfl
  have k0_2 := K0.cell (i := 2) rfl
  have k1_0 := K1.cell (i := 0) rfl
  have k1_1 := K1.cell (i := 1) rfl
  have k1_2 := K1.cell (i := 2) rfl
  have k2_0 := K2.cell (i := 0) rfl
  have k2_1 := K2.cell (i := 1) rfl
  have k2_2 := K2.cell (i := 2) rfl
  have k3_0 := K3.cell (i := 0) rfl
  have k3_1 := K3.cell (i := 1) rfl
  have k3_2 := K3.cell (i := 2) rfl
  have ko0_0 := KO0.cell (i := 0) rfl
  have ko0_1 := KO0.cell (i := 1) rfl
  have ko0_2 := KO0.cell (i := 2) rfl
  clear cA0
  replace hz : w.heap.size + 1 + 1 + 1 + 1 ≤ w1.heap.size := by have := B.size; have := K3.lt; omega
  have fr_0 := K3.fr 0
  go_wp2_with (fail)
  clear fr_0
  clear ko0_0 ko0_1 ko0_2 KO0
  clear k0_0 k0_1 k0_2 k1_0 k1_1 k1_2 k2_0 k2_1 k2_2 k3_0 k3_1 k3_2
  replace K0 := K0.other (q := w.heap.size + 1 + 1 + 1) (by omega) 0 (.int .i64 s0)
  replace K1 := K1.other (q := w.heap.size + 1 + 1 + 1) (by omega) 0 (.int .i64 s0)
  replace K2 := K2.other (q := w.heap.size + 1 + 1 + 1) (by omega) 0 (.int .i64 s0)
  replace K3 := K3.set 0 (.int .i64 s0)
  replace B := B.setCell (p := ⟨w.heap.size + 1 + 1 + 1, 0, none⟩) (by show w.heap.size ≤ w.heap.size + 1 + 1 + 1; omega) (.int .i64 s0)
  generalize (w1.setCell ⟨w.heap.size + 1 + 1 + 1, 0, none⟩ (.int .i64 s0)) = v0 at *
  have k0_0 := K0.cell (i := 0) rfl
  have k0_1 := K0.cell (i := 1) rfl
  have k0_2 := K0.cell (i := 2) rfl
  have k1_0 := K1.cell (i := 0) rfl
  have k1_1 := K1.cell (i := 1) rfl
  have k1_2 := K1.cell (i := 2) rfl
  have k2_0 := K2.cell (i := 0) rfl
  have k2_1 := K2.cell (i := 1) rfl
  have k2_2 := K2.cell (i := 2) rfl
  have k3_0 := K3.cell (i := 0) rfl
  have k3_1 := K3.cell (i := 1) rfl
  have k3_2 := K3.cell (i := 2) rfl
  rw [rounds_succ]
  have NBn := below_new v0 (.cells #[.int .i64 b, .int .i64 y, .pointer (some ⟨w.heap.size + 1 + 1 + 1, 1, none⟩)] 136)
  have KO1 := bx_new v0 [.int .i64 b, .int .i64 y, .pointer (some ⟨w.heap.size + 1 + 1 + 1, 1, none⟩)] 136
  clear k0_0 k0_1 k0_2 k1_0 k1_1 k1_2 k2_0 k2_1 k2_2 k3_0 k3_1 k3_2
  replace K0 := K0.below NBn
  replace K1 := K1.below NBn
  replace K2 := K2.below NBn
  replace K3 := K3.below NBn
  replace B := below_step B NBn B.size
  clear NBn
  have k0_0 := K0.cell (i := 0) rfl
  have k0_1 := K0.cell (i := 1) rfl
  have k0_2 := K0.cell (i := 2) rfl
  have k1_0 := K1.cell (i := 0) rfl
  have k1_1 := K1.cell (i := 1) rfl
  have k1_2 := K1.cell (i := 2) rfl
  have k2_0 := K2.cell (i := 0) rfl
  have k2_1 := K2.cell (i := 1) rfl
  have k2_2 := K2.cell (i := 2) rfl
  have k3_0 := K3.cell (i := 0) rfl
  have k3_1 := K3.cell (i := 1) rfl
  have k3_2 := K3.cell (i := 2) rfl
  have ko1_0 := KO1.cell (i := 0) rfl
  have ko1_1 := KO1.cell (i := 1) rfl
  have ko1_2 := KO1.cell (i := 2) rfl
  go_wp2_with (fail)
  with_reducible refine (cA1 _).mono ?_
  rintro e w2 ⟨rfl, hb⟩
  clear k0_0 k0_1 k0_2 k1_0 k1_1 k1_2 k2_0 k2_1 k2_2 k3_0 k3_1 k3_2 ko1_0 ko1_1 ko1_2
  replace K0 := K0.below hb
  replace K1 := K1.below hb
  replace K2 := K2.below hb
  replace K3 := K3.below hb
  replace KO1 := KO1.below hb
  replace B := below_step B hb B.size
  clear hb
  have k0_0 := K0.cell (i := 0) rfl
  have k0_1 := K0.cell (i := 1) rfl
  have k0_2 := K0.cell (i := 2) rfl
  have k1_0 := K1.cell (i := 0) rfl
  have k1_1 := K1.cell (i := 1) rfl
  have k1_2 := K1.cell (i := 2) rfl
  have k2_0 := K2.cell (i := 0) rfl
  have k2_1 := K2.cell (i := 1) rfl
  have k2_2 := K2.cell (i := 2) rfl
  have k3_0 := K3.cell (i := 0) rfl
  have k3_1 := K3.cell (i := 1) rfl
  have k3_2 := K3.cell (i := 2) rfl
  have ko1_0 := KO1.cell (i := 0) rfl
  have ko1_1 := KO1.cell (i := 1) rfl
  have ko1_2 := KO1.cell (i := 2) rfl
  clear cA1
  replace hz : w.heap.size + 1 + 1 + 1 + 1 ≤ w2.heap.size := by have := B.size; have := K3.lt; omega
  have gr_0 := K2.fr 0
  have gr_1 := K2.fr 1
  have gr_2 := K2.fr 2
  have Z := ((K2.set 0 (.int .i64 0)).set 1 (.int .i64 0)).set 2 (.int .i64 0)
  have z0 := Z.cell (i := 0) rfl
  have z1 := Z.cell (i := 1) rfl
  have z2 := Z.cell (i := 2) rfl
  have hp : w.heap.size ≤ w.heap.size + 1 + 1 := by omega
  clear Z
  clear k0_0 k0_1 k0_2 K0
  clear k1_0 k1_1 k1_2 K1
  clear k3_0 k3_1 k3_2 K3
  clear ko1_0 ko1_1 ko1_2 KO1
  clear K2
  go_wp2
  exact bodyPost_ret (v := .tuple #[.agg #[.int .i64 0, .int .i64 0, .int .i64 0], .int .i64 10]) (by simp [results, Try.results66, go_sem, z0, z1, z2]) rfl ⟨rfl, ((B.setCell (p := ⟨w.heap.size + 1 + 1, 0, none⟩) hp _).setCell (p := ⟨w.heap.size + 1 + 1, 1, none⟩) hp _).setCell (p := ⟨w.heap.size + 1 + 1, 2, none⟩) hp _⟩
set_option maxRecDepth 100000 in
set_option maxHeartbeats 4000000 in
theorem each_2 (a b c x y z : Int) (w : World) (h0 : (amtB a && amtB x && amtB (a + x)) = true) (h1 : (amtB b && amtB y && amtB (b + y)) = true) (h2 : (amtB c && amtB z && amtB (c + z)) = false) :
    Calls Try.prog 66 #[.agg #[.int .i64 a, .int .i64 b, .int .i64 c], .agg #[.int .i64 x, .int .i64 y, .int .i64 z], fvA] w fun e w' => e = .returned (.tuple #[.agg #[.int .i64 0, .int .i64 0, .int .i64 0], .int .i64 10]) ∧ Below w.heap.size w w' := by
  unfold fvA
  have K0 : Bx ((((w.alloc (.cells #[.int .i64 a, .int .i64 b, .int .i64 c] 30)).alloc (.cells #[.int .i64 x, .int .i64 y, .int .i64 z] 30)).alloc (.cells #[.int .i64 0, .int .i64 0, .int .i64 0] 30)).alloc (.cells #[.int .i64 0, .int .i64 0, .int .i64 0] 30)) (w.heap.size) 30 [.int .i64 a, .int .i64 b, .int .i64 c] := (((bx_new w [.int .i64 a, .int .i64 b, .int .i64 c] 30).alloc _).alloc _).alloc _
  have K1 : Bx ((((w.alloc (.cells #[.int .i64 a, .int .i64 b, .int .i64 c] 30)).alloc (.cells #[.int .i64 x, .int .i64 y, .int .i64 z] 30)).alloc (.cells #[.int .i64 0, .int .i64 0, .int .i64 0] 30)).alloc (.cells #[.int .i64 0, .int .i64 0, .int .i64 0] 30)) (w.heap.size + 1) 30 [.int .i64 x, .int .i64 y, .int .i64 z] := ((bx_at _ [.int .i64 x, .int .i64 y, .int .i64 z] 30 (by simp)).alloc _).alloc _
  have K2 : Bx ((((w.alloc (.cells #[.int .i64 a, .int .i64 b, .int .i64 c] 30)).alloc (.cells #[.int .i64 x, .int .i64 y, .int .i64 z] 30)).alloc (.cells #[.int .i64 0, .int .i64 0, .int .i64 0] 30)).alloc (.cells #[.int .i64 0, .int .i64 0, .int .i64 0] 30)) (w.heap.size + 1 + 1) 30 [.int .i64 0, .int .i64 0, .int .i64 0] := (bx_at _ [.int .i64 0, .int .i64 0, .int .i64 0] 30 (by simp)).alloc _
  have K3 : Bx ((((w.alloc (.cells #[.int .i64 a, .int .i64 b, .int .i64 c] 30)).alloc (.cells #[.int .i64 x, .int .i64 y, .int .i64 z] 30)).alloc (.cells #[.int .i64 0, .int .i64 0, .int .i64 0] 30)).alloc (.cells #[.int .i64 0, .int .i64 0, .int .i64 0] 30)) (w.heap.size + 1 + 1 + 1) 30 [.int .i64 0, .int .i64 0, .int .i64 0] := bx_at _ [.int .i64 0, .int .i64 0, .int .i64 0] 30 (by simp)
  have B : Below w.heap.size w ((((w.alloc (.cells #[.int .i64 a, .int .i64 b, .int .i64 c] 30)).alloc (.cells #[.int .i64 x, .int .i64 y, .int .i64 z] 30)).alloc (.cells #[.int .i64 0, .int .i64 0, .int .i64 0] 30)).alloc (.cells #[.int .i64 0, .int .i64 0, .int .i64 0] 30)) := (((((Below.refl _ _).alloc (Nat.le_refl _) _).alloc (by simp) _).alloc (by simp; omega) _).alloc (by simp; omega) _)
  have k0_0 := K0.cell (i := 0) rfl
  have k0_1 := K0.cell (i := 1) rfl
  have k0_2 := K0.cell (i := 2) rfl
  have k1_0 := K1.cell (i := 0) rfl
  have k1_1 := K1.cell (i := 1) rfl
  have k1_2 := K1.cell (i := 2) rfl
  have k2_0 := K2.cell (i := 0) rfl
  have k2_1 := K2.cell (i := 1) rfl
  have k2_2 := K2.cell (i := 2) rfl
  have k3_0 := K3.cell (i := 0) rfl
  have k3_1 := K3.cell (i := 1) rfl
  have k3_2 := K3.cell (i := 2) rfl
  have cA0 := fun w => add_any a x w true h0
  simp only [if_true] at cA0
  clear h0
  generalize a + x = s0 at *
  have cA1 := fun w => add_any b y w true h1
  simp only [if_true] at cA1
  clear h1
  generalize b + y = s1 at *
  have cA2 := fun w => add_any c z w false h2
  simp only [if_neg Bool.false_ne_true] at cA2
  have ix0 := fun W => ixe_0 a x b y c z (some ⟨w.heap.size + 1 + 1 + 1, 0, none⟩) (some ⟨w.heap.size + 1 + 1 + 1, 1, none⟩) (some ⟨w.heap.size + 1 + 1 + 1, 2, none⟩) W
  have ix1 := fun W => ixe_1 a x b y c z (some ⟨w.heap.size + 1 + 1 + 1, 0, none⟩) (some ⟨w.heap.size + 1 + 1 + 1, 1, none⟩) (some ⟨w.heap.size + 1 + 1 + 1, 2, none⟩) W
  have ix2 := fun W => ixe_2 a x b y c z (some ⟨w.heap.size + 1 + 1 + 1, 0, none⟩) (some ⟨w.heap.size + 1 + 1 + 1, 1, none⟩) (some ⟨w.heap.size + 1 + 1 + 1, 2, none⟩) W
  go_enter Try.func66, Try.ntmps66
  go_wp2_with (fail)
  generalize hW : ((((w.alloc (.cells #[.int .i64 a, .int .i64 b, .int .i64 c] 30)).alloc (.cells #[.int .i64 x, .int .i64 y, .int .i64 z] 30)).alloc (.cells #[.int .i64 0, .int .i64 0, .int .i64 0] 30)).alloc (.cells #[.int .i64 0, .int .i64 0, .int .i64 0] 30)) = w0 at *
  have hz : w.heap.size + 1 + 1 + 1 + 1 ≤ w0.heap.size := by rw [← hW]; simp
  clear hW
  refine wp_loop_rounds 3 ?_
  rw [rounds_succ]
  have NBn := below_new w0 (.cells #[.int .i64 a, .int .i64 x, .pointer (some ⟨w.heap.size + 1 + 1 + 1, 0, none⟩)] 136)
  have KO0 := bx_new w0 [.int .i64 a, .int .i64 x, .pointer (some ⟨w.heap.size + 1 + 1 + 1, 0, none⟩)] 136
  clear k0_0 k0_1 k0_2 k1_0 k1_1 k1_2 k2_0 k2_1 k2_2 k3_0 k3_1 k3_2
  replace K0 := K0.below NBn
  replace K1 := K1.below NBn
  replace K2 := K2.below NBn
  replace K3 := K3.below NBn
  replace B := below_step B NBn B.size
  clear NBn
  have k0_0 := K0.cell (i := 0) rfl
  have k0_1 := K0.cell (i := 1) rfl
  have k0_2 := K0.cell (i := 2) rfl
  have k1_0 := K1.cell (i := 0) rfl
  have k1_1 := K1.cell (i := 1) rfl
  have k1_2 := K1.cell (i := 2) rfl
  have k2_0 := K2.cell (i := 0) rfl
  have k2_1 := K2.cell (i := 1) rfl
  have k2_2 := K2.cell (i := 2) rfl
  have k3_0 := K3.cell (i := 0) rfl
  have k3_1 := K3.cell (i := 1) rfl
  have k3_2 := K3.cell (i := 2) rfl
  have ko0_0 := KO0.cell (i := 0) rfl
  have ko0_1 := KO0.cell (i := 1) rfl
  have ko0_2 := KO0.cell (i := 2) rfl
  go_wp2_with (fail)
  with_reducible refine (cA0 _).mono ?_
  rintro e w1 ⟨rfl, hb⟩
  clear k0_0 k0_1 k0_2 k1_0 k1_1 k1_2 k2_0 k2_1 k2_2 k3_0 k3_1 k3_2 ko0_0 ko0_1 ko0_2
  replace K0 := K0.below hb
  replace K1 := K1.below hb
  replace K2 := K2.below hb
  replace K3 := K3.below hb
  replace KO0 := KO0.below hb
  replace B := below_step B hb B.size
  clear hb
  have k0_0 := K0.cell (i := 0) rfl
  have k0_1 := K0.cell (i := 1) rfl
  have k0_2 := K0.cell (i := 2) rfl
  have k1_0 := K1.cell (i := 0) rfl
  have k1_1 := K1.cell (i := 1) rfl
  have k1_2 := K1.cell (i := 2) rfl
  have k2_0 := K2.cell (i := 0) rfl
  have k2_1 := K2.cell (i := 1) rfl
  have k2_2 := K2.cell (i := 2) rfl
  have k3_0 := K3.cell (i := 0) rfl
  have k3_1 := K3.cell (i := 1) rfl
  have k3_2 := K3.cell (i := 2) rfl
  have ko0_0 := KO0.cell (i := 0) rfl
  have ko0_1 := KO0.cell (i := 1) rfl
  have ko0_2 := KO0.cell (i := 2) rfl
  clear cA0
  replace hz : w.heap.size + 1 + 1 + 1 + 1 ≤ w1.heap.size := by have := B.size; have := K3.lt; omega
  have fr_0 := K3.fr 0
  go_wp2_with (fail)
  clear fr_0
  clear ko0_0 ko0_1 ko0_2 KO0
  clear k0_0 k0_1 k0_2 k1_0 k1_1 k1_2 k2_0 k2_1 k2_2 k3_0 k3_1 k3_2
  replace K0 := K0.other (q := w.heap.size + 1 + 1 + 1) (by omega) 0 (.int .i64 s0)
  replace K1 := K1.other (q := w.heap.size + 1 + 1 + 1) (by omega) 0 (.int .i64 s0)
  replace K2 := K2.other (q := w.heap.size + 1 + 1 + 1) (by omega) 0 (.int .i64 s0)
  replace K3 := K3.set 0 (.int .i64 s0)
  replace B := B.setCell (p := ⟨w.heap.size + 1 + 1 + 1, 0, none⟩) (by show w.heap.size ≤ w.heap.size + 1 + 1 + 1; omega) (.int .i64 s0)
  generalize (w1.setCell ⟨w.heap.size + 1 + 1 + 1, 0, none⟩ (.int .i64 s0)) = v0 at *
  have k0_0 := K0.cell (i := 0) rfl
  have k0_1 := K0.cell (i := 1) rfl
  have k0_2 := K0.cell (i := 2) rfl
  have k1_0 := K1.cell (i := 0) rfl
  have k1_1 := K1.cell (i := 1) rfl
  have k1_2 := K1.cell (i := 2) rfl
  have k2_0 := K2.cell (i := 0) rfl
  have k2_1 := K2.cell (i := 1) rfl
  have k2_2 := K2.cell (i := 2) rfl
  have k3_0 := K3.cell (i := 0) rfl
  have k3_1 := K3.cell (i := 1) rfl
  have k3_2 := K3.cell (i := 2) rfl
  rw [rounds_succ]
  have NBn := below_new v0 (.cells #[.int .i64 b, .int .i64 y, .pointer (some ⟨w.heap.size + 1 + 1 + 1, 1, none⟩)] 136)
  have KO1 := bx_new v0 [.int .i64 b, .int .i64 y, .pointer (some ⟨w.heap.size + 1 + 1 + 1, 1, none⟩)] 136
  clear k0_0 k0_1 k0_2 k1_0 k1_1 k1_2 k2_0 k2_1 k2_2 k3_0 k3_1 k3_2
  replace K0 := K0.below NBn
  replace K1 := K1.below NBn
  replace K2 := K2.below NBn
  replace K3 := K3.below NBn
  replace B := below_step B NBn B.size
  clear NBn
  have k0_0 := K0.cell (i := 0) rfl
  have k0_1 := K0.cell (i := 1) rfl
  have k0_2 := K0.cell (i := 2) rfl
  have k1_0 := K1.cell (i := 0) rfl
  have k1_1 := K1.cell (i := 1) rfl
  have k1_2 := K1.cell (i := 2) rfl
  have k2_0 := K2.cell (i := 0) rfl
  have k2_1 := K2.cell (i := 1) rfl
  have k2_2 := K2.cell (i := 2) rfl
  have k3_0 := K3.cell (i := 0) rfl
  have k3_1 := K3.cell (i := 1) rfl
  have k3_2 := K3.cell (i := 2) rfl
  have ko1_0 := KO1.cell (i := 0) rfl
  have ko1_1 := KO1.cell (i := 1) rfl
  have ko1_2 := KO1.cell (i := 2) rfl
  go_wp2_with (fail)
  with_reducible refine (cA1 _).mono ?_
  rintro e w2 ⟨rfl, hb⟩
  clear k0_0 k0_1 k0_2 k1_0 k1_1 k1_2 k2_0 k2_1 k2_2 k3_0 k3_1 k3_2 ko1_0 ko1_1 ko1_2
  replace K0 := K0.below hb
  replace K1 := K1.below hb
  replace K2 := K2.below hb
  replace K3 := K3.below hb
  replace KO1 := KO1.below hb
  replace B := below_step B hb B.size
  clear hb
  have k0_0 := K0.cell (i := 0) rfl
  have k0_1 := K0.cell (i := 1) rfl
  have k0_2 := K0.cell (i := 2) rfl
  have k1_0 := K1.cell (i := 0) rfl
  have k1_1 := K1.cell (i := 1) rfl
  have k1_2 := K1.cell (i := 2) rfl
  have k2_0 := K2.cell (i := 0) rfl
  have k2_1 := K2.cell (i := 1) rfl
  have k2_2 := K2.cell (i := 2) rfl
  have k3_0 := K3.cell (i := 0) rfl
  have k3_1 := K3.cell (i := 1) rfl
  have k3_2 := K3.cell (i := 2) rfl
  have ko1_0 := KO1.cell (i := 0) rfl
  have ko1_1 := KO1.cell (i := 1) rfl
  have ko1_2 := KO1.cell (i := 2) rfl
  clear cA1
  replace hz : w.heap.size + 1 + 1 + 1 + 1 ≤ w2.heap.size := by have := B.size; have := K3.lt; omega
  have fr_0 := K3.fr 1
  go_wp2_with (fail)
  clear fr_0
  clear ko1_0 ko1_1 ko1_2 KO1
  clear k0_0 k0_1 k0_2 k1_0 k1_1 k1_2 k2_0 k2_1 k2_2 k3_0 k3_1 k3_2
  replace K0 := K0.other (q := w.heap.size + 1 + 1 + 1) (by omega) 1 (.int .i64 s1)
  replace K1 := K1.other (q := w.heap.size + 1 + 1 + 1) (by omega) 1 (.int .i64 s1)
  replace K2 := K2.other (q := w.heap.size + 1 + 1 + 1) (by omega) 1 (.int .i64 s1)
  replace K3 := K3.set 1 (.int .i64 s1)
  replace B := B.setCell (p := ⟨w.heap.size + 1 + 1 + 1, 1, none⟩) (by show w.heap.size ≤ w.heap.size + 1 + 1 + 1; omega) (.int .i64 s1)
  generalize (w2.setCell ⟨w.heap.size + 1 + 1 + 1, 1, none⟩ (.int .i64 s1)) = v1 at *
  have k0_0 := K0.cell (i := 0) rfl
  have k0_1 := K0.cell (i := 1) rfl
  have k0_2 := K0.cell (i := 2) rfl
  have k1_0 := K1.cell (i := 0) rfl
  have k1_1 := K1.cell (i := 1) rfl
  have k1_2 := K1.cell (i := 2) rfl
  have k2_0 := K2.cell (i := 0) rfl
  have k2_1 := K2.cell (i := 1) rfl
  have k2_2 := K2.cell (i := 2) rfl
  have k3_0 := K3.cell (i := 0) rfl
  have k3_1 := K3.cell (i := 1) rfl
  have k3_2 := K3.cell (i := 2) rfl
  rw [rounds_succ]
  have NBn := below_new v1 (.cells #[.int .i64 c, .int .i64 z, .pointer (some ⟨w.heap.size + 1 + 1 + 1, 2, none⟩)] 136)
  have KO2 := bx_new v1 [.int .i64 c, .int .i64 z, .pointer (some ⟨w.heap.size + 1 + 1 + 1, 2, none⟩)] 136
  clear k0_0 k0_1 k0_2 k1_0 k1_1 k1_2 k2_0 k2_1 k2_2 k3_0 k3_1 k3_2
  replace K0 := K0.below NBn
  replace K1 := K1.below NBn
  replace K2 := K2.below NBn
  replace K3 := K3.below NBn
  replace B := below_step B NBn B.size
  clear NBn
  have k0_0 := K0.cell (i := 0) rfl
  have k0_1 := K0.cell (i := 1) rfl
  have k0_2 := K0.cell (i := 2) rfl
  have k1_0 := K1.cell (i := 0) rfl
  have k1_1 := K1.cell (i := 1) rfl
  have k1_2 := K1.cell (i := 2) rfl
  have k2_0 := K2.cell (i := 0) rfl
  have k2_1 := K2.cell (i := 1) rfl
  have k2_2 := K2.cell (i := 2) rfl
  have k3_0 := K3.cell (i := 0) rfl
  have k3_1 := K3.cell (i := 1) rfl
  have k3_2 := K3.cell (i := 2) rfl
  have ko2_0 := KO2.cell (i := 0) rfl
  have ko2_1 := KO2.cell (i := 1) rfl
  have ko2_2 := KO2.cell (i := 2) rfl
  go_wp2_with (fail)
  with_reducible refine (cA2 _).mono ?_
  rintro e w3 ⟨rfl, hb⟩
  clear k0_0 k0_1 k0_2 k1_0 k1_1 k1_2 k2_0 k2_1 k2_2 k3_0 k3_1 k3_2 ko2_0 ko2_1 ko2_2
  replace K0 := K0.below hb
  replace K1 := K1.below hb
  replace K2 := K2.below hb
  replace K3 := K3.below hb
  replace KO2 := KO2.below hb
  replace B := below_step B hb B.size
  clear hb
  have k0_0 := K0.cell (i := 0) rfl
  have k0_1 := K0.cell (i := 1) rfl
  have k0_2 := K0.cell (i := 2) rfl
  have k1_0 := K1.cell (i := 0) rfl
  have k1_1 := K1.cell (i := 1) rfl
  have k1_2 := K1.cell (i := 2) rfl
  have k2_0 := K2.cell (i := 0) rfl
  have k2_1 := K2.cell (i := 1) rfl
  have k2_2 := K2.cell (i := 2) rfl
  have k3_0 := K3.cell (i := 0) rfl
  have k3_1 := K3.cell (i := 1) rfl
  have k3_2 := K3.cell (i := 2) rfl
  have ko2_0 := KO2.cell (i := 0) rfl
  have ko2_1 := KO2.cell (i := 1) rfl
  have ko2_2 := KO2.cell (i := 2) rfl
  clear cA2
  replace hz : w.heap.size + 1 + 1 + 1 + 1 ≤ w3.heap.size := by have := B.size; have := K3.lt; omega
  have gr_0 := K2.fr 0
  have gr_1 := K2.fr 1
  have gr_2 := K2.fr 2
  have Z := ((K2.set 0 (.int .i64 0)).set 1 (.int .i64 0)).set 2 (.int .i64 0)
  have z0 := Z.cell (i := 0) rfl
  have z1 := Z.cell (i := 1) rfl
  have z2 := Z.cell (i := 2) rfl
  have hp : w.heap.size ≤ w.heap.size + 1 + 1 := by omega
  clear Z
  clear k0_0 k0_1 k0_2 K0
  clear k1_0 k1_1 k1_2 K1
  clear k3_0 k3_1 k3_2 K3
  clear ko2_0 ko2_1 ko2_2 KO2
  clear K2
  go_wp2
  exact bodyPost_ret (v := .tuple #[.agg #[.int .i64 0, .int .i64 0, .int .i64 0], .int .i64 10]) (by simp [results, Try.results66, go_sem, z0, z1, z2]) rfl ⟨rfl, ((B.setCell (p := ⟨w.heap.size + 1 + 1, 0, none⟩) hp _).setCell (p := ⟨w.heap.size + 1 + 1, 1, none⟩) hp _).setCell (p := ⟨w.heap.size + 1 + 1, 2, none⟩) hp _⟩
set_option maxRecDepth 100000 in
set_option maxHeartbeats 4000000 in
theorem each_3 (a b c x y z : Int) (w : World) (h0 : (amtB a && amtB x && amtB (a + x)) = true) (h1 : (amtB b && amtB y && amtB (b + y)) = true) (h2 : (amtB c && amtB z && amtB (c + z)) = true) :
    Calls Try.prog 66 #[.agg #[.int .i64 a, .int .i64 b, .int .i64 c], .agg #[.int .i64 x, .int .i64 y, .int .i64 z], fvA] w fun e w' => e = .returned (.tuple #[.agg #[.int .i64 (a + x), .int .i64 (b + y), .int .i64 (c + z)], .int .i64 0]) ∧ Below w.heap.size w w' := by
  unfold fvA
  have K0 : Bx ((((w.alloc (.cells #[.int .i64 a, .int .i64 b, .int .i64 c] 30)).alloc (.cells #[.int .i64 x, .int .i64 y, .int .i64 z] 30)).alloc (.cells #[.int .i64 0, .int .i64 0, .int .i64 0] 30)).alloc (.cells #[.int .i64 0, .int .i64 0, .int .i64 0] 30)) (w.heap.size) 30 [.int .i64 a, .int .i64 b, .int .i64 c] := (((bx_new w [.int .i64 a, .int .i64 b, .int .i64 c] 30).alloc _).alloc _).alloc _
  have K1 : Bx ((((w.alloc (.cells #[.int .i64 a, .int .i64 b, .int .i64 c] 30)).alloc (.cells #[.int .i64 x, .int .i64 y, .int .i64 z] 30)).alloc (.cells #[.int .i64 0, .int .i64 0, .int .i64 0] 30)).alloc (.cells #[.int .i64 0, .int .i64 0, .int .i64 0] 30)) (w.heap.size + 1) 30 [.int .i64 x, .int .i64 y, .int .i64 z] := ((bx_at _ [.int .i64 x, .int .i64 y, .int .i64 z] 30 (by simp)).alloc _).alloc _
  have K2 : Bx ((((w.alloc (.cells #[.int .i64 a, .int .i64 b, .int .i64 c] 30)).alloc (.cells #[.int .i64 x, .int .i64 y, .int .i64 z] 30)).alloc (.cells #[.int .i64 0, .int .i64 0, .int .i64 0] 30)).alloc (.cells #[.int .i64 0, .int .i64 0, .int .i64 0] 30)) (w.heap.size + 1 + 1) 30 [.int .i64 0, .int .i64 0, .int .i64 0] := (bx_at _ [.int .i64 0, .int .i64 0, .int .i64 0] 30 (by simp)).alloc _
  have K3 : Bx ((((w.alloc (.cells #[.int .i64 a, .int .i64 b, .int .i64 c] 30)).alloc (.cells #[.int .i64 x, .int .i64 y, .int .i64 z] 30)).alloc (.cells #[.int .i64 0, .int .i64 0, .int .i64 0] 30)).alloc (.cells #[.int .i64 0, .int .i64 0, .int .i64 0] 30)) (w.heap.size + 1 + 1 + 1) 30 [.int .i64 0, .int .i64 0, .int .i64 0] := bx_at _ [.int .i64 0, .int .i64 0, .int .i64 0] 30 (by simp)
  have B : Below w.heap.size w ((((w.alloc (.cells #[.int .i64 a, .int .i64 b, .int .i64 c] 30)).alloc (.cells #[.int .i64 x, .int .i64 y, .int .i64 z] 30)).alloc (.cells #[.int .i64 0, .int .i64 0, .int .i64 0] 30)).alloc (.cells #[.int .i64 0, .int .i64 0, .int .i64 0] 30)) := (((((Below.refl _ _).alloc (Nat.le_refl _) _).alloc (by simp) _).alloc (by simp; omega) _).alloc (by simp; omega) _)
  have k0_0 := K0.cell (i := 0) rfl
  have k0_1 := K0.cell (i := 1) rfl
  have k0_2 := K0.cell (i := 2) rfl
  have k1_0 := K1.cell (i := 0) rfl
  have k1_1 := K1.cell (i := 1) rfl
  have k1_2 := K1.cell (i := 2) rfl
  have k2_0 := K2.cell (i := 0) rfl
  have k2_1 := K2.cell (i := 1) rfl
  have k2_2 := K2.cell (i := 2) rfl
  have k3_0 := K3.cell (i := 0) rfl
  have k3_1 := K3.cell (i := 1) rfl
  have k3_2 := K3.cell (i := 2) rfl
  have cA0 := fun w => add_any a x w true h0
  simp only [if_true] at cA0
  clear h0
  generalize a + x = s0 at *
  have cA1 := fun w => add_any b y w true h1
  simp only [if_true] at cA1
  clear h1
  generalize b + y = s1 at *
  have cA2 := fun w => add_any c z w true h2
  simp only [if_true] at cA2
  clear h2
  generalize c + z = s2 at *
  have ix0 := fun W => ixe_0 a x b y c z (some ⟨w.heap.size + 1 + 1 + 1, 0, none⟩) (some ⟨w.heap.size + 1 + 1 + 1, 1, none⟩) (some ⟨w.heap.size + 1 + 1 + 1, 2, none⟩) W
  have ix1 := fun W => ixe_1 a x b y c z (some ⟨w.heap.size + 1 + 1 + 1, 0, none⟩) (some ⟨w.heap.size + 1 + 1 + 1, 1, none⟩) (some ⟨w.heap.size + 1 + 1 + 1, 2, none⟩) W
  have ix2 := fun W => ixe_2 a x b y c z (some ⟨w.heap.size + 1 + 1 + 1, 0, none⟩) (some ⟨w.heap.size + 1 + 1 + 1, 1, none⟩) (some ⟨w.heap.size + 1 + 1 + 1, 2, none⟩) W
  go_enter Try.func66, Try.ntmps66
  go_wp2_with (fail)
  generalize hW : ((((w.alloc (.cells #[.int .i64 a, .int .i64 b, .int .i64 c] 30)).alloc (.cells #[.int .i64 x, .int .i64 y, .int .i64 z] 30)).alloc (.cells #[.int .i64 0, .int .i64 0, .int .i64 0] 30)).alloc (.cells #[.int .i64 0, .int .i64 0, .int .i64 0] 30)) = w0 at *
  have hz : w.heap.size + 1 + 1 + 1 + 1 ≤ w0.heap.size := by rw [← hW]; simp
  clear hW
  refine wp_loop_rounds 4 ?_
  rw [rounds_succ]
  have NBn := below_new w0 (.cells #[.int .i64 a, .int .i64 x, .pointer (some ⟨w.heap.size + 1 + 1 + 1, 0, none⟩)] 136)
  have KO0 := bx_new w0 [.int .i64 a, .int .i64 x, .pointer (some ⟨w.heap.size + 1 + 1 + 1, 0, none⟩)] 136
  clear k0_0 k0_1 k0_2 k1_0 k1_1 k1_2 k2_0 k2_1 k2_2 k3_0 k3_1 k3_2
  replace K0 := K0.below NBn
  replace K1 := K1.below NBn
  replace K2 := K2.below NBn
  replace K3 := K3.below NBn
  replace B := below_step B NBn B.size
  clear NBn
  have k0_0 := K0.cell (i := 0) rfl
  have k0_1 := K0.cell (i := 1) rfl
  have k0_2 := K0.cell (i := 2) rfl
  have k1_0 := K1.cell (i := 0) rfl
  have k1_1 := K1.cell (i := 1) rfl
  have k1_2 := K1.cell (i := 2) rfl
  have k2_0 := K2.cell (i := 0) rfl
  have k2_1 := K2.cell (i := 1) rfl
  have k2_2 := K2.cell (i := 2) rfl
  have k3_0 := K3.cell (i := 0) rfl
  have k3_1 := K3.cell (i := 1) rfl
  have k3_2 := K3.cell (i := 2) rfl
  have ko0_0 := KO0.cell (i := 0) rfl
  have ko0_1 := KO0.cell (i := 1) rfl
  have ko0_2 := KO0.cell (i := 2) rfl
  go_wp2_with (fail)
  with_reducible refine (cA0 _).mono ?_
  rintro e w1 ⟨rfl, hb⟩
  clear k0_0 k0_1 k0_2 k1_0 k1_1 k1_2 k2_0 k2_1 k2_2 k3_0 k3_1 k3_2 ko0_0 ko0_1 ko0_2
  replace K0 := K0.below hb
  replace K1 := K1.below hb
  replace K2 := K2.below hb
  replace K3 := K3.below hb
  replace KO0 := KO0.below hb
  replace B := below_step B hb B.size
  clear hb
  have k0_0 := K0.cell (i := 0) rfl
  have k0_1 := K0.cell (i := 1) rfl
  have k0_2 := K0.cell (i := 2) rfl
  have k1_0 := K1.cell (i := 0) rfl
  have k1_1 := K1.cell (i := 1) rfl
  have k1_2 := K1.cell (i := 2) rfl
  have k2_0 := K2.cell (i := 0) rfl
  have k2_1 := K2.cell (i := 1) rfl
  have k2_2 := K2.cell (i := 2) rfl
  have k3_0 := K3.cell (i := 0) rfl
  have k3_1 := K3.cell (i := 1) rfl
  have k3_2 := K3.cell (i := 2) rfl
  have ko0_0 := KO0.cell (i := 0) rfl
  have ko0_1 := KO0.cell (i := 1) rfl
  have ko0_2 := KO0.cell (i := 2) rfl
  clear cA0
  replace hz : w.heap.size + 1 + 1 + 1 + 1 ≤ w1.heap.size := by have := B.size; have := K3.lt; omega
  have fr_0 := K3.fr 0
  go_wp2_with (fail)
  clear fr_0
  clear ko0_0 ko0_1 ko0_2 KO0
  clear k0_0 k0_1 k0_2 k1_0 k1_1 k1_2 k2_0 k2_1 k2_2 k3_0 k3_1 k3_2
  replace K0 := K0.other (q := w.heap.size + 1 + 1 + 1) (by omega) 0 (.int .i64 s0)
  replace K1 := K1.other (q := w.heap.size + 1 + 1 + 1) (by omega) 0 (.int .i64 s0)
  replace K2 := K2.other (q := w.heap.size + 1 + 1 + 1) (by omega) 0 (.int .i64 s0)
  replace K3 := K3.set 0 (.int .i64 s0)
  replace B := B.setCell (p := ⟨w.heap.size + 1 + 1 + 1, 0, none⟩) (by show w.heap.size ≤ w.heap.size + 1 + 1 + 1; omega) (.int .i64 s0)
  generalize (w1.setCell ⟨w.heap.size + 1 + 1 + 1, 0, none⟩ (.int .i64 s0)) = v0 at *
  have k0_0 := K0.cell (i := 0) rfl
  have k0_1 := K0.cell (i := 1) rfl
  have k0_2 := K0.cell (i := 2) rfl
  have k1_0 := K1.cell (i := 0) rfl
  have k1_1 := K1.cell (i := 1) rfl
  have k1_2 := K1.cell (i := 2) rfl
  have k2_0 := K2.cell (i := 0) rfl
  have k2_1 := K2.cell (i := 1) rfl
  have k2_2 := K2.cell (i := 2) rfl
  have k3_0 := K3.cell (i := 0) rfl
  have k3_1 := K3.cell (i := 1) rfl
  have k3_2 := K3.cell (i := 2) rfl
  rw [rounds_succ]
  have NBn := below_new v0 (.cells #[.int .i64 b, .int .i64 y, .pointer (some ⟨w.heap.size + 1 + 1 + 1, 1, none⟩)] 136)
  have KO1 := bx_new v0 [.int .i64 b, .int .i64 y, .pointer (some ⟨w.heap.size + 1 + 1 + 1, 1, none⟩)] 136
  clear k0_0 k0_1 k0_2 k1_0 k1_1 k1_2 k2_0 k2_1 k2_2 k3_0 k3_1 k3_2
  replace K0 := K0.below NBn
  replace K1 := K1.below NBn
  replace K2 := K2.below NBn
  replace K3 := K3.below NBn
  replace B := below_step B NBn B.size
  clear NBn
  have k0_0 := K0.cell (i := 0) rfl
  have k0_1 := K0.cell (i := 1) rfl
  have k0_2 := K0.cell (i := 2) rfl
  have k1_0 := K1.cell (i := 0) rfl
  have k1_1 := K1.cell (i := 1) rfl
  have k1_2 := K1.cell (i := 2) rfl
  have k2_0 := K2.cell (i := 0) rfl
  have k2_1 := K2.cell (i := 1) rfl
  have k2_2 := K2.cell (i := 2) rfl
  have k3_0 := K3.cell (i := 0) rfl
  have k3_1 := K3.cell (i := 1) rfl
  have k3_2 := K3.cell (i := 2) rfl
  have ko1_0 := KO1.cell (i := 0) rfl
  have ko1_1 := KO1.cell (i := 1) rfl
  have ko1_2 := KO1.cell (i := 2) rfl
  go_wp2_with (fail)
  with_reducible refine (cA1 _).mono ?_
  rintro e w2 ⟨rfl, hb⟩
  clear k0_0 k0_1 k0_2 k1_0 k1_1 k1_2 k2_0 k2_1 k2_2 k3_0 k3_1 k3_2 ko1_0 ko1_1 ko1_2
  replace K0 := K0.below hb
  replace K1 := K1.below hb
  replace K2 := K2.below hb
  replace K3 := K3.below hb
  replace KO1 := KO1.below hb
  replace B := below_step B hb B.size
  clear hb
  have k0_0 := K0.cell (i := 0) rfl
  have k0_1 := K0.cell (i := 1) rfl
  have k0_2 := K0.cell (i := 2) rfl
  have k1_0 := K1.cell (i := 0) rfl
  have k1_1 := K1.cell (i := 1) rfl
  have k1_2 := K1.cell (i := 2) rfl
  have k2_0 := K2.cell (i := 0) rfl
  have k2_1 := K2.cell (i := 1) rfl
  have k2_2 := K2.cell (i := 2) rfl
  have k3_0 := K3.cell (i := 0) rfl
  have k3_1 := K3.cell (i := 1) rfl
  have k3_2 := K3.cell (i := 2) rfl
  have ko1_0 := KO1.cell (i := 0) rfl
  have ko1_1 := KO1.cell (i := 1) rfl
  have ko1_2 := KO1.cell (i := 2) rfl
  clear cA1
  replace hz : w.heap.size + 1 + 1 + 1 + 1 ≤ w2.heap.size := by have := B.size; have := K3.lt; omega
  have fr_0 := K3.fr 1
  go_wp2_with (fail)
  clear fr_0
  clear ko1_0 ko1_1 ko1_2 KO1
  clear k0_0 k0_1 k0_2 k1_0 k1_1 k1_2 k2_0 k2_1 k2_2 k3_0 k3_1 k3_2
  replace K0 := K0.other (q := w.heap.size + 1 + 1 + 1) (by omega) 1 (.int .i64 s1)
  replace K1 := K1.other (q := w.heap.size + 1 + 1 + 1) (by omega) 1 (.int .i64 s1)
  replace K2 := K2.other (q := w.heap.size + 1 + 1 + 1) (by omega) 1 (.int .i64 s1)
  replace K3 := K3.set 1 (.int .i64 s1)
  replace B := B.setCell (p := ⟨w.heap.size + 1 + 1 + 1, 1, none⟩) (by show w.heap.size ≤ w.heap.size + 1 + 1 + 1; omega) (.int .i64 s1)
  generalize (w2.setCell ⟨w.heap.size + 1 + 1 + 1, 1, none⟩ (.int .i64 s1)) = v1 at *
  have k0_0 := K0.cell (i := 0) rfl
  have k0_1 := K0.cell (i := 1) rfl
  have k0_2 := K0.cell (i := 2) rfl
  have k1_0 := K1.cell (i := 0) rfl
  have k1_1 := K1.cell (i := 1) rfl
  have k1_2 := K1.cell (i := 2) rfl
  have k2_0 := K2.cell (i := 0) rfl
  have k2_1 := K2.cell (i := 1) rfl
  have k2_2 := K2.cell (i := 2) rfl
  have k3_0 := K3.cell (i := 0) rfl
  have k3_1 := K3.cell (i := 1) rfl
  have k3_2 := K3.cell (i := 2) rfl
  rw [rounds_succ]
  have NBn := below_new v1 (.cells #[.int .i64 c, .int .i64 z, .pointer (some ⟨w.heap.size + 1 + 1 + 1, 2, none⟩)] 136)
  have KO2 := bx_new v1 [.int .i64 c, .int .i64 z, .pointer (some ⟨w.heap.size + 1 + 1 + 1, 2, none⟩)] 136
  clear k0_0 k0_1 k0_2 k1_0 k1_1 k1_2 k2_0 k2_1 k2_2 k3_0 k3_1 k3_2
  replace K0 := K0.below NBn
  replace K1 := K1.below NBn
  replace K2 := K2.below NBn
  replace K3 := K3.below NBn
  replace B := below_step B NBn B.size
  clear NBn
  have k0_0 := K0.cell (i := 0) rfl
  have k0_1 := K0.cell (i := 1) rfl
  have k0_2 := K0.cell (i := 2) rfl
  have k1_0 := K1.cell (i := 0) rfl
  have k1_1 := K1.cell (i := 1) rfl
  have k1_2 := K1.cell (i := 2) rfl
  have k2_0 := K2.cell (i := 0) rfl
  have k2_1 := K2.cell (i := 1) rfl
  have k2_2 := K2.cell (i := 2) rfl
  have k3_0 := K3.cell (i := 0) rfl
  have k3_1 := K3.cell (i := 1) rfl
  have k3_2 := K3.cell (i := 2) rfl
  have ko2_0 := KO2.cell (i := 0) rfl
  have ko2_1 := KO2.cell (i := 1) rfl
  have ko2_2 := KO2.cell (i := 2) rfl
  go_wp2_with (fail)
  with_reducible refine (cA2 _).mono ?_
  rintro e w3 ⟨rfl, hb⟩
  clear k0_0 k0_1 k0_2 k1_0 k1_1 k1_2 k2_0 k2_1 k2_2 k3_0 k3_1 k3_2 ko2_0 ko2_1 ko2_2
  replace K0 := K0.below hb
  replace K1 := K1.below hb
  replace K2 := K2.below hb
  replace K3 := K3.below hb
  replace KO2 := KO2.below hb
  replace B := below_step B hb B.size
  clear hb
  have k0_0 := K0.cell (i := 0) rfl
  have k0_1 := K0.cell (i := 1) rfl
  have k0_2 := K0.cell (i := 2) rfl
  have k1_0 := K1.cell (i := 0) rfl
  have k1_1 := K1.cell (i := 1) rfl
  have k1_2 := K1.cell (i := 2) rfl
  have k2_0 := K2.cell (i := 0) rfl
  have k2_1 := K2.cell (i := 1) rfl
  have k2_2 := K2.cell (i := 2) rfl
  have k3_0 := K3.cell (i := 0) rfl
  have k3_1 := K3.cell (i := 1) rfl
  have k3_2 := K3.cell (i := 2) rfl
  have ko2_0 := KO2.cell (i := 0) rfl
  have ko2_1 := KO2.cell (i := 1) rfl
  have ko2_2 := KO2.cell (i := 2) rfl
  clear cA2
  replace hz : w.heap.size + 1 + 1 + 1 + 1 ≤ w3.heap.size := by have := B.size; have := K3.lt; omega
  have fr_0 := K3.fr 2
  go_wp2_with (fail)
  clear fr_0
  clear ko2_0 ko2_1 ko2_2 KO2
  clear k0_0 k0_1 k0_2 k1_0 k1_1 k1_2 k2_0 k2_1 k2_2 k3_0 k3_1 k3_2
  replace K0 := K0.other (q := w.heap.size + 1 + 1 + 1) (by omega) 2 (.int .i64 s2)
  replace K1 := K1.other (q := w.heap.size + 1 + 1 + 1) (by omega) 2 (.int .i64 s2)
  replace K2 := K2.other (q := w.heap.size + 1 + 1 + 1) (by omega) 2 (.int .i64 s2)
  replace K3 := K3.set 2 (.int .i64 s2)
  replace B := B.setCell (p := ⟨w.heap.size + 1 + 1 + 1, 2, none⟩) (by show w.heap.size ≤ w.heap.size + 1 + 1 + 1; omega) (.int .i64 s2)
  generalize (w3.setCell ⟨w.heap.size + 1 + 1 + 1, 2, none⟩ (.int .i64 s2)) = v2 at *
  have k0_0 := K0.cell (i := 0) rfl
  have k0_1 := K0.cell (i := 1) rfl
  have k0_2 := K0.cell (i := 2) rfl
  have k1_0 := K1.cell (i := 0) rfl
  have k1_1 := K1.cell (i := 1) rfl
  have k1_2 := K1.cell (i := 2) rfl
  have k2_0 := K2.cell (i := 0) rfl
  have k2_1 := K2.cell (i := 1) rfl
  have k2_2 := K2.cell (i := 2) rfl
  have k3_0 := K3.cell (i := 0) rfl
  have k3_1 := K3.cell (i := 1) rfl
  have k3_2 := K3.cell (i := 2) rfl
  rw [rounds_succ]
  have gr_0 := K2.fr 0
  have gr_1 := K2.fr 1
  have gr_2 := K2.fr 2
  have Z := ((K2.set 0 (.int .i64 s0)).set 1 (.int .i64 s1)).set 2 (.int .i64 s2)
  have z0 := Z.cell (i := 0) rfl
  have z1 := Z.cell (i := 1) rfl
  have z2 := Z.cell (i := 2) rfl
  have hp : w.heap.size ≤ w.heap.size + 1 + 1 := by omega
  clear Z
  go_wp2
  exact bodyPost_ret (v := .tuple #[.agg #[.int .i64 s0, .int .i64 s1, .int .i64 s2], .int .i64 0]) (by simp [results, Try.results66, go_sem, z0, z1, z2]) rfl ⟨rfl, ((B.setCell (p := ⟨w.heap.size + 1 + 1, 0, none⟩) hp _).setCell (p := ⟨w.heap.size + 1 + 1, 1, none⟩) hp _).setCell (p := ⟨w.heap.size + 1 + 1, 2, none⟩) hp _⟩
end Go.Proofs.Ytfnjhalpedccaaa
