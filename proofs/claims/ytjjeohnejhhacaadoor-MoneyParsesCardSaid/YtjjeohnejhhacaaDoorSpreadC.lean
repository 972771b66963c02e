/- What money.Spread answers of one whole by three alike weights. -/
import Derived.Test.YtjjeohnejhhacaaDoorSpreadB
import Derived.Outline
namespace Go.Proofs.YtjjeohnejhhacaaDoor
open Go.RowKit Go.Sort
set_option linter.unusedVariables false

theorem weigh_three (A : Option Addr) (c : Nat) (w : World) (h : rowAt w A 3 fun _ => .int .i64 1) :
    Calls Tryd.prog 44 #[.slice A 3 c] w fun e w' => e = .returned (.tuple #[.int .i64 3, .int .i64 0]) ∧ w = w' := by
  obtain ⟨b, o, rfl, hc⟩ := h (by omega)
  have h0 : w.cell? ⟨b, o, none⟩ = some (.int .i64 1) := hc 0 (by omega)
  have h1 := hc 1 (by omega)
  have h2 := hc 2 (by omega)
  clear hc h
  go_enter Tryd.func44, Tryd.ntmps44
  go_wp2
  refine wp_loop_rounds 4 ?_
  rw [rounds_succ]
  go_wp2
  rw [rounds_succ]
  go_wp2
  rw [rounds_succ]
  go_wp2
  rw [rounds_succ]
  go_wp2
  go_ret2
  exact ⟨rfl, rfl⟩
theorem cell_row (w : World) (b o : Nat) (h : w.cell? ⟨b, o, none⟩ = some (.int .i64 1)) (h1 : w.cell? ⟨b, o + 1, none⟩ = some (.int .i64 1)) (h2 : w.cell? ⟨b, o + 2, none⟩ = some (.int .i64 1)) :
    rowAt w (some ⟨b, o, none⟩) 3 fun _ => .int .i64 1 := fun _ => ⟨b, o, rfl, fun i hi => by
  have : i = 0 ∨ i = 1 ∨ i = 2 := by omega
  rcases this with rfl | rfl | rfl
  · exact h
  · exact h1
  · exact h2⟩
theorem thirds (w : World) (n i : Nat) (hi : i < 3) : ((((((w.alloc (.cells #[.int .i64 100] 2)).alloc (.cells #[.int .i64 33, .int .i64 33, .int .i64 33] 2)).alloc (.cells #[.int .i64 1, .int .i64 1, .int .i64 1] 2)).alloc (.cells #[.slice (some ⟨w.heap.size + 1 + 1, 0, none⟩) 3 3] 30)).alloc (.cells #[.int .i64 0, .int .i64 1, .int .i64 2] 3)).drewN n).cell? ⟨w.heap.size + 1, i, none⟩ = some (.int .i64 33) := by
  have e : ∀ (w : World) (n : Nat) (a : Addr), (w.drewN n).cell? a = w.cell? a := fun _ _ _ => rfl
  have s1 : (w.alloc (.cells #[.int .i64 100] 2)).heap.size = w.heap.size + 1 := World.size_alloc _ _
  rw [e, World.cell?_alloc_lt _ _ _ (by simp [World.size_alloc]), World.cell?_alloc_lt _ _ _ (by simp [World.size_alloc]), World.cell?_alloc_lt _ _ _ (by simp [World.size_alloc]), ← s1]
  have : i = 0 ∨ i = 1 ∨ i = 2 := by omega
  rcases this with rfl | rfl | rfl <;> simp
theorem ends_three (w Y : World) (h : Below w.heap.size w Y) (c0 : Y.cell? ⟨w.heap.size + 1, 0, none⟩ = some (.int .i64 33)) (c1 : Y.cell? ⟨w.heap.size + 1, 1, none⟩ = some (.int .i64 33)) (c2 : Y.cell? ⟨w.heap.size + 1, 2, none⟩ = some (.int .i64 33)) :
    Below w.heap.size w ((((Y.setCell ⟨w.heap.size + 1, 0, none⟩ (.int .i64 34)).setCell ⟨w.heap.size + 1, 0, none⟩ (.int .i64 34)).setCell ⟨w.heap.size + 1, 1, none⟩ (.int .i64 33)).setCell ⟨w.heap.size + 1, 2, none⟩ (.int .i64 33)) ∧
    ((((Y.setCell ⟨w.heap.size + 1, 0, none⟩ (.int .i64 34)).setCell ⟨w.heap.size + 1, 0, none⟩ (.int .i64 34)).setCell ⟨w.heap.size + 1, 1, none⟩ (.int .i64 33)).setCell ⟨w.heap.size + 1, 2, none⟩ (.int .i64 33)).cell? ⟨w.heap.size + 1, 0, none⟩ = some (.int .i64 34) ∧
    ((((Y.setCell ⟨w.heap.size + 1, 0, none⟩ (.int .i64 34)).setCell ⟨w.heap.size + 1, 0, none⟩ (.int .i64 34)).setCell ⟨w.heap.size + 1, 1, none⟩ (.int .i64 33)).setCell ⟨w.heap.size + 1, 2, none⟩ (.int .i64 33)).cell? ⟨w.heap.size + 1, 1, none⟩ = some (.int .i64 33) ∧
    ((((Y.setCell ⟨w.heap.size + 1, 0, none⟩ (.int .i64 34)).setCell ⟨w.heap.size + 1, 0, none⟩ (.int .i64 34)).setCell ⟨w.heap.size + 1, 1, none⟩ (.int .i64 33)).setCell ⟨w.heap.size + 1, 2, none⟩ (.int .i64 33)).cell? ⟨w.heap.size + 1, 2, none⟩ = some (.int .i64 33) := by
  have n01 : (⟨w.heap.size + 1, 0, none⟩ : Addr) ≠ ⟨w.heap.size + 1, 1, none⟩ := by simp
  have n02 : (⟨w.heap.size + 1, 0, none⟩ : Addr) ≠ ⟨w.heap.size + 1, 2, none⟩ := by simp
  have n12 : (⟨w.heap.size + 1, 1, none⟩ : Addr) ≠ ⟨w.heap.size + 1, 2, none⟩ := by simp
  refine ⟨(((h.setCell (Nat.le_succ _) _).setCell (Nat.le_succ _) _).setCell (Nat.le_succ _) _).setCell (Nat.le_succ _) _, ?_, ?_, ?_⟩
  · rw [World.cell?_setCell_other _ _ _ _ n02.symm, World.cell?_setCell_other _ _ _ _ n01.symm]
    exact World.cell?_setCell_same _ _ _ (World.cell?_setCell_same _ _ _ c0)
  · rw [World.cell?_setCell_other _ _ _ _ n12.symm]
    exact World.cell?_setCell_same _ _ _ ((World.cell?_setCell_other _ _ _ _ n01).trans ((World.cell?_setCell_other _ _ _ _ n01).trans c1))
  · exact World.cell?_setCell_same _ _ _ ((World.cell?_setCell_other _ _ _ _ n12).trans ((World.cell?_setCell_other _ _ _ _ n02).trans ((World.cell?_setCell_other _ _ _ _ n02).trans c2)))
theorem cell_ones (w : World) : ∀ i, i < 3 → (w.alloc (.cells #[.int .i64 1, .int .i64 1, .int .i64 1] 2)).cell? ⟨w.heap.size, 0 + i, none⟩ = some (.int .i64 1) := fun i hi => by
  have : i = 0 ∨ i = 1 ∨ i = 2 := by omega
  rcases this with rfl | rfl | rfl <;> simp
theorem hN (w : World) : Calls Tryd.prog 45 #[.slice (some ⟨w.heap.size + 1 + 1, 0, none⟩) 3 3] (((w.alloc (.cells #[.int .i64 100] 2)).alloc (.cells #[.int .i64 33, .int .i64 33, .int .i64 33] 2)).alloc (.cells #[.int .i64 1, .int .i64 1, .int .i64 1] 2)).drew.drew.drew
    fun e w' => e = .returned (.slice (some ⟨w.heap.size + 1 + 1 + 1 + 1, 0, none⟩) 3 3) ∧ ∃ n, w' = (((((w.alloc (.cells #[.int .i64 100] 2)).alloc (.cells #[.int .i64 33, .int .i64 33, .int .i64 33] 2)).alloc (.cells #[.int .i64 1, .int .i64 1, .int .i64 1] 2)).alloc (.cells #[.slice (some ⟨w.heap.size + 1 + 1, 0, none⟩) 3 3] 30)).alloc (.cells #[.int .i64 0, .int .i64 1, .int .i64 2] 3)).drewN n := by
  have hW := cell_ones ((w.alloc (.cells #[.int .i64 100] 2)).alloc (.cells #[.int .i64 33, .int .i64 33, .int .i64 33] 2))
  rw [World.size_alloc, World.size_alloc] at hW
  have h := neediest_three (w.heap.size + 1 + 1) (((w.alloc (.cells #[.int .i64 100] 2)).alloc (.cells #[.int .i64 33, .int .i64 33, .int .i64 33] 2)).alloc (.cells #[.int .i64 1, .int .i64 1, .int .i64 1] 2)).drew.drew.drew (fun i hi => hW i hi) (Nat.lt_of_lt_of_eq (Nat.lt_succ_self _) (show _ = (((w.alloc _).alloc _).alloc _).heap.size by rw [World.size_alloc, World.size_alloc, World.size_alloc]))
  refine h.mono ?_
  rintro e w' ⟨rfl, n, rfl⟩
  exact ⟨by simp, 3 + n, by rw [← World.drewN_drewN]; rfl⟩
set_option maxRecDepth 100000 in
set_option maxHeartbeats 2000000 in
theorem spread_three (A : Option Addr) (c : Nat) (w : World) (h : rowAt w A 3 fun _ => .int .i64 1) :
    Calls Tryd.prog 26 #[.int .i64 100, .slice A 3 c] w fun e w' => ∃ B, e = .returned (.tuple #[.slice (some ⟨B, 0, none⟩) 3 3, .int .i64 0]) ∧ Below w.heap.size w w' ∧
      w'.cell? ⟨B, 0, none⟩ = some (.int .i64 34) ∧ w'.cell? ⟨B, 1, none⟩ = some (.int .i64 33) ∧ w'.cell? ⟨B, 2, none⟩ = some (.int .i64 33) := by
  have hmk : ∀ w : World, (Instr.makeSlice 30 (.int .i64 3) (.int .i64 3)).run Tryd.prog w = .ok (.slice (some ⟨w.heap.size, 0, none⟩) 3 3) (w.alloc (.cells #[.int .i64 0, .int .i64 0, .int .i64 0] 2)) := fun _ => by kernel_rfl
  obtain ⟨b, o, rfl, hc⟩ := h (by omega)
  have h0 : w.cell? ⟨b, o, none⟩ = some (.int .i64 1) := hc 0 (by omega)
  have h1 := hc 1 (by omega)
  have h2 := hc 2 (by omega)
  clear hc h
  have hR := right1 100 w 2 true rfl
  go_enter Tryd.func26, Tryd.ntmps26
  go_wp2_with (fail)
  refine hR.mono ?_
  rintro e w' ⟨rfl, rfl⟩
  go_wp2_with (fail)
  have hb : Below w.heap.size w (w.alloc (.cells #[.int .i64 100] 2)) := (Below.refl _ _).alloc (Nat.le_refl _) _
  refine (weigh_three _ _ _ (cell_row _ _ _ (cell_later hb h0) (cell_later hb h1) (cell_later hb h2))).mono ?_
  rintro e w' ⟨rfl, rfl⟩
  clear hR hb
  have hlt : b < w.heap.size := World.block_lt_of_cell? w _ h0
  have g : ∀ (k : Nat) (x y z : Obj), w.cell? ⟨b, k, none⟩ = some (.int .i64 1) → (((w.alloc x).alloc y).alloc z).cell? ⟨b, k, none⟩ = some (.int .i64 1) := fun k x y z hk => by
    rw [World.cell?_alloc_lt _ _ _ (by rw [World.size_alloc, World.size_alloc]; exact Nat.lt_of_lt_of_le hlt (by omega)), World.cell?_alloc_lt _ _ _ (by rw [World.size_alloc]; exact Nat.lt_of_lt_of_le hlt (by omega)), World.cell?_alloc_lt _ _ _ hlt]
    exact hk
  have g0 := fun x y z => g _ x y z h0
  have g1 := fun x y z => g _ x y z h1
  have g2 := fun x y z => g _ x y z h2
  clear g
  go_wp2
  refine wp_loop_rounds 4 ?_
  rw [rounds_succ]
  go_wp2
  go_region
  go_wp2
  rw [rounds_succ]
  go_wp2
  go_region
  go_wp2
  rw [rounds_succ]
  go_wp2
  go_region
  go_wp2
  rw [rounds_succ]
  go_wp2_with (fail)
  refine (hN w).mono ?_
  rintro e w' ⟨rfl, n, rfl⟩
  clear g0 g1 g2 h0 h1 h2
  go_wp2
  refine wp_loop_rounds 2 ?_
  rw [rounds_succ]
  go_wp2
  rw [rounds_succ]
  go_wp2
  refine wp_loop_rounds 4 ?_
  rw [rounds_succ]
  go_wp2
  rw [rounds_succ]
  go_wp2
  rw [rounds_succ]
  go_wp2
  rw [rounds_succ]
  go_wp2
  go_ret2
  refine ⟨w.heap.size + 1, rfl, ?_⟩
  exact ends_three w _ (below_drewN ((((((Below.refl _ _).alloc (Nat.le_refl _) _).alloc (by rw [World.size_alloc]; omega) _).alloc (by rw [World.size_alloc, World.size_alloc]; omega) _).alloc (by rw [World.size_alloc, World.size_alloc, World.size_alloc]; omega) _).alloc (by rw [World.size_alloc, World.size_alloc, World.size_alloc, World.size_alloc]; omega) _) _)
      (thirds w n 0 (by omega)) (thirds w n 1 (by omega)) (thirds w n 2 (by omega))
end Go.Proofs.YtjjeohnejhhacaaDoor
