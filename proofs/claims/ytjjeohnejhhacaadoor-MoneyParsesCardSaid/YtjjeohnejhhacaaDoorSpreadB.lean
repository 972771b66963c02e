/- The order of the neediest of three alike rests. -/
import Derived.Test.YtjjeohnejhhacaaDoorSpreadA
namespace Go.Proofs.YtjjeohnejhhacaaDoor
open Go.RowKit Go.Sort
set_option linter.unusedVariables false

def enc3 (i : Fin 3) : Value := .int .i64 (i.val : Int)
def three : Array (Fin 3) := #[0, 1, 2]
theorem three_sorted : Sort.insertionSort (ltOf fun _ _ => 0) three 0 3 = three := by kernel_rfl
theorem cell_sortWorld (W : World) (blk off n : Nat) (dk : Array (Fin 3)) (os : Array Obj) (a : Addr) (h1 : a.block ≠ blk) (h2 : a.block < W.heap.size) : (sortWorld enc3 W blk off n dk os).cell? a = W.cell? a := by
  unfold sortWorld
  rw [cell?_grow _ _ _ (by rw [size_putRow]; exact h2), cell?_putRow_other enc3 _ blk off dk a (Or.inl h1)]
  rfl
section
variable (Bw R blk : Nat) (w : World) (hB : w.cell? ⟨Bw, 0, none⟩ = some (.slice (some ⟨R, 0, none⟩) 3 3)) (hR : ∀ i, i < 3 → w.cell? ⟨R, 0 + i, none⟩ = some (.int .i64 1))
  (h1 : Bw ≠ blk) (h2 : R ≠ blk) (h3 : Bw < w.heap.size) (h4 : R < w.heap.size) (hH : Holds enc3 w blk 0 three)
include hB hR h1 h2 h3 h4 hH
theorem insertion_three : Calls Tryd.prog 79 #[.slice (some ⟨blk, 0, none⟩) 3 3, .int .i64 0, .int .i64 3, .func (.func 55) #[] #[.pointer (some ⟨Bw, 0, none⟩)]] w fun e w' => e = .returned (.tuple #[]) ∧ ∃ n, w' = w.drewN n := by
  have := Tryd.insertionSortCmpFunc_one enc3 (fun _ => rfl) (fun _ _ => 0) 55 #[.pointer (some ⟨Bw, 0, none⟩)] blk 0 3 0 3 three w (fun _ _ => by kernel_rfl) ?_ hH (by decide) (by decide) (by decide)
  · refine this.mono ?_
    rintro e w' ⟨rfl, n, rfl⟩
    rw [three_sorted, putRow_self enc3 w blk 0 three hH]
    exact ⟨rfl, n, rfl⟩
  · intro m os dk hs x y
    have c1 := cell_sortWorld w blk 0 m dk os ⟨Bw, 0, none⟩ h1 h3
    have c2 := fun i => cell_sortWorld w blk 0 m dk os ⟨R, 0 + i, none⟩ h2 h4
    exact needier Bw R 0 3 3 (fun _ => 1) x.val y.val _ (c1.trans hB) x.isLt y.isLt (by omega) ((c2 _).trans (hR _ x.isLt)) ((c2 _).trans (hR _ y.isLt))
theorem stable_three : Calls Tryd.prog 65 #[.slice (some ⟨blk, 0, none⟩) 3 3, .int .i64 3, .func (.func 55) #[] #[.pointer (some ⟨Bw, 0, none⟩)]] w fun e w' => e = .returned (.tuple #[]) ∧ ∃ n, w' = w.drewN n := by
  have hI := insertion_three Bw R blk w hB hR h1 h2 h3 h4 hH
  clear hB hR h1 h2 h3 h4 hH
  go_enter Tryd.func65, Tryd.ntmps65
  go_wp2
  refine wp_loop_rounds 1 ?_
  rw [rounds_succ]
  go_wp2_with (fail)
  refine hI.mono ?_
  rintro e w' ⟨rfl, n, rfl⟩
  go_wp2
  refine wp_loop_rounds 1 ?_
  rw [rounds_succ]
  go_wp2
  go_end0
  exact ⟨rfl, _, rfl⟩
theorem sort_three : Calls Tryd.prog 54 #[.slice (some ⟨blk, 0, none⟩) 3 3, .func (.func 55) #[] #[.pointer (some ⟨Bw, 0, none⟩)]] w fun e w' => e = .returned (.tuple #[]) ∧ ∃ n, w' = w.drewN n := by
  have hI := stable_three Bw R blk w hB hR h1 h2 h3 h4 hH
  clear hB hR h1 h2 h3 h4 hH
  go_enter Tryd.func54, Tryd.ntmps54
  go_wp2_with (fail)
  refine hI.mono ?_
  rintro e w' ⟨rfl, n, rfl⟩
  go_wp2
  go_end0
  exact ⟨rfl, _, rfl⟩
end
theorem holds_new (w : World) : Holds enc3 (w.alloc (.cells #[.int .i64 0, .int .i64 1, .int .i64 2] 3)) w.heap.size 0 three := fun j hj => by
  have hj : j < 3 := hj
  have : j = 0 ∨ j = 1 ∨ j = 2 := by omega
  rcases this with rfl | rfl | rfl <;> exact ⟨by simp [World.cell?_alloc_new, three, enc3] <;> rfl, by simp [World.frozen?_alloc_new]⟩
theorem neediest_three (R : Nat) (w : World) (hR : ∀ i, i < 3 → w.cell? ⟨R, 0 + i, none⟩ = some (.int .i64 1)) (h4 : R < w.heap.size) :
    Calls Tryd.prog 45 #[.slice (some ⟨R, 0, none⟩) 3 3] w fun e w' => e = .returned (.slice (some ⟨w.heap.size + 1, 0, none⟩) 3 3) ∧ ∃ n, w' = ((w.alloc (.cells #[.slice (some ⟨R, 0, none⟩) 3 3] 30)).alloc (.cells #[.int .i64 0, .int .i64 1, .int .i64 2] 3)).drewN n := by
  have hmk : ∀ w : World, (Instr.makeSlice 50 (.int .i64 3) (.int .i64 3)).run Tryd.prog w = .ok (.slice (some ⟨w.heap.size, 0, none⟩) 3 3) (w.alloc (.cells #[.int .i64 0, .int .i64 0, .int .i64 0] 3)) := fun _ => by kernel_rfl
  have hmf : ∀ (fn : Fn) (first cap : Array Value) (w : World), (Instr.makeFunc fn first cap).run Tryd.prog w = .ok (.func fn first cap) w := fun _ _ _ _ => rfl
  have hh := holds_new (w.alloc (.cells #[.slice (some ⟨R, 0, none⟩) 3 3] 30))
  rw [World.size_alloc] at hh
  have hS := sort_three w.heap.size R (w.heap.size + 1) ((w.alloc (.cells #[.slice (some ⟨R, 0, none⟩) 3 3] 30)).alloc (.cells #[.int .i64 0, .int .i64 1, .int .i64 2] 3)) ?_ ?_ (by omega) (by omega) (by rw [World.size_alloc, World.size_alloc]; omega) (by rw [World.size_alloc, World.size_alloc]; omega) hh
  · clear hh hR
    go_enter Tryd.func45, Tryd.ntmps45
    go_wp2
    refine wp_loop_rounds 4 ?_
    rw [rounds_succ]
    go_wp2
    rw [rounds_succ]
    go_wp2
    rw [rounds_succ]
    go_wp2
    rw [rounds_succ]
    go_wp2_with (fail)
    refine hS.mono ?_
    rintro e w' ⟨rfl, n, rfl⟩
    go_wp2
    go_ret
    exact ⟨rfl, _, rfl⟩
  · rw [World.cell?_alloc_lt _ _ _ (by rw [World.size_alloc]; exact Nat.lt_succ_self _)]
    simp [World.cell?_alloc_new]
  · intro i hi
    rw [World.cell?_alloc_lt _ _ _ (by rw [World.size_alloc]; simp; omega), World.cell?_alloc_lt _ _ _ (by simpa using h4)]
    exact hR i hi
end Go.Proofs.YtjjeohnejhhacaaDoor
