/- What is held of memory in codes' laws: a code, and a part of the year. -/
import Derived.Test.YthndkplmhpbgdaaDoorCodG
namespace Go.Proofs.YthndkplmhpbgdaaDoor
open Go.RowKit
set_option linter.unusedVariables false

def KC (w : World) (s k a f : Int) (x : Bool) (n d : Int) (W : World) : Prop := Below w.heap.size w W ∧ Cb W w.heap.size s k a f x ∧ W.cell? ⟨w.heap.size + 1, 0, none⟩ = some (.int .i64 n) ∧ W.cell? ⟨w.heap.size + 1, 1, none⟩ = some (.int .i64 d) ∧ w.heap.size + 1 < W.heap.size ∧ Tab W
theorem KC.step {w W W' : World} {s k a f n d : Int} {x : Bool} (h : KC w s k a f x n d W) (hb : Below W.heap.size W W') : KC w s k a f x n d W' := by
  obtain ⟨B, C, h0, h1, hz, T⟩ := h
  exact ⟨below_step B hb B.size, C.step hb, (hb.cell (p := ⟨w.heap.size + 1, 0, none⟩) hz).trans h0, (hb.cell (p := ⟨w.heap.size + 1, 1, none⟩) hz).trans h1, by have := hb.size; omega, T.below hb⟩
theorem kc_new (w : World) (s k a f n d : Int) (x : Bool) (D : Tab w) : KC w s k a f x n d ((w.alloc (.cells #[.int .i64 s, .int .i64 k, .int .i64 a, .int .i64 f, .bool x] 41)).alloc (.cells #[.int .i64 n, .int .i64 d] 54)) := by
  have C := cb_new w s k a f x 41
  have B := below_new w (.cells #[.int .i64 s, .int .i64 k, .int .i64 a, .int .i64 f, .bool x] 41)
  have hz : (w.alloc (.cells #[.int .i64 s, .int .i64 k, .int .i64 a, .int .i64 f, .bool x] 41)).heap.size = w.heap.size + 1 := by simp
  have T := D.below B
  generalize w.alloc (.cells #[.int .i64 s, .int .i64 k, .int .i64 a, .int .i64 f, .bool x] 41) = v at *
  have B2 := below_new v (.cells #[.int .i64 n, .int .i64 d] 54)
  refine ⟨below_step B B2 B.size, C.step B2, ?_, ?_, by simp; omega, T.below B2⟩ <;> (rw [← hz]; simp [World.cell?_alloc_new])
theorem KC.drewN {w W : World} {s k a f n d : Int} {x : Bool} (h : KC w s k a f x n d W) (j : Nat) : KC w s k a f x n d (W.drewN j) := h.step (below_drewN (Below.refl _ _) _)
end Go.Proofs.YthndkplmhpbgdaaDoor
