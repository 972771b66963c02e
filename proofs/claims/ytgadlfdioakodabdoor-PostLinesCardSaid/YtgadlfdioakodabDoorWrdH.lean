/- The first call of all of words' laws. -/
import Derived.Test.YtgadlfdioakodabDoorWrdG
namespace Go.Proofs.YtgadlfdioakodabDoor
open Go.RowKit
set_option linter.unusedVariables false
set_option linter.unusedSimpArgs false

/-- a cell that is older than what comes -/
def At (W : World) (b o : Nat) (x : Value) : Prop := W.cell? ⟨b, o, none⟩ = some x ∧ b < W.heap.size
theorem At.step {W W' : World} {b o : Nat} {x : Value} (h : At W b o x) (hb : Below W.heap.size W W') : At W' b o x := ⟨(hb.cell (p := ⟨b, o, none⟩) h.2).trans h.1, by have := hb.size; have := h.2; omega⟩
theorem below_new2 (w : World) (o : Obj) : Below w.heap.size w (w.alloc o) := (Below.refl _ _).alloc (Nat.le_refl _) _
theorem row_threeQ (w : World) (x y z : List UInt8) (t : TypeId) : rowAt (w.alloc (.cells #[.string ⟨x.toArray⟩, .string ⟨y.toArray⟩, .string ⟨z.toArray⟩] t)) (some ⟨w.heap.size, 0, none⟩) 3 fun i => sv (([x, y, z] : List (List UInt8)).getD i []) := fun _ =>
  ⟨_, _, rfl, fun i hi => by
    have : i = 0 ∨ i = 1 ∨ i = 2 := by omega
    rcases this with rfl | rfl | rfl <;> simp [World.cell?_alloc_new, sv]⟩
end Go.Proofs.YtgadlfdioakodabDoor
