/- What the calls of code answer that look at a code: counted, fits, Check. -/
import Derived.Test.YthknjpmhomjobaaGreatDoorCod
import Derived.Test.YthknjpmhomjobaaGreatDoorAmtC
namespace Go.Proofs.YthknjpmhomjobaaGreatDoor
open Go.RowKit
set_option linter.unusedVariables false

/-- a code in its place -/
def Cd (w : World) (b : Nat) (s k a f : Int) (x : Bool) : Prop := w.cell? ⟨b, 0, none⟩ = some (.int .i64 s) ∧ w.cell? ⟨b, 1, none⟩ = some (.int .i64 k) ∧ w.cell? ⟨b, 2, none⟩ = some (.int .i64 a) ∧ w.cell? ⟨b, 3, none⟩ = some (.int .i64 f) ∧ w.cell? ⟨b, 4, none⟩ = some (.bool x)
theorem cd_new (w : World) (s k a f : Int) (x : Bool) (t : TypeId) : Cd (w.alloc (.cells #[.int .i64 s, .int .i64 k, .int .i64 a, .int .i64 f, .bool x] t)) w.heap.size s k a f x := by
  refine ⟨?_, ?_, ?_, ?_, ?_⟩ <;> simp [World.cell?_alloc_new]
theorem Cd.below {w w' : World} {b B : Nat} {s k a f : Int} {x : Bool} (h : Cd w b s k a f x) (hb : Below B w w') (hB : b < B) : Cd w' b s k a f x := by
  obtain ⟨h0, h1, h2, h3, h4⟩ := h
  exact ⟨(hb.cell (p := ⟨b, 0, none⟩) hB).trans h0, (hb.cell (p := ⟨b, 1, none⟩) hB).trans h1, (hb.cell (p := ⟨b, 2, none⟩) hB).trans h2, (hb.cell (p := ⟨b, 3, none⟩) hB).trans h3, (hb.cell (p := ⟨b, 4, none⟩) hB).trans h4⟩
end Go.Proofs.YthknjpmhomjobaaGreatDoor
