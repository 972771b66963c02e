/- A block of memory by all its cells, and what stores and later calls leave of it. -/
import Derived.Test.YthknjpmhomjobaaGreatDoorRight
namespace Go.Proofs.YthknjpmhomjobaaGreatDoor
open Go.RowKit

/-- the block p is just these cells -/
def Bx (W : World) (p : Nat) (t : TypeId) (l : List Value) : Prop := W.heap[p]? = some (.cells l.toArray t (0, 0))
namespace Bx
variable {W W' : World} {p : Nat} {t : TypeId} {l : List Value}
theorem lt (h : Bx W p t l) : p < W.heap.size := (Array.getElem?_eq_some_iff.1 h).1
theorem cell (h : Bx W p t l) {i : Nat} {v : Value} (hi : l[i]? = some v) : W.cell? ⟨p, i, none⟩ = some v := by
  have h' : W.heap[p]? = _ := h
  simp [World.cell?, h', hi]
theorem fr (h : Bx W p t l) (i : Nat) : W.frozen? ⟨p, i, none⟩ = false := by
  have h' : W.heap[p]? = _ := h
  simp [World.frozen?, h']
theorem of_block (h : Bx W p t l) (e : W'.heap[p]? = W.heap[p]?) : Bx W' p t l := e.trans h
theorem below (h : Bx W p t l) (hb : Below W.heap.size W W') : Bx W' p t l := h.of_block (hb.block _ h.lt)
theorem under {B : Nat} (h : Bx W p t l) (hb : Below B W W') (hp : p < B) : Bx W' p t l := h.of_block (hb.block _ hp)
theorem set (h : Bx W p t l) (i : Nat) (x : Value) : Bx (W.setCell ⟨p, i, none⟩ x) p t (l.set i x) := by
  have h' : W.heap[p]? = _ := h
  have hlt := h.lt
  simp [Bx, World.setCell, Array.getElem?_modify, h']
theorem other (h : Bx W p t l) {q : Nat} (hq : q ≠ p) (i : Nat) (x : Value) : Bx (W.setCell ⟨q, i, none⟩ x) p t l := by
  have h' : W.heap[p]? = _ := h
  simp [Bx, World.setCell, Array.getElem?_modify, h', hq]
theorem alloc (h : Bx W p t l) (o : Obj) : Bx (W.alloc o) p t l := h.below ((Below.refl _ _).alloc (Nat.le_refl _) _)
end Bx
theorem bx_new (W : World) (l : List Value) (t : TypeId) : Bx (W.alloc (.cells l.toArray t)) W.heap.size t l := by
  show (W.heap.push _)[W.heap.size]? = _
  simp
theorem bx_at (W : World) (l : List Value) (t : TypeId) {n : Nat} (hn : W.heap.size = n) : Bx (W.alloc (.cells l.toArray t)) n t l := by
  subst hn; exact bx_new W l t
/-- four amounts in a slice of their own -/
theorem row_four (W : World) (p : Nat) (t : TypeId) (f : Nat → Int) (h : Bx W p t [.int .i64 (f 0), .int .i64 (f 1), .int .i64 (f 2), .int .i64 (f 3)]) : rowAt W (some ⟨p, 0, none⟩) 4 fun i => .int .i64 (f i) := fun _ =>
  ⟨_, _, rfl, fun i hi => by
    have : i = 0 ∨ i = 1 ∨ i = 2 ∨ i = 3 := by omega
    rcases this with rfl | rfl | rfl | rfl <;> exact h.cell rfl⟩
theorem right4 (a b c d : Int) (w : World) (t : TypeId) (v : Bool) (hv : (amtB a && amtB b && amtB c && amtB d) = v) (n : Nat) (hn : w.heap.size = n) :
    Calls Tryz.prog 26 #[.slice (some ⟨n, 0, none⟩) 4 4] (w.alloc (.cells #[.int .i64 a, .int .i64 b, .int .i64 c, .int .i64 d] t)) fun e w' => e = .returned (.bool v) ∧ w.alloc (.cells #[.int .i64 a, .int .i64 b, .int .i64 c, .int .i64 d] t) = w' := by
  have h := right_any (some ⟨n, 0, none⟩) 4 4 _ (fun i => [a, b, c, d].getD i 0) (row_four _ _ t (fun i => [a, b, c, d].getD i 0) (bx_at w [.int .i64 a, .int .i64 b, .int .i64 c, .int .i64 d] t hn)) (by omega)
  have e : allB (fun i => [a, b, c, d].getD i 0) 4 = v := by rw [← hv]; simp [allB, List.range_succ, Bool.and_assoc]
  rw [e] at h
  exact h
theorem row_three (W : World) (p : Nat) (t : TypeId) (f : Nat → Int) (h : Bx W p t [.int .i64 (f 0), .int .i64 (f 1), .int .i64 (f 2)]) : rowAt W (some ⟨p, 0, none⟩) 3 fun i => .int .i64 (f i) := fun _ =>
  ⟨_, _, rfl, fun i hi => by
    have : i = 0 ∨ i = 1 ∨ i = 2 := by omega
    rcases this with rfl | rfl | rfl <;> exact h.cell rfl⟩
theorem right3 (a b c : Int) (w : World) (t : TypeId) (v : Bool) (hv : (amtB a && amtB b && amtB c) = v) (n : Nat) (hn : w.heap.size = n) :
    Calls Tryz.prog 26 #[.slice (some ⟨n, 0, none⟩) 3 3] (w.alloc (.cells #[.int .i64 a, .int .i64 b, .int .i64 c] t)) fun e w' => e = .returned (.bool v) ∧ w.alloc (.cells #[.int .i64 a, .int .i64 b, .int .i64 c] t) = w' := by
  have h := right_any (some ⟨n, 0, none⟩) 3 3 _ (fun i => [a, b, c].getD i 0) (row_three _ _ t (fun i => [a, b, c].getD i 0) (bx_at w [.int .i64 a, .int .i64 b, .int .i64 c] t hn)) (by omega)
  have e : allB (fun i => [a, b, c].getD i 0) 3 = v := by rw [← hv]; simp [allB, List.range_succ, Bool.and_assoc]
  rw [e] at h
  exact h
end Go.Proofs.YthknjpmhomjobaaGreatDoor
