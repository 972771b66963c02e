/- A choice as it lies in memory. -/
import Derived.Test.YtobdbjmpoefebaaDoorTabW
namespace Go.Proofs.YtobdbjmpoefebaaDoor
open Go.RowKit Go.Sort
set_option linter.unusedVariables false
set_option linter.unusedSimpArgs false

/-- a block of a choice -/
def C4 (W : World) (p : Nat) (a b c d : Value) : Prop := W.heap[p]? = some (.cells #[a, b, c, d] 39 (0, 0))
namespace C4
variable {W W' : World} {p : Nat} {a b c d : Value}
theorem lt (h : C4 W p a b c d) : p < W.heap.size := (Array.getElem?_eq_some_iff.1 h).1
theorem c0 (h : C4 W p a b c d) : W.cell? ⟨p, 0, none⟩ = some a := by simp [World.cell?, show W.heap[p]? = _ from h]
theorem c1 (h : C4 W p a b c d) : W.cell? ⟨p, 1, none⟩ = some b := by simp [World.cell?, show W.heap[p]? = _ from h]
theorem c2 (h : C4 W p a b c d) : W.cell? ⟨p, 2, none⟩ = some c := by simp [World.cell?, show W.heap[p]? = _ from h]
theorem c3 (h : C4 W p a b c d) : W.cell? ⟨p, 3, none⟩ = some d := by simp [World.cell?, show W.heap[p]? = _ from h]
theorem fr (h : C4 W p a b c d) (i : Nat) : W.frozen? ⟨p, i, none⟩ = false := by simp [World.frozen?, show W.heap[p]? = _ from h]
theorem of_block (h : C4 W p a b c d) (e : W'.heap[p]? = W.heap[p]?) : C4 W' p a b c d := e.trans h
theorem below (h : C4 W p a b c d) (hb : Below W.heap.size W W') : C4 W' p a b c d := h.of_block (hb.block _ h.lt)
theorem s0 (h : C4 W p a b c d) (x : Value) : C4 (W.setCell ⟨p, 0, none⟩ x) p x b c d := by
  have h' : W.heap[p]? = _ := h
  simp [C4, World.setCell, Array.getElem?_modify, h']
theorem s1 (h : C4 W p a b c d) (x : Value) : C4 (W.setCell ⟨p, 1, none⟩ x) p a x c d := by
  have h' : W.heap[p]? = _ := h
  simp [C4, World.setCell, Array.getElem?_modify, h']
theorem s2 (h : C4 W p a b c d) (x : Value) : C4 (W.setCell ⟨p, 2, none⟩ x) p a b x d := by
  have h' : W.heap[p]? = _ := h
  simp [C4, World.setCell, Array.getElem?_modify, h']
theorem s3 (h : C4 W p a b c d) (x : Value) : C4 (W.setCell ⟨p, 3, none⟩ x) p a b c x := by
  have h' : W.heap[p]? = _ := h
  simp [C4, World.setCell, Array.getElem?_modify, h']
theorem new (W : World) (a b c d : Value) : C4 (W.alloc (.cells #[a, b, c, d] 39)) W.heap.size a b c d := by
  show (W.heap.push _)[W.heap.size]? = _
  simp
end C4
theorem own_other {w : World} {B p : Nat} {e : TypeId} {size n : Nat} {v : Value} {xs : List Value} (h : w.ownsRow B e size v n xs) (hp : p < B) (j : Nat) (x : Value) : (w.setCell ⟨p, j, none⟩ x).ownsRow B e size v n xs := by
  obtain ⟨hl, h | ⟨g, cap, cur, hv, hg, hh, h1, h2, h3, h4⟩⟩ := h
  · exact ⟨hl, .inl h⟩
  · exact ⟨hl, .inr ⟨g, cap, cur, hv, hg, (Go.Deep.blk_setCell_other _ _ _ _ (by show g ≠ p; omega)).trans hh, h1, h2, h3, h4⟩⟩
theorem own_mono {w : World} {B B' : Nat} {e : TypeId} {size n : Nat} {v : Value} {xs : List Value} (h : w.ownsRow B e size v n xs) (hB : B' ≤ B) : w.ownsRow B' e size v n xs := by
  obtain ⟨hl, h | ⟨g, cap, cur, hv, hg, hh, h1, h2, h3, h4⟩⟩ := h
  · exact ⟨hl, .inl h⟩
  · exact ⟨hl, .inr ⟨g, cap, cur, hv, Nat.le_trans hB hg, hh, h1, h2, h3, h4⟩⟩
theorem own_below {w w' : World} {B : Nat} {e : TypeId} {size n : Nat} {v : Value} {xs : List Value} (h : w.ownsRow B e size v n xs) (hb : Below w.heap.size w w') : w'.ownsRow B e size v n xs := by
  obtain ⟨hl, h | ⟨g, cap, cur, hv, hg, hh, h1, h2, h3, h4⟩⟩ := h
  · exact ⟨hl, .inl h⟩
  · exact ⟨hl, .inr ⟨g, cap, cur, hv, hg, (hb.block _ (Array.getElem?_eq_some_iff.1 hh).1).trans hh, h1, h2, h3, h4⟩⟩
end Go.Proofs.YtobdbjmpoefebaaDoor
