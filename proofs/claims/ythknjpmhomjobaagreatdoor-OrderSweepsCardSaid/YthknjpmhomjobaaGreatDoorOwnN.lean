/- What memory keeps: rows of a call's own by their cells, new blocks. -/
import Derived.Test.YthknjpmhomjobaaGreatDoorBox
import Derived.Test.YthknjpmhomjobaaGreatDoorOwnM
namespace Go.Proofs.YthknjpmhomjobaaGreatDoor
open Go.RowKit Go.Sort
set_option linter.unusedVariables false
set_option linter.unusedSimpArgs false

theorem below_new (w : World) (o : Obj) : Below w.heap.size w (w.alloc o) := (Below.refl _ _).alloc (Nat.le_refl _) _
theorem bx_add {W : World} {p : Nat} {t : TypeId} {l : List Value} (h : Bx W p t l) : ∀ j u, l[j]? = some u → W.cell? ((⟨p, 0, none⟩ : Addr).add j) = some u := fun j u hu => by
  rw [Go.WideShapes.add_plain, Nat.zero_add]
  exact h.cell hu
theorem row_later {w w' : World} {A : Option Addr} {n : Nat} {g : Nat → Value} (h : rowAt w A n g) (hb : Below w.heap.size w w') : rowAt w' A n g := fun h0 => by
  obtain ⟨b, o, hA, hc⟩ := h h0
  exact ⟨b, o, hA, fun i hi => cell_later hb (hc i hi)⟩
theorem own_len {w : World} {B n size : Nat} {e : TypeId} {v : Value} {xs : List Value} (h : w.ownsRow B e size v n xs) : ∃ A c, v = .slice A n c ∧ (∀ p, A = some p → ∃ g, p = ⟨g, 0, none⟩ ∧ B ≤ g ∧ g < w.heap.size) ∧ (0 < n → ∃ g, A = some ⟨g, 0, none⟩) := by
  rcases h.2 with ⟨hv, h0⟩ | ⟨g, cap, cur, hv, hg, hh, _⟩
  · exact ⟨none, 0, by rw [h0]; exact hv, fun p hp => (nomatch hp), fun h => absurd h (by omega)⟩
  · exact ⟨_, _, hv, fun p hp => ⟨g, by simpa using hp.symm, hg, (Array.getElem?_eq_some_iff.1 hh).1⟩, fun _ => ⟨g, rfl⟩⟩
theorem own_cells {w : World} {B n size : Nat} {e : TypeId} {g c : Nat} {xs : List Value} (h : w.ownsRow B e size (.slice (some ⟨g, 0, none⟩) n c) n xs) {j : Nat} {u : Value} (hu : xs[j]? = some u) : w.cell? ⟨g, j, none⟩ = some u := by
  have := h.cells (g := g) rfl j u hu
  rwa [Go.WideShapes.add_plain, Nat.zero_add] at this
end Go.Proofs.YthknjpmhomjobaaGreatDoor
