/- A row of the call's own, one cell set; bands' clones in a row of schemes (for table.Clone's loops). -/
import Derived.Test.YtobdbjmpoefebaaDoorCloB
namespace Go.Proofs.YtobdbjmpoefebaaDoor
open Go.RowKit Go.Sort
set_option linter.unusedVariables false
theorem own_set {w : World} {B : Nat} {e : TypeId} {k n g c : Nat} {xs : List Value} (h : w.ownsRow B e k (.slice (some ⟨g, 0, none⟩) n c) n xs) (q : Nat) (u : Value) : (w.setCell ⟨g, q, none⟩ u).ownsRow B e k (.slice (some ⟨g, 0, none⟩) n c) n (xs.set q u) := by
  obtain ⟨hl, ⟨h0, _⟩ | ⟨g', c', cur, hv, hg, hh, h1, h2, h3, h4⟩⟩ := h
  · cases h0
  · injection hv with hA _ hc
    simp only [Option.some.injEq, Addr.mk.injEq] at hA
    obtain ⟨rfl, _⟩ := hA
    subst hc
    refine ⟨by simpa using hl, .inr ⟨g, c, cur.setIfInBounds q u, rfl, hg, ?_, h1, h2, by simpa using h3, ?_⟩⟩
    · simp [World.setCell, Array.getElem?_modify, hh]
    · rw [← h4]
      simp [List.take_set]
theorem own_cell {w : World} {B : Nat} {e : TypeId} {k n g c : Nat} {xs : List Value} (h : w.ownsRow B e k (.slice (some ⟨g, 0, none⟩) n c) n xs) {q : Nat} {u : Value} (hq : xs[q]? = some u) : w.cell? ⟨g, q, none⟩ = some u := by
  obtain ⟨hl, ⟨h0, _⟩ | ⟨g', c', cur, hv, hg, hh, h1, h2, h3, h4⟩⟩ := h
  · cases h0
  · injection hv with hA _ hc
    simp only [Option.some.injEq, Addr.mk.injEq] at hA
    obtain ⟨rfl, _⟩ := hA
    rw [← h4, List.getElem?_take] at hq
    have : cur[q]? = some u := by
      split at hq
      · simpa using hq
      · cases hq
    simp [World.cell?, hh, this]
theorem own_frozen {w : World} {B : Nat} {e : TypeId} {k n g c : Nat} {xs : List Value} (h : w.ownsRow B e k (.slice (some ⟨g, 0, none⟩) n c) n xs) (q : Nat) : B ≤ g ∧ g < w.heap.size ∧ w.frozen? ⟨g, q, none⟩ = false := by
  obtain ⟨hl, ⟨h0, _⟩ | ⟨g', c', cur, hv, hg, hh, h1, h2, h3, h4⟩⟩ := h
  · cases h0
  · injection hv with hA _ hc
    simp only [Option.some.injEq, Addr.mk.injEq] at hA
    obtain ⟨rfl, _⟩ := hA
    exact ⟨hg, (Array.getElem?_eq_some_iff.1 hh).1, by simp [World.frozen?, hh]⟩
/-- the first i schemes are clones of the call's own, younger than the row; the others are as they were -/
def sw (S : Nat → SB) (nu : Nat → Value) (i q : Nat) : Value := if q < i then nu q else .slice (S q).A (S q).n (S q).c
def SchC (W : World) (B g c n : Nat) (S : Nat → SB) (i : Nat) : Prop :=
  ∃ nu : Nat → Value, W.ownsRow B 78 1 (.slice (some ⟨g, 0, none⟩) n c) n ((List.range n).map (sw S nu i)) ∧ ∀ q, q < i → Nw W (g + 1) (S q) (nu q)
theorem SchC.below {W W' : World} {B g c n i : Nat} {S : Nat → SB} (h : SchC W B g c n S i) (hb : Below W.heap.size W W') : SchC W' B g c n S i := by
  obtain ⟨nu, h1, h2⟩ := h
  exact ⟨nu, own_below h1 hb, fun q hq => own_below (h2 q hq) hb⟩
theorem SchC.cell {W : World} {B g c n i : Nat} {S : Nat → SB} (h : SchC W B g c n S i) (hi : i < n) : W.cell? ⟨g, i, none⟩ = some (.slice (S i).A (S i).n (S i).c) := by
  obtain ⟨nu, h1, h2⟩ := h
  exact own_cell h1 (by simp [hi, sw])
theorem SchC.frozen {W : World} {B g c n i : Nat} {S : Nat → SB} (h : SchC W B g c n S i) (q : Nat) : B ≤ g ∧ g < W.heap.size ∧ W.frozen? ⟨g, q, none⟩ = false := by
  obtain ⟨nu, h1, h2⟩ := h
  exact own_frozen h1 q
theorem SchC.set {W : World} {B g c n i : Nat} {S : Nat → SB} (h : SchC W B g c n S i) (hi : i < n) {u : Value} (hu : Nw W (g + 1) (S i) u) : SchC (W.setCell ⟨g, i, none⟩ u) B g c n S (i + 1) := by
  obtain ⟨nu, h1, h2⟩ := h
  refine ⟨fun q => if q = i then u else nu q, ?_, fun q hq => ?_⟩
  · have := own_set h1 i u
    have e : ((List.range n).map (sw S nu i)).set i u = (List.range n).map (sw S (fun q => if q = i then u else nu q) (i + 1)) := by
      apply List.ext_getElem
      · simp
      · intro q h3 h4
        simp only [List.getElem_set, List.getElem_map, List.getElem_range, sw]
        by_cases e1 : i = q
        · subst e1; simp
        · rw [if_neg e1]
          by_cases e2 : q < i
          · rw [if_pos e2, if_pos (by omega), if_neg (by omega)]
          · rw [if_neg e2, if_neg (by omega)]
    rw [e] at this
    exact this
  · by_cases e1 : q = i
    · subst e1
      simp only [if_pos]
      exact own_other hu (by omega) _ _
    · simp only [if_neg e1]
      exact own_other (h2 q (by omega)) (by omega) _ _
theorem SchC.other {W : World} {B g c n i p : Nat} {S : Nat → SB} (h : SchC W B g c n S i) (hp : p < B) (hB : B ≤ g) (q : Nat) (u : Value) : SchC (W.setCell ⟨p, q, none⟩ u) B g c n S i := by
  obtain ⟨nu, h1, h2⟩ := h
  exact ⟨nu, own_other h1 hp q u, fun r hr => own_other (h2 r hr) (by omega) q u⟩
end Go.Proofs.YtobdbjmpoefebaaDoor
