/- strings.Join of a book's lines. -/
import Derived.Test.YtgadlfdioakodabDoorBalU
namespace Go.Proofs.YtgadlfdioakodabDoor
open Go.RowKit Go.Sort
set_option linter.unusedVariables false
set_option linter.unusedSimpArgs false

/-- the lines of so many entries, as bytes -/
def linS (f : Nat → En) (n : Nat) : List ByteArray := (List.range n).map fun i => lineE (f i)
theorem linS_len (f : Nat → En) (n : Nat) : (linS f n).length = n := by simp [linS]
theorem linE_linS (f : Nat → En) (n : Nat) : linE f n = (linS f n).map .string := by simp [linE, linS]
/-- .. one behind the other -/
def joinE (f : Nat → En) (n : Nat) (sep : ByteArray) : List UInt8 := Lib.join ((linS f n).map (·.data.toList)) sep.data.toList
theorem join_own {w : World} {B n : Nat} {v : Value} {f : Nat → En} (sep : ByteArray) (h : w.ownsRow B 9 1 v n (linE f n)) (hn : n ≤ 100000) (hl : (joinE f n sep).length ≤ 140737488355328) :
    Calls Tryd.prog 29 #[v, .string sep] w fun e w' => e = .returned (.string ⟨(joinE f n sep).toArray⟩) ∧ Below w.heap.size w w' := by
  have hh := h
  rcases hh.2 with ⟨rfl, h0⟩ | ⟨g, cap, cur, rfl, hg, hb, h1, h2, h3, h4⟩
  · clear hh; subst h0
    refine (Tryd.strings_Join_none none 0 sep w).mono ?_
    rintro e w' ⟨rfl, rfl⟩
    exact ⟨rfl, Below.refl _ _⟩
  · have hgl : g < w.heap.size := (Array.getElem?_eq_some_iff.1 hb).1
    have c := Tryd.strings_Join g 0 cap (linS f n) sep w (fun j x hx => by
      rw [Nat.zero_add]
      refine own_cells h ?_
      rw [linE_linS, List.getElem?_map, hx]
      rfl) hgl (by rw [linS_len]; omega) (by rw [linS_len]; exact h1) hl
    rw [linS_len] at c
    exact c
end Go.Proofs.YtgadlfdioakodabDoor
