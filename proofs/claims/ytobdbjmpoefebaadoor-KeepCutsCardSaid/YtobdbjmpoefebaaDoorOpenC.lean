/- A code that came in: its five values; texts that came in. -/
import Derived.Test.YtobdbjmpoefebaaDoorPost
import Derived.SliceStrings
import Derived.WideShapes
import Derived.Deep.Fields
namespace Go.Proofs.YtobdbjmpoefebaaDoor
open Go.ChangeShapes Go.WideShapes Go.ChangeAt Go.RowKit
set_option maxRecDepth 100000
set_option linter.unusedSimpArgs false
section
variable {H : Type} {enc : TypeId × Value → H}
/-- texts that came in: wherever they lie -/
theorem slice_texts {W : World} {A : Option Addr} {n c : Nat} {d : DataW H} {p : List MemPlace}
    (h : DataW.Trod enc Tryd.prog W 0 (fun _ => true) true 34 (.slice A n c) d p) :
    ∃ f : Nat → ByteArray, rowAt W A n (fun i => .string (f i)) ∧ n ≤ 9223372036854775807 ∧ ∀ i, (f i).size ≤ 9223372036854775807 := by
  obtain ⟨fuel, hf⟩ := h
  rcases open_strings Tryd.underlying34 Tryd.underlying9 (by kernel_rfl) hf with ⟨hcs, _⟩ | ⟨a, len, cap, ss, hcs, _, hl, hm, hz, _, hcell, hw⟩
  · simp only [Value.cells, List.cons.injEq, Value.slice.injEq] at hcs
    obtain ⟨⟨rfl, rfl, rfl⟩, _⟩ := hcs
    exact ⟨fun _ => ByteArray.empty, fun h0 => absurd h0 (Nat.lt_irrefl 0), by omega, fun _ => by simp⟩
  · simp only [Value.cells, List.cons.injEq, Value.slice.injEq] at hcs
    obtain ⟨⟨rfl, rfl, rfl⟩, _⟩ := hcs
    simp only [if_true] at hz
    refine ⟨fun i => ss.getD i ByteArray.empty, fun hn => ?_, by unfold maxLen at hm; omega, fun i => ?_⟩
    · obtain ⟨b, o, spot⟩ := a
      have hspot : spot = none := by simpa [Addr.add] using World.cell?_spot (hcell 0 (by omega))
      subst hspot
      exact ⟨b, o, rfl, fun i hi => by rw [← Go.WideShapes.add_plain]; exact hcell i (by omega)⟩
    · by_cases hi : i < ss.length
      · have := hw ss[i] (List.getElem_mem hi)
        unfold maxLen at this
        simpa [List.getD, List.getElem?_eq_getElem hi] using this
      · simp [List.getD, List.getElem?_eq_none (Nat.not_lt.1 hi)]
end
end Go.Proofs.YtobdbjmpoefebaaDoor
