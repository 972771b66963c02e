/- Texts that came in, none longer than the form's reach. -/
import Derived.Test.YtoppipjbdakmeaaDoorOpenC
import Derived.SizedLaws
namespace Go.Proofs.YtoppipjbdakmeaaDoor
open Go.ChangeShapes Go.WideShapes Go.ChangeAt Go.RowKit
set_option maxRecDepth 100000
section
variable {H : Type} {enc : TypeId × Value → H}
theorem weights_of_all {P : Program} {e : TypeId} : ∀ {ds : List (DataW H)} {d : DataW H}, d ∈ ds → ∀ m ∈ d.weights P e, m ∈ DataW.weightsAll P e ds
  | d0 :: r, d, hd, m, hm => by
    simp only [DataW.weightsAll, List.mem_append]
    rcases List.mem_cons.1 hd with rfl | h
    · exact Or.inl hm
    · exact Or.inr (weights_of_all h m hm)
theorem reach_texts {W : World} {A : Option Addr} {n c : Nat} {d : DataW H} {p : List MemPlace}
    (h : DataW.Trod enc Tryd.prog W 0 (fun _ => true) true 34 (.slice A n c) d p) (hz : ∀ m ∈ d.weights Tryd.prog 34, m ≤ reachBytes) :
    ∃ f : Nat → ByteArray, rowAt W A n (fun i => .string (f i)) ∧ n ≤ 9223372036854775807 ∧ ∀ i, i < n → (f i).size ≤ 140737488355328 := by
  obtain ⟨fuel, hf⟩ := h
  rcases open_strings Tryd.underlying34 Tryd.underlying9 (by kernel_rfl) hf with ⟨hcs, _⟩ | ⟨a, len, cap, ss, hcs, _, hl, hm, hz2, hx, hcell, hw⟩
  · simp only [Value.cells, List.cons.injEq, Value.slice.injEq] at hcs
    obtain ⟨⟨rfl, rfl, rfl⟩, _⟩ := hcs
    exact ⟨fun _ => ByteArray.empty, fun h0 => absurd h0 (Nat.lt_irrefl 0), by omega, fun i hi => absurd hi (Nat.not_lt_zero i)⟩
  · simp only [Value.cells, List.cons.injEq, Value.slice.injEq] at hcs
    obtain ⟨⟨rfl, rfl, rfl⟩, _⟩ := hcs
    simp only [if_true] at hz2
    refine ⟨fun i => ss.getD i ByteArray.empty, fun hn => ?_, by unfold maxLen at hm; omega, fun i hi => ?_⟩
    · obtain ⟨b, o, spot⟩ := a
      have hspot : spot = none := by simpa [Addr.add] using World.cell?_spot (hcell 0 (by omega))
      subst hspot
      exact ⟨b, o, rfl, fun i hi => by rw [← Go.WideShapes.add_plain]; exact hcell i (by omega)⟩
    · have hi2 : i < ss.length := by omega
      have he : ss.getD i ByteArray.empty = ss[i] := by simp [List.getD, hi2]
      simp only [Prod.mk.injEq] at hx
      obtain ⟨hd, _⟩ := hx
      have hmem : (DataW.lit (.string ss[i].data.toList) : DataW H) ∈ strs (ss.take n) := by
        unfold strs
        refine List.mem_map.2 ⟨ss[i], ?_, rfl⟩
        have : (ss.take n)[i]? = some ss[i] := by
          rw [List.getElem?_take, if_pos hi, List.getElem?_eq_getElem hi2]
        exact List.mem_of_getElem? this
      have hmm : ss[i].data.toList.length ≤ reachBytes := by
        refine hz _ ?_
        rw [hd]
        simp only [DataW.weights, Tryd.underlying34, List.mem_cons, List.mem_append]
        exact Or.inr (Or.inl (weights_of_all hmem _ (by simp [DataW.weights])))
      have hr := reachBytes_lt
      show (ss.getD i ByteArray.empty).size ≤ 140737488355328
      rw [he]
      have e2 : ss[i].data.toList.length = ss[i].size := by simp
      rw [e2] at hmm
      omega
end
end Go.Proofs.YtoppipjbdakmeaaDoor
