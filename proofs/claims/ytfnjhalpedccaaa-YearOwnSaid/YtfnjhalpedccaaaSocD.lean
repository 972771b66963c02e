/- Texts on shares, for a seat without tables. -/
import Derived.Test.YtfnjhalpedccaaaSocC
namespace Go.Proofs.Ytfnjhalpedccaaa
open Go.RowKit Go.Sort
set_option linter.unusedVariables false
set_option linter.unusedSimpArgs false

theorem shc_get (L : List (Int × Int)) (i : Nat) (p : Int × Int) (h : L[i]? = some p) : (shc L)[i * 2]? = some (.int .i64 p.1) ∧ (shc L)[i * 2 + 1]? = some (.int .i64 p.2) := by
  induction L generalizing i with
  | nil => simp at h
  | cons s L ih =>
    have e : shc (s :: L) = [.int .i64 s.1, .int .i64 s.2] ++ shc L := rfl
    cases i with
    | zero =>
      simp only [List.getElem?_cons_zero, Option.some.injEq] at h
      subst h
      rw [e]; exact ⟨rfl, rfl⟩
    | succ i =>
      have := ih i (by simpa using h)
      rw [e, List.getElem?_append_right (by simp; omega), List.getElem?_append_right (by simp; omega)]
      simp only [List.length_cons, List.length_nil]
      rw [show (i + 1) * 2 - (0 + 1 + 1) = i * 2 by omega, show (i + 1) * 2 + 1 - (0 + 1 + 1) = i * 2 + 1 by omega]
      exact this
/-- a row of a call's own is a slice of shares -/
theorem shs_own {w : World} {B n : Nat} {A : Option Addr} {c : Nat} {F G : Nat → Int} (h : w.ownsRow B 53 2 (.slice A n c) n (shc ((List.range n).map fun i => (F i, G i)))) : Shs w A n F G := fun hn => by
  obtain ⟨A', c', e, hA, hg⟩ := own_len h
  obtain ⟨g, rfl⟩ := hg hn
  obtain ⟨rfl, _, rfl⟩ := Value.slice.inj e
  refine ⟨g, 0, rfl, fun i hi => ?_⟩
  have hs := shc_get ((List.range n).map fun i => (F i, G i)) i (F i, G i) (by rw [List.getElem?_map, List.getElem?_range hi]; rfl)
  rw [Nat.zero_add]
  exact ⟨own_cells h hs.1, own_cells h hs.2⟩
theorem row_own {w : World} {B n : Nat} {A : Option Addr} {c : Nat} {F : Nat → Int} (h : w.ownsRow B 2 1 (.slice A n c) n (ivs ((List.range n).map F))) : rowAt w A n fun i => .int .i64 (F i) := fun hn => by
  obtain ⟨A', c', e, hA, hg⟩ := own_len h
  obtain ⟨g, rfl⟩ := hg hn
  obtain ⟨rfl, _, rfl⟩ := Value.slice.inj e
  refine ⟨g, 0, rfl, fun i hi => ?_⟩
  rw [Nat.zero_add]
  exact own_cells h (by simp [ivs, hi])
end Go.Proofs.Ytfnjhalpedccaaa
