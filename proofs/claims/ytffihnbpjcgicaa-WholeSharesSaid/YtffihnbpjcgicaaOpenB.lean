/- Lists of bases that came in. -/
import Derived.Test.YtffihnbpjcgicaaOpenT
import Derived.Test.YtffihnbpjcgicaaSocD
namespace Go.Proofs.Ytffihnbpjcgicaa
open Go.ChangeShapes Go.WideShapes Go.ChangeAt Go.RowKit Go.Deep
set_option maxRecDepth 100000
set_option linter.unusedVariables false
set_option linter.unusedSimpArgs false
section
variable {H : Type} {enc : TypeId × Value → H}
def i64F (x : Int) : Prop := -9223372036854775808 ≤ x ∧ x ≤ 9223372036854775807
theorem base_cells {W : World} {fuel : Nat} {cs : List Value} {y : DataW H × List MemPlace} (h : DataW.trod enc Try.prog W 0 (fun _ => true) true fuel 39 cs = some y) (hl : cs.length = 3) :
    ∃ g : Int × Int × Int, cs = [.int .i64 g.1, .int .i64 g.2.1, .int .i64 g.2.2] ∧ i64F g.1 ∧ i64F g.2.1 ∧ i64F g.2.2 := by
  obtain ⟨xs, n, _, _, _, hlen, hg⟩ := DataW.trod_struct Try.underlying39 h
  have hl3 : xs.length = 3 := hlen
  have k2 : Try.prog.cellsOf 2 = 1 := by kernel_rfl
  match cs, hl with
  | [c0, c1, c2], _ =>
    have g0 : DataW.trod enc Try.prog W 0 (fun _ => true) true n 2 (([c0, c1, c2].drop 0).take (Try.prog.cellsOf 2)) = xs[0]? := hg 0 _ rfl
    have g1 : DataW.trod enc Try.prog W 0 (fun _ => true) true n 2 (([c0, c1, c2].drop 1).take (Try.prog.cellsOf 2)) = xs[1]? := hg 1 _ rfl
    have g2 : DataW.trod enc Try.prog W 0 (fun _ => true) true n 2 (([c0, c1, c2].drop 2).take (Try.prog.cellsOf 2)) = xs[2]? := hg 2 _ rfl
    rw [k2, List.getElem?_eq_getElem (by omega)] at g0 g1 g2
    obtain ⟨a, e0, _, w0⟩ := DataW.trod_int Try.underlying2 g0
    obtain ⟨b, e1, _, w1⟩ := DataW.trod_int Try.underlying2 g1
    obtain ⟨c, e2, _, w2⟩ := DataW.trod_int Try.underlying2 g2
    simp at e0 e1 e2
    subst e0 e1 e2
    exact ⟨⟨a, b, c⟩, rfl, bounds_i64 w0, bounds_i64 w1, bounds_i64 w2⟩
theorem open_bases {W : World} {A : Option Addr} {n c : Nat} {d : DataW H} {p : List MemPlace} (h : DataW.Trod enc Try.prog W 0 (fun _ => true) true 27 (.slice A n c) d p) :
    ∃ x t s : Nat → Int, BasM W A n x t s ∧ n ≤ 9223372036854775807 ∧ n ≤ c ∧ ∀ i, i < n → i64F (x i) ∧ i64F (t i) ∧ i64F (s i) := by
  obtain ⟨g, hn, hr⟩ := slice_rows (α := Int × Int × Int) (fun cs g => cs = [.int .i64 g.1, .int .i64 g.2.1, .int .i64 g.2.2] ∧ i64F g.1 ∧ i64F g.2.1 ∧ i64F g.2.2) Try.underlying27 (k := 3) (by kernel_rfl) (by omega) (fun _ _ _ h hl => base_cells h hl) h
  refine ⟨fun i => (g i).1, fun i => (g i).2.1, fun i => (g i).2.2, fun h0 => ?_, hn.1, hn.2, fun i hi => ?_⟩
  · obtain ⟨b, o, hA, hc⟩ := hr h0
    refine ⟨b, o, hA, fun i hi => ?_⟩
    obtain ⟨cs, hl, ⟨rfl, _⟩, hz⟩ := hc i hi
    exact ⟨hz 0 (by omega), hz 1 (by omega), hz 2 (by omega)⟩
  · obtain ⟨b, o, hA, hc⟩ := hr (by omega)
    obtain ⟨cs, hl, ⟨_, hb⟩, hz⟩ := hc i hi
    exact hb
end
end Go.Proofs.Ytffihnbpjcgicaa
