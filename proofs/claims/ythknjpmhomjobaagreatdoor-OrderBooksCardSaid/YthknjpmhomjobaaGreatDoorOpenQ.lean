/- What is done to a book, as an argument that came in. -/
import Derived.Test.YthknjpmhomjobaaGreatDoorOpenO
import Derived.Test.YthknjpmhomjobaaGreatDoorWkOrderBooks
namespace Go.Proofs.YthknjpmhomjobaaGreatDoor
open Go.ChangeShapes Go.WideShapes Go.ChangeAt Go.RowKit Go.Deep
set_option maxRecDepth 100000
set_option linter.unusedVariables false
set_option linter.unusedSimpArgs false
section
variable {H : Type} {enc : TypeId × Value → H}
theorem op_cells {W : World} {fuel : Nat} {cs : List Value} {y : DataW H × List MemPlace} (h : DataW.trod enc Tryz.prog W 0 (fun _ => true) true fuel 38 cs = some y) (hl : cs.length = 6) :
    ∃ x : Sta × Bool, cs = [.int .i64 x.1.id, .int .i64 x.1.pr, .int .i64 x.1.am, .int .i64 x.1.rt, .int .i64 x.1.tot, .bool x.2] := by
  obtain ⟨xs, n, _, _, _, hlen, hg⟩ := DataW.trod_struct Tryz.underlying38 h
  have hl2 : xs.length = 2 := hlen
  have k1 : Tryz.prog.cellsOf 23 = 5 := by kernel_rfl
  have k2 : Tryz.prog.cellsOf 4 = 1 := by kernel_rfl
  match cs, hl with
  | [c0, c1, c2, c3, c4, c5], _ =>
    have g0 : DataW.trod enc Tryz.prog W 0 (fun _ => true) true n 23 (([c0, c1, c2, c3, c4, c5].drop 0).take (Tryz.prog.cellsOf 23)) = xs[0]? := hg 0 _ rfl
    have g1 : DataW.trod enc Tryz.prog W 0 (fun _ => true) true n 4 (([c0, c1, c2, c3, c4, c5].drop 5).take (Tryz.prog.cellsOf 4)) = xs[1]? := hg 1 _ rfl
    rw [k1, List.getElem?_eq_getElem (by omega)] at g0
    rw [k2, List.getElem?_eq_getElem (by omega)] at g1
    obtain ⟨i, p, a, r, t, e0, hb⟩ := order_cells g0 rfl
    obtain ⟨u, e5, _⟩ := DataW.trod_bool Tryz.underlying4 g1
    simp [Value.cells] at e0 e5
    obtain ⟨rfl, rfl, rfl, rfl, rfl⟩ := e0
    subst e5
    exact ⟨(⟨i, p, a, r, t, 0, 0⟩, u), rfl⟩
theorem open_ops {W : World} {A : Option Addr} {n c : Nat} {d : DataW H} {p : List MemPlace} (h : DataW.Trod enc Tryz.prog W 0 (fun _ => true) true 32 (.slice A n c) d p) :
    ∃ g : Nat → Sta × Bool, Ops W A n (fun i => (g i).1) (fun i => (g i).2) ∧ n ≤ 9223372036854775807 := by
  obtain ⟨g, hn, hr⟩ := slice_rows (α := Sta × Bool) (fun cs x => cs = [.int .i64 x.1.id, .int .i64 x.1.pr, .int .i64 x.1.am, .int .i64 x.1.rt, .int .i64 x.1.tot, .bool x.2]) Tryz.underlying32 (k := 6) (by kernel_rfl) (by omega) (fun _ _ _ h hl => op_cells h hl) h
  refine ⟨g, fun h0 => ?_, hn.1⟩
  obtain ⟨b, o, hA, hc⟩ := hr h0
  refine ⟨b, o, hA, fun i hi => ?_⟩
  obtain ⟨cs, hl, rfl, hz⟩ := hc i hi
  exact ⟨⟨hz 0 (by omega), hz 1 (by omega), hz 2 (by omega), hz 3 (by omega), hz 4 (by omega)⟩, hz 5 (by omega)⟩
end
end Go.Proofs.YthknjpmhomjobaaGreatDoor
