/- A code, a part of the year, and periods that came in. -/
import Derived.Test.YtffihnbpjcgicaaDoorOpenT
import Derived.Test.YtffihnbpjcgicaaDoorTaxB
namespace Go.Proofs.YtffihnbpjcgicaaDoor
open Go.ChangeShapes Go.WideShapes Go.ChangeAt Go.RowKit Go.Deep
set_option maxRecDepth 100000
set_option linter.unusedVariables false
set_option linter.unusedSimpArgs false
section
variable {H : Type} {enc : TypeId × Value → H}
def cF (s k a f : Int) : Prop := (-9223372036854775808 ≤ s ∧ s ≤ 9223372036854775807) ∧ (-9223372036854775808 ≤ k ∧ k ≤ 9223372036854775807) ∧ (-9223372036854775808 ≤ a ∧ a ≤ 9223372036854775807) ∧ (-9223372036854775808 ≤ f ∧ f ≤ 9223372036854775807)
theorem code_cells {W : World} {fuel : Nat} {cs : List Value} {y : DataW H × List MemPlace} (h : DataW.trod enc Tryd.prog W 0 (fun _ => true) true fuel 83 cs = some y) (hl : cs.length = 5) :
    ∃ (s k a f : Int) (x : Bool), cs = [.int .i64 s, .int .i64 k, .int .i64 a, .int .i64 f, .bool x] ∧ cF s k a f := by
  obtain ⟨xs, n, _, _, _, hlen, hg⟩ := DataW.trod_struct Tryd.underlying83 h
  have hl5 : xs.length = 5 := hlen
  have k1 : Tryd.prog.cellsOf 3 = 1 := by kernel_rfl
  have k2 : Tryd.prog.cellsOf 2 = 1 := by kernel_rfl
  have k3 : Tryd.prog.cellsOf 4 = 1 := by kernel_rfl
  match cs, hl with
  | [c0, c1, c2, c3, c4], _ =>
    have g0 : DataW.trod enc Tryd.prog W 0 (fun _ => true) true n 3 (([c0, c1, c2, c3, c4].drop 0).take (Tryd.prog.cellsOf 3)) = xs[0]? := hg 0 _ rfl
    rw [k1] at g0
    have g1 : DataW.trod enc Tryd.prog W 0 (fun _ => true) true n 3 (([c0, c1, c2, c3, c4].drop 1).take (Tryd.prog.cellsOf 3)) = xs[1]? := hg 1 _ rfl
    rw [k1] at g1
    have g2 : DataW.trod enc Tryd.prog W 0 (fun _ => true) true n 2 (([c0, c1, c2, c3, c4].drop 2).take (Tryd.prog.cellsOf 2)) = xs[2]? := hg 2 _ rfl
    rw [k2] at g2
    have g3 : DataW.trod enc Tryd.prog W 0 (fun _ => true) true n 3 (([c0, c1, c2, c3, c4].drop 3).take (Tryd.prog.cellsOf 3)) = xs[3]? := hg 3 _ rfl
    rw [k1] at g3
    have g4 : DataW.trod enc Tryd.prog W 0 (fun _ => true) true n 4 (([c0, c1, c2, c3, c4].drop 4).take (Tryd.prog.cellsOf 4)) = xs[4]? := hg 4 _ rfl
    rw [k3] at g4
    rw [List.getElem?_eq_getElem (by omega)] at g0 g1 g2 g3 g4
    obtain ⟨s, e0, _, w0⟩ := DataW.trod_int Tryd.underlying3 g0
    obtain ⟨k, e1, _, w1⟩ := DataW.trod_int Tryd.underlying3 g1
    obtain ⟨a, e2, _, w2⟩ := DataW.trod_int Tryd.underlying2 g2
    obtain ⟨f, e3, _, w3⟩ := DataW.trod_int Tryd.underlying3 g3
    obtain ⟨x, e4, _⟩ := DataW.trod_bool Tryd.underlying4 g4
    simp [Value.cells] at e0 e1 e2 e3 e4
    subst e0 e1 e2 e3 e4
    exact ⟨s, k, a, f, x, rfl, bounds_i64 w0, bounds_i64 w1, bounds_i64 w2, bounds_i64 w3⟩
theorem open_code {W : World} {r : Reach} {base : Nat} {v : Value} {d : DataW H} {p : List MemPlace} (hv : Value.okWide Tryd.prog W r base 83 v) (h : DataW.Trod enc Tryd.prog W 0 (fun _ => true) true 83 v d p) :
    ∃ (s k a f : Int) (x : Bool), v = .agg #[.int .i64 s, .int .i64 k, .int .i64 a, .int .i64 f, .bool x] ∧ cF s k a f := by
  obtain ⟨cs, rfl, hsz⟩ := okWide_struct Tryd.underlying83 hv
  have hC : Tryd.prog.cellsOf 83 = 5 := by kernel_rfl
  obtain ⟨l⟩ := cs
  obtain ⟨fuel, hf⟩ := h
  obtain ⟨s, k, a, f, x, e, hb⟩ := code_cells hf (show l.length = 5 from hsz.trans hC)
  have e' : l = _ := e
  subst e'
  exact ⟨s, k, a, f, x, rfl, hb⟩
theorem step_cells {W : World} {fuel : Nat} {cs : List Value} {y : DataW H × List MemPlace} (h : DataW.trod enc Tryd.prog W 0 (fun _ => true) true fuel 85 cs = some y) (hl : cs.length = 6) :
    ∃ g : St, cs = [.int .i64 g.s, .int .i64 g.k, .int .i64 g.a, .int .i64 g.f, .bool g.x, .int .i64 g.y] ∧ g.F := by
  obtain ⟨xs, n, _, _, _, hlen, hg⟩ := DataW.trod_struct Tryd.underlying85 h
  have hl2 : xs.length = 2 := hlen
  have k1 : Tryd.prog.cellsOf 83 = 5 := by kernel_rfl
  have k2 : Tryd.prog.cellsOf 2 = 1 := by kernel_rfl
  match cs, hl with
  | [c0, c1, c2, c3, c4, c5], _ =>
    have g0 : DataW.trod enc Tryd.prog W 0 (fun _ => true) true n 83 (([c0, c1, c2, c3, c4, c5].drop 0).take (Tryd.prog.cellsOf 83)) = xs[0]? := hg 0 _ rfl
    have g1 : DataW.trod enc Tryd.prog W 0 (fun _ => true) true n 2 (([c0, c1, c2, c3, c4, c5].drop 5).take (Tryd.prog.cellsOf 2)) = xs[1]? := hg 1 _ rfl
    rw [k1, List.getElem?_eq_getElem (by omega)] at g0
    rw [k2, List.getElem?_eq_getElem (by omega)] at g1
    obtain ⟨s, k, a, f, x, e0, hb⟩ := code_cells g0 rfl
    obtain ⟨u, e5, _, w5⟩ := DataW.trod_int Tryd.underlying2 g1
    simp at e0 e5
    obtain ⟨rfl, rfl, rfl, rfl, rfl⟩ := e0
    subst e5
    exact ⟨⟨s, k, a, f, x, u⟩, rfl, hb.2.2.1, bounds_i64 w5⟩
instance : Inhabited St := ⟨⟨0, 0, 0, 0, false, 0⟩⟩
theorem open_steps {W : World} {A : Option Addr} {n c : Nat} {d : DataW H} {p : List MemPlace} (h : DataW.Trod enc Tryd.prog W 0 (fun _ => true) true 72 (.slice A n c) d p) :
    ∃ g : Nat → St, Sts W A n g ∧ n ≤ 9223372036854775807 ∧ ∀ i, i < n → (g i).F := by
  obtain ⟨g, hn, hr⟩ := slice_rows (α := St) (fun cs g => cs = [.int .i64 g.s, .int .i64 g.k, .int .i64 g.a, .int .i64 g.f, .bool g.x, .int .i64 g.y] ∧ g.F) Tryd.underlying72 (k := 6) (by kernel_rfl) (by omega) (fun _ _ _ h hl => step_cells h hl) h
  refine ⟨g, fun h0 => ?_, hn.1, fun i hi => ?_⟩
  · obtain ⟨b, o, hA, hc⟩ := hr h0
    refine ⟨b, o, hA, fun i hi => ?_⟩
    obtain ⟨cs, hl, ⟨rfl, _⟩, hz⟩ := hc i hi
    exact ⟨hz 0 (by omega), hz 1 (by omega), hz 2 (by omega), hz 3 (by omega), hz 4 (by omega), hz 5 (by omega)⟩
  · obtain ⟨b, o, hA, hc⟩ := hr (by omega)
    obtain ⟨cs, hl, ⟨_, hb⟩, hz⟩ := hc i hi
    exact hb
end
end Go.Proofs.YtffihnbpjcgicaaDoor
