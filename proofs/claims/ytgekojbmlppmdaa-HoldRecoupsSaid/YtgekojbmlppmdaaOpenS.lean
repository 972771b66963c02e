/- A state and a period that came in, and periods wherever they lie. -/
import Derived.Test.YtgekojbmlppmdaaRowsK
import Derived.Test.YtgekojbmlppmdaaHldC
namespace Go.Proofs.Ytgekojbmlppmdaa
open Go.ChangeShapes Go.WideShapes Go.ChangeAt Go.RowKit Go.Deep
set_option maxRecDepth 100000
set_option linter.unusedVariables false
set_option linter.unusedSimpArgs false
section
variable {H : Type} {enc : TypeId × Value → H}
theorem open_state {W : World} {r : Reach} {base : Nat} {v : Value} {d : DataW H} {p : List MemPlace} (hv : Value.okWide Try.prog W r base 23 v) (h : DataW.Trod enc Try.prog W 0 (fun _ => true) true 23 v d p) :
    ∃ x y : Int, v = .agg #[.int .i64 x, .int .i64 y] ∧ fits x ∧ fits y := by
  obtain ⟨cs, rfl, hsz⟩ := okWide_struct Try.underlying23 hv
  have hC : Try.prog.cellsOf 23 = 2 := by kernel_rfl
  have k2 : Try.prog.cellsOf 2 = 1 := by kernel_rfl
  obtain ⟨l⟩ := cs
  match l, hsz.trans hC with
  | [c0, c1], _ =>
    obtain ⟨fuel, hf⟩ := h
    obtain ⟨xs, m, _, _, _, hlen, hg⟩ := DataW.trod_struct Try.underlying23 hf
    have hl : xs.length = 2 := hlen
    have g0 : DataW.trod enc Try.prog W 0 (fun _ => true) true m 2 (([c0, c1].drop 0).take (Try.prog.cellsOf 2)) = xs[0]? := hg 0 _ rfl
    have g1 : DataW.trod enc Try.prog W 0 (fun _ => true) true m 2 (([c0, c1].drop 1).take (Try.prog.cellsOf 2)) = xs[1]? := hg 1 _ rfl
    rw [k2, List.getElem?_eq_getElem (by omega)] at g0 g1
    obtain ⟨a, e0, _, w0⟩ := DataW.trod_int Try.underlying2 g0
    obtain ⟨b, e1, _, w1⟩ := DataW.trod_int Try.underlying2 g1
    have e0' : c0 = .int .i64 a := by simpa using e0
    have e1' : c1 = .int .i64 b := by simpa using e1
    subst e0' e1'
    exact ⟨a, b, rfl, bounds_i64 w0, bounds_i64 w1⟩
def pyF (x : Py) : Prop := fits x.c ∧ fits x.D
theorem pay_cells {W : World} {fuel : Nat} {cs : List Value} {y : DataW H × List MemPlace} (h : DataW.trod enc Try.prog W 0 (fun _ => true) true fuel 25 cs = some y) (hl : cs.length = 3) :
    ∃ x : Py, cs = [.int .i64 x.c, .int .i64 x.D, .bool x.b] ∧ pyF x := by
  obtain ⟨xs, m, _, _, _, hxl, hg⟩ := DataW.trod_struct Try.underlying25 h
  have hxl3 : xs.length = 3 := hxl
  have k1 : Try.prog.cellsOf 4 = 1 := by kernel_rfl
  have k2 : Try.prog.cellsOf 2 = 1 := by kernel_rfl
  match cs, hl with
  | [c0, c1, c2], _ =>
    have g0 : DataW.trod enc Try.prog W 0 (fun _ => true) true m 2 (([c0, c1, c2].drop 0).take (Try.prog.cellsOf 2)) = xs[0]? := hg 0 _ rfl
    have g1 : DataW.trod enc Try.prog W 0 (fun _ => true) true m 2 (([c0, c1, c2].drop 1).take (Try.prog.cellsOf 2)) = xs[1]? := hg 1 _ rfl
    have g2 : DataW.trod enc Try.prog W 0 (fun _ => true) true m 4 (([c0, c1, c2].drop 2).take (Try.prog.cellsOf 4)) = xs[2]? := hg 2 _ rfl
    rw [k2, List.getElem?_eq_getElem (by omega)] at g0 g1
    rw [k1, List.getElem?_eq_getElem (by omega)] at g2
    obtain ⟨a, e0, _, w0⟩ := DataW.trod_int Try.underlying2 g0
    obtain ⟨b, e1, _, w1⟩ := DataW.trod_int Try.underlying2 g1
    obtain ⟨c, e2, _⟩ := DataW.trod_bool Try.underlying4 g2
    have e0' : c0 = .int .i64 a := by simpa using e0
    have e1' : c1 = .int .i64 b := by simpa using e1
    have e2' : c2 = .bool c := by simpa using e2
    subst e0' e1' e2'
    exact ⟨⟨a, b, c⟩, rfl, bounds_i64 w0, bounds_i64 w1⟩
theorem open_pay {W : World} {r : Reach} {base : Nat} {v : Value} {d : DataW H} {p : List MemPlace} (hv : Value.okWide Try.prog W r base 25 v) (h : DataW.Trod enc Try.prog W 0 (fun _ => true) true 25 v d p) :
    ∃ x : Py, v = .agg #[.int .i64 x.c, .int .i64 x.D, .bool x.b] ∧ pyF x := by
  obtain ⟨cs, rfl, hsz⟩ := okWide_struct Try.underlying25 hv
  have hC : Try.prog.cellsOf 25 = 3 := by kernel_rfl
  obtain ⟨l⟩ := cs
  obtain ⟨fuel, hf⟩ := h
  obtain ⟨x, e, hx⟩ := pay_cells hf (show l.length = 3 from hsz.trans hC)
  have e' : l = _ := e
  subst e'
  exact ⟨x, rfl, hx⟩
instance : Inhabited Py := ⟨⟨0, 0, false⟩⟩
theorem open_pays {W : World} {A : Option Addr} {n c : Nat} {d : DataW H} {p : List MemPlace} (h : DataW.Trod enc Try.prog W 0 (fun _ => true) true 38 (.slice A n c) d p) :
    ∃ f : Nat → Py, Pys W A n f ∧ n ≤ 9223372036854775807 ∧ ∀ i, i < n → pyF (f i) := by
  obtain ⟨f, hn, hr⟩ := slice_rows (α := Py) (fun cs x => cs = [.int .i64 x.c, .int .i64 x.D, .bool x.b] ∧ pyF x) Try.underlying38 (k := 3) (by kernel_rfl) (by omega) (fun _ _ _ h hl => pay_cells h hl) h
  refine ⟨f, fun h0 => ?_, hn.1, fun i hi => ?_⟩
  · obtain ⟨b, o, hA, hc⟩ := hr h0
    refine ⟨b, o, hA, fun i hi => ?_⟩
    obtain ⟨cs, hl, ⟨rfl, _⟩, hz⟩ := hc i hi
    exact ⟨hz 0 (by omega), hz 1 (by omega), hz 2 (by omega)⟩
  · obtain ⟨b, o, hA, hc⟩ := hr (by omega)
    obtain ⟨cs, hl, ⟨_, hb⟩, hz⟩ := hc i hi
    exact hb
end
end Go.Proofs.Ytgekojbmlppmdaa
