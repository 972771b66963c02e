/- A choice that came in: its numbers, and its row. -/
import Derived.Test.YtoppipjbdakmeaaOpenT
import Derived.Test.YtoppipjbdakmeaaTabL
namespace Go.Proofs.Ytoppipjbdakmeaa
open Go.ChangeShapes Go.WideShapes Go.ChangeAt Go.RowKit Go.Deep
set_option maxRecDepth 100000
set_option linter.unusedVariables false
set_option linter.unusedSimpArgs false
section
variable {H : Type} {enc : TypeId × Value → H}
instance : Inhabited Int := ⟨0⟩
theorem ints_of {W : World} {A : Option Addr} {n c fuel : Nat} {y : DataW H × List MemPlace} (h : DataW.trod enc Try.prog W 0 (fun _ => true) true fuel 31 [.slice A n c] = some y) :
    ∃ f : Nat → Int, Ri W A n f ∧ n ≤ 9223372036854775807 := by
  obtain ⟨f, hn, hr⟩ := slice_rows (α := Int) (W := W) (d := y.1) (p := y.2) (fun cs x => cs = [.int .i64 x]) Try.underlying31 (k := 1) (by kernel_rfl) (by omega) (fun _ cs _ h hl => by
    match cs, hl with
    | [v], _ =>
      obtain ⟨x, e, _⟩ := DataW.trod_int Try.underlying3 h
      exact ⟨x, e⟩) ⟨fuel, h⟩
  refine ⟨f, fun h0 => ?_, hn.1⟩
  obtain ⟨b, o, hA, hc⟩ := hr h0
  refine ⟨b, o, hA, fun i hi => ?_⟩
  obtain ⟨cs, hl, rfl, hz⟩ := hc i hi
  have := hz 0 (by omega)
  rw [Nat.mul_one] at this
  exact this
theorem open_choice {W : World} {r : Reach} {base : Nat} {v : Value} {d : DataW H} {p : List MemPlace} (hv : Value.okWide Try.prog W r base 33 v) (h : DataW.Trod enc Try.prog W 0 (fun _ => true) true 33 v d p) :
    ∃ (s b : Int) (A : Option Addr) (m c : Nat) (k : Int) (f : Nat → Int), v = .agg #[.int .i64 s, .int .i64 b, .slice A m c, .int .i64 k] ∧ Ri W A m f ∧ m ≤ 9223372036854775807 := by
  obtain ⟨cs, rfl, hsz⟩ := okWide_struct Try.underlying33 hv
  have hC : Try.prog.cellsOf 33 = 4 := by kernel_rfl
  have k1 : Try.prog.cellsOf 3 = 1 := by kernel_rfl
  have k2 : Try.prog.cellsOf 31 = 1 := by kernel_rfl
  obtain ⟨l⟩ := cs
  match l, hsz.trans hC with
  | [c0, c1, c2, c3], _ =>
    obtain ⟨fuel, hf⟩ := h
    obtain ⟨xs, m, _, _, _, hlen, hg⟩ := DataW.trod_struct Try.underlying33 hf
    have hl : xs.length = 4 := hlen
    have g0 : DataW.trod enc Try.prog W 0 (fun _ => true) true m 3 (([c0, c1, c2, c3].drop 0).take (Try.prog.cellsOf 3)) = xs[0]? := hg 0 _ rfl
    have g1 : DataW.trod enc Try.prog W 0 (fun _ => true) true m 3 (([c0, c1, c2, c3].drop 1).take (Try.prog.cellsOf 3)) = xs[1]? := hg 1 _ rfl
    have g2 : DataW.trod enc Try.prog W 0 (fun _ => true) true m 31 (([c0, c1, c2, c3].drop 2).take (Try.prog.cellsOf 31)) = xs[2]? := hg 2 _ rfl
    have g3 : DataW.trod enc Try.prog W 0 (fun _ => true) true m 3 (([c0, c1, c2, c3].drop 3).take (Try.prog.cellsOf 3)) = xs[3]? := hg 3 _ rfl
    rw [k1, List.getElem?_eq_getElem (by omega)] at g0 g1 g3
    rw [k2, List.getElem?_eq_getElem (by omega)] at g2
    obtain ⟨s, e0, _⟩ := DataW.trod_int Try.underlying3 g0
    obtain ⟨b, e1, _⟩ := DataW.trod_int Try.underlying3 g1
    obtain ⟨k, e3, _⟩ := DataW.trod_int Try.underlying3 g3
    obtain ⟨A, n, c, rfl⟩ := slice_is Try.underlying31 g2
    obtain ⟨f, hr, hn⟩ := ints_of g2
    have e0' : c0 = .int .i64 s := by simpa using e0
    have e1' : c1 = .int .i64 b := by simpa using e1
    have e3' : c3 = .int .i64 k := by simpa using e3
    subst e0' e1' e3'
    exact ⟨s, b, A, n, c, k, f, rfl, hr, hn⟩
end
end Go.Proofs.Ytoppipjbdakmeaa
