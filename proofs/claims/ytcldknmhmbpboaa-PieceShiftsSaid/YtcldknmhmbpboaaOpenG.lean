/- Functions of straight pieces that came in, with their room. -/
import Derived.Test.YtcldknmhmbpboaaOpenF
namespace Go.Proofs.Ytcldknmhmbpboaa
open Go.ChangeShapes Go.WideShapes Go.ChangeAt Go.RowKit Go.Deep
set_option maxRecDepth 100000
set_option linter.unusedVariables false
set_option linter.unusedSimpArgs false
section
variable {H : Type} {enc : TypeId × Value → H}
/-- a function that came in -/
theorem open_funcc {W : World} {A : Option Addr} {n c : Nat} {d : DataW H} {p : List MemPlace} (h : DataW.Trod enc Try.prog W 0 (fun _ => true) true 23 (.slice A n c) d p) :
    ∃ f : Lf, f.n = n ∧ Lm W A f ∧ (n ≤ 9223372036854775807 ∧ n ≤ c) := by
  obtain ⟨f, hn, hr⟩ := slice_rows (α := Int × Int × Int) (W := W) (d := d) (p := p) (fun cs x => cs = [.int .i64 x.1, .int .i64 x.2.1, .int .i64 x.2.2] ∧ fits x.1 ∧ fits x.2.1 ∧ fits x.2.2) Try.underlying23 (k := 3) (by kernel_rfl) (by omega) (fun _ _ _ h hl => three_ints h hl) h
  refine ⟨⟨n, fun i => (f i).1, fun i => (f i).2.1, fun i => (f i).2.2⟩, rfl, fun h0 => ?_, hn⟩
  obtain ⟨b, o, hA, hc⟩ := hr h0
  refine ⟨b, o, hA, fun i hi => ?_⟩
  obtain ⟨cs, hl, ⟨rfl, _⟩, hz⟩ := hc i hi
  exact ⟨hz 0 (by omega), hz 1 (by omega), hz 2 (by omega)⟩
end
end Go.Proofs.Ytcldknmhmbpboaa
