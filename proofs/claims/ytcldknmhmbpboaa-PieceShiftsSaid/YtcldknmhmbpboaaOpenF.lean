/- Functions of straight pieces that came in, wherever they lie. -/
import Derived.Test.YtcldknmhmbpboaaPost
import Derived.Test.YtcldknmhmbpboaaPcM
import Derived.Deep.Slices
import Derived.ChangeArms
namespace Go.Proofs.Ytcldknmhmbpboaa
open Go.ChangeShapes Go.WideShapes Go.ChangeAt Go.RowKit Go.Deep
set_option maxRecDepth 100000
set_option linter.unusedVariables false
set_option linter.unusedSimpArgs false
section
variable {H : Type} {enc : TypeId × Value → H}
def fits (x : Int) : Prop := -9223372036854775808 ≤ x ∧ x ≤ 9223372036854775807
/-- a row of elements of k cells each: what each of them tells, wherever they lie -/
theorem slice_rows {W : World} {t elem : TypeId} {k : Nat} {A : Option Addr} {n c : Nat} {d : DataW H} {p : List MemPlace} {α : Type} [Inhabited α] (Q : List Value → α → Prop) (ht : Try.prog.underlying t = some (.slice elem)) (hC : Try.prog.cellsOf elem = k) (k0 : 0 < k)
    (hel : ∀ (fuel : Nat) (cs : List Value) (y : DataW H × List MemPlace), DataW.trod enc Try.prog W 0 (fun _ => true) true fuel elem cs = some y → cs.length = k → ∃ a, Q cs a)
    (h : DataW.Trod enc Try.prog W 0 (fun _ => true) true t (.slice A n c) d p) :
    ∃ f : Nat → α, (n ≤ 9223372036854775807 ∧ n ≤ c) ∧ (0 < n → ∃ b o, A = some ⟨b, o, none⟩ ∧ ∀ i, i < n → ∃ cs : List Value, cs.length = k ∧ Q cs (f i) ∧ ∀ j, j < k → W.cell? ⟨b, o + i * k + j, none⟩ = cs[j]?) := by
  obtain ⟨fuel, hf⟩ := h
  rcases open_slice ht hf with ⟨hcs, _⟩ | ⟨a, len, cap, m, q, D, Pl, hcs, _, hl, hm, hmm, _, hi⟩
  · simp only [Value.cells, List.cons.injEq, Value.slice.injEq] at hcs
    obtain ⟨⟨rfl, rfl, rfl⟩, _⟩ := hcs
    exact ⟨fun _ => default, ⟨by omega, by omega⟩, fun h0 => absurd h0 (Nat.lt_irrefl 0)⟩
  · simp only [Value.cells, List.cons.injEq, Value.slice.injEq] at hcs
    obtain ⟨⟨rfl, rfl, rfl⟩, _⟩ := hcs
    have key : ∀ i, ∃ x : α, i < n → ∃ cs : List Value, cs.length = k ∧ Q cs x ∧ ∀ j, j < k → W.cell? ((a.add (i * k)).add j) = cs[j]? := fun i => by
      by_cases hin : i < n
      · obtain ⟨cs', h1, h2⟩ := hi i (by simp at hmm; omega)
        rw [hC] at h1
        obtain ⟨_, hlen, hat⟩ := World.cells?_some h1
        obtain ⟨x, hx⟩ := hel _ _ _ h2 hlen
        exact ⟨x, fun _ => ⟨cs', hlen, hx, fun j hj => hat j hj⟩⟩
      · exact ⟨default, fun hh => absurd hh hin⟩
    obtain ⟨b, o, spot⟩ := a
    refine ⟨fun i => Classical.choose (key i), ⟨by unfold maxLen at hm; omega, hl⟩, fun hn => ?_⟩
    obtain ⟨cs, hl0, _, hz⟩ := Classical.choose_spec (key 0) hn
    have z0 := hz 0 k0
    have hspot : spot = none := by
      rw [List.getElem?_eq_getElem (by omega)] at z0
      have : (((⟨b, o, spot⟩ : Addr).add (0 * k)).add 0).spot = none := World.cell?_spot z0
      simpa [Addr.add] using this
    subst hspot
    refine ⟨b, o, rfl, fun i hin => ?_⟩
    obtain ⟨cs, hl0, hq, hz⟩ := Classical.choose_spec (key i) hin
    refine ⟨cs, hl0, hq, fun j hj => ?_⟩
    have := hz j hj
    rw [Go.WideShapes.add_plain, Go.WideShapes.add_plain] at this
    exact this
theorem three_ints {W : World} {fuel : Nat} {cs : List Value} {y : DataW H × List MemPlace} (h : DataW.trod enc Try.prog W 0 (fun _ => true) true fuel 37 cs = some y) (hl : cs.length = 3) :
    ∃ x : Int × Int × Int, cs = [.int .i64 x.1, .int .i64 x.2.1, .int .i64 x.2.2] ∧ fits x.1 ∧ fits x.2.1 ∧ fits x.2.2 := by
  obtain ⟨xs, m, _, _, _, hxl, hg⟩ := DataW.trod_struct Try.underlying37 h
  have hxl3 : xs.length = 3 := hxl
  have k1 : Try.prog.cellsOf 3 = 1 := by kernel_rfl
  have k3 : Try.prog.cellsOf 27 = 1 := by kernel_rfl
  have k2 : Try.prog.cellsOf 2 = 1 := by kernel_rfl
  match cs, hl with
  | [c0, c1, c2], _ =>
    have g0 : DataW.trod enc Try.prog W 0 (fun _ => true) true m 2 (([c0, c1, c2].drop 0).take (Try.prog.cellsOf 2)) = xs[0]? := hg 0 _ rfl
    have g1 : DataW.trod enc Try.prog W 0 (fun _ => true) true m 27 (([c0, c1, c2].drop 1).take (Try.prog.cellsOf 27)) = xs[1]? := hg 1 _ rfl
    have g2 : DataW.trod enc Try.prog W 0 (fun _ => true) true m 3 (([c0, c1, c2].drop 2).take (Try.prog.cellsOf 3)) = xs[2]? := hg 2 _ rfl
    rw [k2, List.getElem?_eq_getElem (by omega)] at g0
    rw [k3, List.getElem?_eq_getElem (by omega)] at g1
    rw [k1, List.getElem?_eq_getElem (by omega)] at g2
    obtain ⟨a, e0, _, w0⟩ := DataW.trod_int Try.underlying2 g0
    obtain ⟨b, e1, _, w1⟩ := DataW.trod_int Try.underlying27 g1
    obtain ⟨c, e2, _, w2⟩ := DataW.trod_int Try.underlying3 g2
    have e0' : c0 = .int .i64 a := by simpa using e0
    have e1' : c1 = .int .i64 b := by simpa using e1
    have e2' : c2 = .int .i64 c := by simpa using e2
    subst e0' e1' e2'
    exact ⟨(a, b, c), rfl, bounds_i64 w0, bounds_i64 w1, bounds_i64 w2⟩
/-- a function that came in -/
theorem open_func {W : World} {A : Option Addr} {n c : Nat} {d : DataW H} {p : List MemPlace} (h : DataW.Trod enc Try.prog W 0 (fun _ => true) true 23 (.slice A n c) d p) :
    ∃ f : Lf, f.n = n ∧ Lm W A f ∧ n ≤ 9223372036854775807 := by
  obtain ⟨f, hn, hr⟩ := slice_rows (α := Int × Int × Int) (W := W) (d := d) (p := p) (fun cs x => cs = [.int .i64 x.1, .int .i64 x.2.1, .int .i64 x.2.2] ∧ fits x.1 ∧ fits x.2.1 ∧ fits x.2.2) Try.underlying23 (k := 3) (by kernel_rfl) (by omega) (fun _ _ _ h hl => three_ints h hl) h
  refine ⟨⟨n, fun i => (f i).1, fun i => (f i).2.1, fun i => (f i).2.2⟩, rfl, fun h0 => ?_, hn.1⟩
  obtain ⟨b, o, hA, hc⟩ := hr h0
  refine ⟨b, o, hA, fun i hi => ?_⟩
  obtain ⟨cs, hl, ⟨rfl, _⟩, hz⟩ := hc i hi
  exact ⟨hz 0 (by omega), hz 1 (by omega), hz 2 (by omega)⟩
end
end Go.Proofs.Ytcldknmhmbpboaa
