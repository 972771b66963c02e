/- A slice of bands that came in: its bands, wherever they lie; each of their numbers fits. -/
import Derived.Test.YtkiefceomgbbhaaPost
import Derived.Test.YtkiefceomgbbhaaBandA
import Derived.Deep.Slices
import Derived.ChangeArms
namespace Go.Proofs.Ytkiefceomgbbhaa
open Go.ChangeShapes Go.WideShapes Go.ChangeAt Go.RowKit Go.Deep
set_option maxRecDepth 100000
set_option linter.unusedVariables false
section
variable {H : Type} {enc : TypeId × Value → H}
def fits (x : Int) : Prop := -9223372036854775808 ≤ x ∧ x ≤ 9223372036854775807
/-- the three numbers of a struct of three -/
theorem three_ints {W : World} {fuel : Nat} {elem : TypeId} {f0 f1 f2 : Field} {cs : List Value} {y : DataW H × List MemPlace} (he : Try.prog.underlying elem = some (.struct #[f0, f1, f2])) (hc : Try.prog.cellsOf elem = 3)
    (o0 : f0.offset = 0) (o1 : f1.offset = 1) (o2 : f2.offset = 2) (u0 : Try.prog.underlying f0.type = some (.int .i64)) (u1 : Try.prog.underlying f1.type = some (.int .i64)) (u2 : Try.prog.underlying f2.type = some (.int .i64))
    (k0 : Try.prog.cellsOf f0.type = 1) (k1 : Try.prog.cellsOf f1.type = 1) (k2 : Try.prog.cellsOf f2.type = 1) (h : DataW.trod enc Try.prog W 0 (fun _ => true) true fuel elem cs = some y) :
    ∃ a b c : Int, cs = [.int .i64 a, .int .i64 b, .int .i64 c] ∧ fits a ∧ fits b ∧ fits c := by
  obtain ⟨xs, m, _, _, hl, hxl, hg⟩ := DataW.trod_struct he h
  rw [hc] at hl
  have hxl3 : xs.length = 3 := hxl
  match cs, hl with
  | [c0, c1, c2], _ =>
    have g0 := hg 0 f0 rfl
    have g1 := hg 1 f1 rfl
    have g2 := hg 2 f2 rfl
    rw [o0, k0, List.getElem?_eq_getElem (by omega)] at g0
    rw [o1, k1, List.getElem?_eq_getElem (by omega)] at g1
    rw [o2, k2, List.getElem?_eq_getElem (by omega)] at g2
    obtain ⟨a, e0, _, w0⟩ := DataW.trod_int u0 g0
    obtain ⟨b, e1, _, w1⟩ := DataW.trod_int u1 g1
    obtain ⟨c, e2, _, w2⟩ := DataW.trod_int u2 g2
    have e0' : c0 = .int .i64 a := by simpa using e0
    have e1' : c1 = .int .i64 b := by simpa using e1
    have e2' : c2 = .int .i64 c := by simpa using e2
    subst e0' e1' e2'
    exact ⟨a, b, c, rfl, bounds_i64 w0, bounds_i64 w1, bounds_i64 w2⟩
theorem slice_bands {W : World} {A : Option Addr} {n c : Nat} {d : DataW H} {p : List MemPlace} (h : DataW.Trod enc Try.prog W 0 (fun _ => true) true 22 (.slice A n c) d p) :
    ∃ F R E : Nat → Int, Bds W A n F R E ∧ n ≤ 9223372036854775807 ∧ ∀ i, i < n → fits (F i) ∧ fits (R i) ∧ fits (E i) := by
  obtain ⟨fuel, hf⟩ := h
  rcases open_slice Try.underlying22 hf with ⟨hcs, _⟩ | ⟨a, len, cap, m, k, D, Pl, hcs, _, hl, hm, hmm, _, hi⟩
  · simp only [Value.cells, List.cons.injEq, Value.slice.injEq] at hcs
    obtain ⟨⟨rfl, rfl, rfl⟩, _⟩ := hcs
    exact ⟨fun _ => 0, fun _ => 0, fun _ => 0, fun h0 => absurd h0 (Nat.lt_irrefl 0), by omega, fun i hi => by omega⟩
  · simp only [Value.cells, List.cons.injEq, Value.slice.injEq] at hcs
    obtain ⟨⟨rfl, rfl, rfl⟩, _⟩ := hcs
    have hC : Try.prog.cellsOf 37 = 3 := by kernel_rfl
    have key : ∀ i, i < n → ∃ x y z : Int, W.cell? (a.add (i * 3)) = some (.int .i64 x) ∧ W.cell? ((a.add (i * 3)).add 1) = some (.int .i64 y) ∧ W.cell? ((a.add (i * 3)).add 2) = some (.int .i64 z) ∧ fits x ∧ fits y ∧ fits z := fun i hin => by
      obtain ⟨cs', h1, h2⟩ := hi i (by simp at hmm; omega)
      rw [hC] at h1
      obtain ⟨x, y, z, rfl, b0, b1, b2⟩ := three_ints Try.underlying37 hC rfl rfl rfl (by kernel_rfl) (by kernel_rfl) (by kernel_rfl) (by kernel_rfl) (by kernel_rfl) (by kernel_rfl) h2
      obtain ⟨_, _, hat⟩ := World.cells?_some h1
      have z0 := hat 0 (by omega)
      have z1 := hat 1 (by omega)
      have z2 := hat 2 (by omega)
      have e0 : (a.add (i * 3)).add 0 = a.add (i * 3) := rfl
      rw [e0] at z0
      exact ⟨x, y, z, z0, z1, z2, b0, b1, b2⟩
    obtain ⟨b, o, spot⟩ := a
    refine ⟨fun i => intOf ((W.cell? ⟨b, o + i * 3, none⟩).getD undef), fun i => intOf ((W.cell? ⟨b, o + i * 3 + 1, none⟩).getD undef), fun i => intOf ((W.cell? ⟨b, o + i * 3 + 2, none⟩).getD undef), ?_, by unfold maxLen at hm; omega, ?_⟩
    · intro hn
      obtain ⟨x, y, z, h0, _⟩ := key 0 hn
      have hspot : spot = none := by simpa [Addr.add] using World.cell?_spot h0
      subst hspot
      refine ⟨b, o, rfl, fun i hin => ?_⟩
      obtain ⟨x, y, z, h0, h1, h2, _⟩ := key i hin
      rw [Go.WideShapes.add_plain] at h0
      rw [Go.WideShapes.add_plain, Go.WideShapes.add_plain] at h1 h2
      refine ⟨?_, ?_, ?_⟩
      · simp [h0, intOf]
      · simp [h1, intOf]
      · simp [h2, intOf]
    · intro i hin
      obtain ⟨x, y, z, h0, _⟩ := key 0 (by omega)
      have hspot : spot = none := by simpa [Addr.add] using World.cell?_spot h0
      subst hspot
      obtain ⟨x, y, z, h0, h1, h2, b0, b1, b2⟩ := key i hin
      rw [Go.WideShapes.add_plain] at h0
      rw [Go.WideShapes.add_plain, Go.WideShapes.add_plain] at h1 h2
      simp only [h0, h1, h2]
      exact ⟨b0, b1, b2⟩
end
end Go.Proofs.Ytkiefceomgbbhaa
