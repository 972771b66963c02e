/- A slice of shares that came in, and a slice of arrays of two numbers: their numbers, wherever they lie; each of them fits. -/
import Derived.Test.YtkiefceomgbbhaaPostC
import Derived.Test.YtkiefceomgbbhaaPairD
namespace Go.Proofs.Ytkiefceomgbbhaa
open Go.ChangeShapes Go.WideShapes Go.ChangeAt Go.RowKit Go.Deep
set_option maxRecDepth 100000
set_option linter.unusedVariables false
section
variable {H : Type} {enc : TypeId × Value → H}
theorem two_ints {W : World} {fuel : Nat} {elem : TypeId} {f0 f1 : Field} {cs : List Value} {y : DataW H × List MemPlace} (he : Try.prog.underlying elem = some (.struct #[f0, f1])) (hc : Try.prog.cellsOf elem = 2)
    (o0 : f0.offset = 0) (o1 : f1.offset = 1) (u0 : Try.prog.underlying f0.type = some (.int .i64)) (u1 : Try.prog.underlying f1.type = some (.int .i64))
    (k0 : Try.prog.cellsOf f0.type = 1) (k1 : Try.prog.cellsOf f1.type = 1) (h : DataW.trod enc Try.prog W 0 (fun _ => true) true fuel elem cs = some y) :
    ∃ a b : Int, cs = [.int .i64 a, .int .i64 b] ∧ fits a ∧ fits b := by
  obtain ⟨xs, m, _, _, hl, hxl, hg⟩ := DataW.trod_struct he h
  rw [hc] at hl
  have hxl3 : xs.length = 2 := hxl
  match cs, hl with
  | [c0, c1], _ =>
    have g0 := hg 0 f0 rfl
    have g1 := hg 1 f1 rfl
    rw [o0, k0, List.getElem?_eq_getElem (by omega)] at g0
    rw [o1, k1, List.getElem?_eq_getElem (by omega)] at g1
    obtain ⟨a, e0, _, w0⟩ := DataW.trod_int u0 g0
    obtain ⟨b, e1, _, w1⟩ := DataW.trod_int u1 g1
    have e0' : c0 = .int .i64 a := by simpa using e0
    have e1' : c1 = .int .i64 b := by simpa using e1
    subst e0' e1'
    exact ⟨a, b, rfl, bounds_i64 w0, bounds_i64 w1⟩
theorem two_arr {W : World} {fuel : Nat} {t elem : TypeId} {cs : List Value} {y : DataW H × List MemPlace} (ht : Try.prog.underlying t = some (.array 2 elem)) (he : Try.prog.underlying elem = some (.int .i64)) (hc : Try.prog.cellsOf elem = 1)
    (h : DataW.trod enc Try.prog W 0 (fun _ => true) true fuel t cs = some y) (hl : cs.length = 2) : ∃ a b : Int, cs = [.int .i64 a, .int .i64 b] ∧ fits a ∧ fits b := by
  obtain ⟨xs, m, _, _, _, _, hg⟩ := DataW.trod_array ht h
  match cs, hl with
  | [c0, c1], _ =>
    have g0 := hg 0 (by omega)
    have g1 := hg 1 (by omega)
    rw [hc] at g0 g1
    have hx : 0 < xs.length ∧ 1 < xs.length := by omega
    rw [List.getElem?_eq_getElem hx.1] at g0
    rw [List.getElem?_eq_getElem hx.2] at g1
    obtain ⟨a, e0, _, w0⟩ := DataW.trod_int he g0
    obtain ⟨b, e1, _, w1⟩ := DataW.trod_int he g1
    have e0' : c0 = .int .i64 a := by simpa using e0
    have e1' : c1 = .int .i64 b := by simpa using e1
    subst e0' e1'
    exact ⟨a, b, rfl, bounds_i64 w0, bounds_i64 w1⟩
theorem slice_twos {W : World} {t elem : TypeId} {A : Option Addr} {n c : Nat} {d : DataW H} {p : List MemPlace} (ht : Try.prog.underlying t = some (.slice elem)) (hC : Try.prog.cellsOf elem = 2)
    (hel : ∀ (fuel : Nat) (cs : List Value) (y : DataW H × List MemPlace), DataW.trod enc Try.prog W 0 (fun _ => true) true fuel elem cs = some y → cs.length = 2 → ∃ a b : Int, cs = [.int .i64 a, .int .i64 b] ∧ fits a ∧ fits b)
    (h : DataW.Trod enc Try.prog W 0 (fun _ => true) true t (.slice A n c) d p) :
    ∃ X Y : Nat → Int, Shs W A n X Y ∧ n ≤ 9223372036854775807 ∧ ∀ i, i < n → fits (X i) ∧ fits (Y i) := by
  obtain ⟨fuel, hf⟩ := h
  rcases open_slice ht hf with ⟨hcs, _⟩ | ⟨a, len, cap, m, k, D, Pl, hcs, _, hl, hm, hmm, _, hi⟩
  · simp only [Value.cells, List.cons.injEq, Value.slice.injEq] at hcs
    obtain ⟨⟨rfl, rfl, rfl⟩, _⟩ := hcs
    exact ⟨fun _ => 0, fun _ => 0, fun h0 => absurd h0 (Nat.lt_irrefl 0), by omega, fun i hi => by omega⟩
  · simp only [Value.cells, List.cons.injEq, Value.slice.injEq] at hcs
    obtain ⟨⟨rfl, rfl, rfl⟩, _⟩ := hcs
    have key : ∀ i, i < n → ∃ x y : Int, W.cell? (a.add (i * 2)) = some (.int .i64 x) ∧ W.cell? ((a.add (i * 2)).add 1) = some (.int .i64 y) ∧ fits x ∧ fits y := fun i hin => by
      obtain ⟨cs', h1, h2⟩ := hi i (by simp at hmm; omega)
      rw [hC] at h1
      obtain ⟨_, hlen, hat⟩ := World.cells?_some h1
      obtain ⟨x, y, rfl, b0, b1⟩ := hel _ _ _ h2 hlen
      have z0 := hat 0 (by omega)
      have z1 := hat 1 (by omega)
      have e0 : (a.add (i * 2)).add 0 = a.add (i * 2) := rfl
      rw [e0] at z0
      exact ⟨x, y, z0, z1, b0, b1⟩
    obtain ⟨b, o, spot⟩ := a
    refine ⟨fun i => intOf ((W.cell? ⟨b, o + i * 2, none⟩).getD undef), fun i => intOf ((W.cell? ⟨b, o + i * 2 + 1, none⟩).getD undef), ?_, by unfold maxLen at hm; omega, ?_⟩
    · intro hn
      obtain ⟨x, y, h0, _⟩ := key 0 hn
      have hspot : spot = none := by simpa [Addr.add] using World.cell?_spot h0
      subst hspot
      refine ⟨b, o, rfl, fun i hin => ?_⟩
      obtain ⟨x, y, h0, h1, _⟩ := key i hin
      rw [Go.WideShapes.add_plain] at h0
      rw [Go.WideShapes.add_plain, Go.WideShapes.add_plain] at h1
      refine ⟨?_, ?_⟩
      · simp [h0, intOf]
      · simp [h1, intOf]
    · intro i hin
      obtain ⟨x, y, h0, _⟩ := key 0 (by omega)
      have hspot : spot = none := by simpa [Addr.add] using World.cell?_spot h0
      subst hspot
      obtain ⟨x, y, h0, h1, b0, b1⟩ := key i hin
      rw [Go.WideShapes.add_plain] at h0
      rw [Go.WideShapes.add_plain, Go.WideShapes.add_plain] at h1
      simp only [h0, h1]
      exact ⟨b0, b1⟩
theorem slice_shares {W : World} {A : Option Addr} {n c : Nat} {d : DataW H} {p : List MemPlace} (h : DataW.Trod enc Try.prog W 0 (fun _ => true) true 73 (.slice A n c) d p) :
    ∃ X Y : Nat → Int, Shs W A n X Y ∧ n ≤ 9223372036854775807 ∧ ∀ i, i < n → fits (X i) ∧ fits (Y i) :=
  slice_twos Try.underlying73 (by kernel_rfl) (fun _ _ _ h _ => two_ints Try.underlying65 (by kernel_rfl) rfl rfl (by kernel_rfl) (by kernel_rfl) (by kernel_rfl) (by kernel_rfl) h) h
theorem slice_arrs {W : World} {A : Option Addr} {n c : Nat} {d : DataW H} {p : List MemPlace} (h : DataW.Trod enc Try.prog W 0 (fun _ => true) true 57 (.slice A n c) d p) :
    ∃ X Y : Nat → Int, Shs W A n X Y ∧ n ≤ 9223372036854775807 ∧ ∀ i, i < n → fits (X i) ∧ fits (Y i) :=
  slice_twos Try.underlying57 (by kernel_rfl) (fun _ _ _ h hl => two_arr Try.underlying59 Try.underlying2 (by kernel_rfl) h hl) h
end
end Go.Proofs.Ytkiefceomgbbhaa
