/- Rows of shares that came in. -/
import Derived.Test.YtgdalejccbhjcaaDoorPost
import Derived.Test.YtgdalejccbhjcaaDoorSocE
import Derived.Deep.Slices
import Derived.ChangeArms
namespace Go.Proofs.YtgdalejccbhjcaaDoor
open Go.ChangeShapes Go.WideShapes Go.ChangeAt Go.RowKit Go.Deep
set_option maxRecDepth 100000
set_option linter.unusedVariables false
set_option linter.unusedSimpArgs false
section
variable {H : Type} {enc : TypeId × Value → H}
/-- a row of elements of k cells each: what each of them tells, wherever they lie -/
theorem slice_rows {W : World} {t elem : TypeId} {k : Nat} {A : Option Addr} {n c : Nat} {d : DataW H} {p : List MemPlace} {α : Type} [Inhabited α] (Q : List Value → α → Prop) (ht : Tryd.prog.underlying t = some (.slice elem)) (hC : Tryd.prog.cellsOf elem = k) (k0 : 0 < k)
    (hel : ∀ (fuel : Nat) (cs : List Value) (y : DataW H × List MemPlace), DataW.trod enc Tryd.prog W 0 (fun _ => true) true fuel elem cs = some y → cs.length = k → ∃ a, Q cs a)
    (h : DataW.Trod enc Tryd.prog W 0 (fun _ => true) true t (.slice A n c) d p) :
    ∃ f : Nat → α, (n ≤ 9223372036854775807 ∧ n ≤ c) ∧ (0 < n → ∃ b o, A = some ⟨b, o, none⟩ ∧ ∀ i, i < n → ∃ cs : List Value, cs.length = k ∧ Q cs (f i) ∧ ∀ j, j < k → W.cell? ⟨b, o + i * k + j, none⟩ = cs[j]?) := by
  obtain ⟨fuel, hf⟩ := h
  rcases open_slice ht hf with ⟨hcs, _⟩ | ⟨a, len, cap, m, q, D, Pl, hcs, _, hl, hm, hmm, _, hi⟩
  · simp only [Value.cells, List.cons.injEq, Value.slice.injEq] at hcs
    obtain ⟨⟨rfl, rfl, rfl⟩, _⟩ := hcs
    exact ⟨fun _ => default, ⟨by omega, by omega⟩, fun h0 => absurd h0 (Nat.lt_irrefl 0)⟩
  · simp only [Value.cells, List.cons.injEq, Value.slice.injEq] at hcs
    obtain ⟨⟨rfl, rfl, rfl⟩, _⟩ := hcs
    have key : ∀ i, ∃ x : α, i < n → ∃ cs : List Value, cs.length = k ∧ Q cs x ∧ ∀ j, j < k → W.cell? ((a.add (i * k)).add j) = cs[j]? := fun i => by
      by_cases hin : i < n
      · obtain ⟨cs', h1, h2⟩ := hi i (by simp at hmm; omega)
        rw [hC] at h1
        obtain ⟨_, hlen, hat⟩ := World.cells?_some h1
        obtain ⟨x, hx⟩ := hel _ _ _ h2 hlen
        exact ⟨x, fun _ => ⟨cs', hlen, hx, fun j hj => hat j hj⟩⟩
      · exact ⟨default, fun hh => absurd hh hin⟩
    obtain ⟨b, o, spot⟩ := a
    refine ⟨fun i => Classical.choose (key i), ⟨by unfold maxLen at hm; omega, hl⟩, fun hn => ?_⟩
    obtain ⟨cs, hl0, _, hz⟩ := Classical.choose_spec (key 0) hn
    have z0 := hz 0 k0
    have hspot : spot = none := by
      rw [List.getElem?_eq_getElem (by omega)] at z0
      have : (((⟨b, o, spot⟩ : Addr).add (0 * k)).add 0).spot = none := World.cell?_spot z0
      simpa [Addr.add] using this
    subst hspot
    refine ⟨b, o, rfl, fun i hin => ?_⟩
    obtain ⟨cs, hl0, hq, hz⟩ := Classical.choose_spec (key i) hin
    refine ⟨cs, hl0, hq, fun j hj => ?_⟩
    have := hz j hj
    rw [Go.WideShapes.add_plain, Go.WideShapes.add_plain] at this
    exact this
theorem slice_is {t e : TypeId} {W : World} {fuel : Nat} {v : Value} {y : DataW H × List MemPlace} (ht : Tryd.prog.underlying t = some (.slice e)) (h : DataW.trod enc Tryd.prog W 0 (fun _ => true) true fuel t [v] = some y) : ∃ A n c, v = .slice A n c := by
  rcases open_slice ht h with ⟨hcs, _⟩ | ⟨a, len, cap, m, q, D, Pl, hcs, _⟩
  · exact ⟨_, _, _, by simpa using hcs⟩
  · exact ⟨_, _, _, by simpa using hcs⟩
def fitI (x : Int) : Prop := -9223372036854775808 ≤ x ∧ x ≤ 9223372036854775807
theorem share_cells {W : World} {fuel : Nat} {cs : List Value} {y : DataW H × List MemPlace} (h : DataW.trod enc Tryd.prog W 0 (fun _ => true) true fuel 71 cs = some y) (hl : cs.length = 2) :
    ∃ g : Int × Int, cs = [.int .i64 g.1, .int .i64 g.2] ∧ fitI g.1 ∧ fitI g.2 := by
  obtain ⟨xs, n, _, _, _, hlen, hg⟩ := DataW.trod_struct Tryd.underlying71 h
  have hl2 : xs.length = 2 := hlen
  have k2 : Tryd.prog.cellsOf 2 = 1 := by kernel_rfl
  match cs, hl with
  | [c0, c1], _ =>
    have g0 : DataW.trod enc Tryd.prog W 0 (fun _ => true) true n 2 (([c0, c1].drop 0).take (Tryd.prog.cellsOf 2)) = xs[0]? := hg 0 _ rfl
    have g1 : DataW.trod enc Tryd.prog W 0 (fun _ => true) true n 2 (([c0, c1].drop 1).take (Tryd.prog.cellsOf 2)) = xs[1]? := hg 1 _ rfl
    rw [k2, List.getElem?_eq_getElem (by omega)] at g0 g1
    obtain ⟨a, e0, _, w0⟩ := DataW.trod_int Tryd.underlying2 g0
    obtain ⟨b, e1, _, w1⟩ := DataW.trod_int Tryd.underlying2 g1
    simp at e0 e1
    subst e0 e1
    exact ⟨⟨a, b⟩, rfl, bounds_i64 w0, bounds_i64 w1⟩
theorem row_fits {W : World} {A : Option Addr} {n c : Nat} {d : DataW H} {p : List MemPlace} (h : DataW.Trod enc Tryd.prog W 0 (fun _ => true) true 61 (.slice A n c) d p) :
    ∃ g : Nat → Int × Int, Shs W A n (fun i => (g i).1) (fun i => (g i).2) ∧ n ≤ 9223372036854775807 ∧ n ≤ c ∧ ∀ i, i < n → fitI (g i).1 ∧ fitI (g i).2 := by
  obtain ⟨g, hn, hr⟩ := slice_rows (α := Int × Int) (fun cs g => cs = [.int .i64 g.1, .int .i64 g.2] ∧ fitI g.1 ∧ fitI g.2) Tryd.underlying61 (k := 2) (by kernel_rfl) (by omega) (fun _ _ _ h hl => share_cells h hl) h
  refine ⟨g, fun h0 => ?_, hn.1, hn.2, fun i hi => ?_⟩
  · obtain ⟨b, o, hA, hc⟩ := hr h0
    refine ⟨b, o, hA, fun i hi => ?_⟩
    obtain ⟨cs, hl, ⟨rfl, _⟩, hz⟩ := hc i hi
    exact ⟨hz 0 (by omega), hz 1 (by omega)⟩
  · obtain ⟨b, o, hA, hc⟩ := hr (by omega)
    obtain ⟨cs, hl, ⟨_, hb⟩, hz⟩ := hc i hi
    exact hb
theorem open_row {W : World} {A : Option Addr} {n c : Nat} {d : DataW H} {p : List MemPlace} (h : DataW.Trod enc Tryd.prog W 0 (fun _ => true) true 61 (.slice A n c) d p) :
    ∃ X Y : Nat → Int, Shs W A n X Y ∧ n ≤ 9223372036854775807 ∧ n ≤ c ∧ ∀ i, i < n → fitI (X i) ∧ fitI (Y i) := by
  obtain ⟨g, h1, h2⟩ := row_fits h
  exact ⟨_, _, h1, h2⟩
/-- what a row tells -/
structure RB where
  A : Option Addr
  n : Nat
  c : Nat
  X : Nat → Int
  Y : Nat → Int
instance : Inhabited RB := ⟨⟨none, 0, 0, fun _ => 0, fun _ => 0⟩⟩
def RbF (W : World) (r : RB) : Prop := Shs W r.A r.n r.X r.Y ∧ r.n ≤ 9223372036854775807 ∧ r.n ≤ r.c ∧ ∀ i, i < r.n → fitI (r.X i) ∧ fitI (r.Y i)
theorem open_rows {W : World} {A : Option Addr} {n c : Nat} {d : DataW H} {p : List MemPlace} (h : DataW.Trod enc Tryd.prog W 0 (fun _ => true) true 139 (.slice A n c) d p) :
    ∃ R : Nat → RB, (0 < n → ∃ b o, A = some ⟨b, o, none⟩ ∧ ∀ i, i < n → W.cell? ⟨b, o + i, none⟩ = some (.slice (R i).A (R i).n (R i).c) ∧ RbF W (R i)) ∧ n ≤ 9223372036854775807 := by
  obtain ⟨R, hn, hr⟩ := slice_rows (α := RB) (fun cs r => cs = [.slice r.A r.n r.c] ∧ RbF W r) Tryd.underlying139 (k := 1) (by kernel_rfl) (by omega) (fun fuel cs y h hl => by
    match cs, hl with
    | [v], _ =>
      obtain ⟨A', n', c', rfl⟩ := slice_is Tryd.underlying61 h
      obtain ⟨g, h1, h2⟩ := row_fits ⟨fuel, h⟩
      exact ⟨⟨A', n', c', fun i => (g i).1, fun i => (g i).2⟩, rfl, h1, h2⟩) h
  refine ⟨R, fun h0 => ?_, hn.1⟩
  obtain ⟨b, o, hA, hc⟩ := hr h0
  refine ⟨b, o, hA, fun i hi => ?_⟩
  obtain ⟨cs, hl, ⟨rfl, hq⟩, hz⟩ := hc i hi
  have := hz 0 (by omega)
  rw [Nat.mul_one, Nat.add_zero] at this
  exact ⟨this, hq⟩
end
end Go.Proofs.YtgdalejccbhjcaaDoor
