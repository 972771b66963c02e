/- Orders, and what they took, as arguments that came in. -/
import Derived.Test.YthknjpmhomjobaaGreatDoorPost
import Derived.Test.YthknjpmhomjobaaGreatDoorOrdM
import Derived.Deep.Slices
import Derived.ChangeArms
namespace Go.Proofs.YthknjpmhomjobaaGreatDoor
open Go.ChangeShapes Go.WideShapes Go.ChangeAt Go.RowKit Go.Deep
set_option maxRecDepth 100000
set_option linter.unusedVariables false
set_option linter.unusedSimpArgs false
section
variable {H : Type} {enc : TypeId × Value → H}

/-- a row of elements of k cells each: what each of them tells, wherever they lie -/
theorem slice_rows {W : World} {t elem : TypeId} {k : Nat} {A : Option Addr} {n c : Nat} {d : DataW H} {p : List MemPlace} {α : Type} [Inhabited α] (Q : List Value → α → Prop) (ht : Tryz.prog.underlying t = some (.slice elem)) (hC : Tryz.prog.cellsOf elem = k) (k0 : 0 < k)
    (hel : ∀ (fuel : Nat) (cs : List Value) (y : DataW H × List MemPlace), DataW.trod enc Tryz.prog W 0 (fun _ => true) true fuel elem cs = some y → cs.length = k → ∃ a, Q cs a)
    (h : DataW.Trod enc Tryz.prog W 0 (fun _ => true) true t (.slice A n c) d p) :
    ∃ f : Nat → α, (n ≤ 9223372036854775807 ∧ n ≤ c) ∧ (0 < n → ∃ b o, A = some ⟨b, o, none⟩ ∧ ∀ i, i < n → ∃ cs : List Value, cs.length = k ∧ Q cs (f i) ∧ ∀ j, j < k → W.cell? ⟨b, o + i * k + j, none⟩ = cs[j]?) := by
  obtain ⟨fuel, hf⟩ := h
  rcases open_slice ht hf with ⟨hcs, _⟩ | ⟨a, len, cap, m, q, D, Pl, hcs, _, hl, hm, hmm, _, hi⟩
  · simp only [Value.cells, List.cons.injEq, Value.slice.injEq] at hcs
    obtain ⟨⟨rfl, rfl, rfl⟩, _⟩ := hcs
    exact ⟨fun _ => default, ⟨by omega, by omega⟩, fun h0 => absurd h0 (Nat.lt_irrefl 0)⟩
  · simp only [Value.cells, List.cons.injEq, Value.slice.injEq] at hcs
    obtain ⟨⟨rfl, rfl, rfl⟩, _⟩ := hcs
    have key : ∀ i, ∃ x : α, i < n → ∃ cs : List Value, cs.length = k ∧ Q cs x ∧ ∀ j, j < k → W.cell? ((a.add (i * k)).add j) = cs[j]? := fun i => by
      by_cases hin : i < n
      · obtain ⟨cs', h1, h2⟩ := hi i (by simp at hmm; omega)
        rw [hC] at h1
        obtain ⟨_, hlen, hat⟩ := World.cells?_some h1
        obtain ⟨x, hx⟩ := hel _ _ _ h2 hlen
        exact ⟨x, fun _ => ⟨cs', hlen, hx, fun j hj => hat j hj⟩⟩
      · exact ⟨default, fun hh => absurd hh hin⟩
    obtain ⟨b, o, spot⟩ := a
    refine ⟨fun i => Classical.choose (key i), ⟨by unfold maxLen at hm; omega, hl⟩, fun hn => ?_⟩
    obtain ⟨cs, hl0, _, hz⟩ := Classical.choose_spec (key 0) hn
    have z0 := hz 0 k0
    have hspot : spot = none := by
      rw [List.getElem?_eq_getElem (by omega)] at z0
      have : (((⟨b, o, spot⟩ : Addr).add (0 * k)).add 0).spot = none := World.cell?_spot z0
      simpa [Addr.add] using this
    subst hspot
    refine ⟨b, o, rfl, fun i hin => ?_⟩
    obtain ⟨cs, hl0, hq, hz⟩ := Classical.choose_spec (key i) hin
    refine ⟨cs, hl0, hq, fun j hj => ?_⟩
    have := hz j hj
    rw [Go.WideShapes.add_plain, Go.WideShapes.add_plain] at this
    exact this

theorem order_cells {W : World} {fuel : Nat} {cs : List Value} {y : DataW H × List MemPlace} (h : DataW.trod enc Tryz.prog W 0 (fun _ => true) true fuel 23 cs = some y) (hl : cs.length = 5) :
    ∃ i p a r t : Int, cs = [.int .i64 i, .int .i64 p, .int .i64 a, .int .i64 r, .int .i64 t] ∧ fit i ∧ fit p ∧ fit a ∧ fit r ∧ fit t := by
  obtain ⟨xs, n, _, _, _, hlen, hg⟩ := DataW.trod_struct Tryz.underlying23 h
  have hlx : xs.length = 5 := hlen
  have k1 : Tryz.prog.cellsOf 3 = 1 := by kernel_rfl
  have k2 : Tryz.prog.cellsOf 2 = 1 := by kernel_rfl
  match cs, hl with
  | [c0, c1, c2, c3, c4], _ =>
    have g0 : DataW.trod enc Tryz.prog W 0 (fun _ => true) true n 3 (([c0, c1, c2, c3, c4].drop 0).take (Tryz.prog.cellsOf 3)) = xs[0]? := hg 0 _ rfl
    rw [k1, List.getElem?_eq_getElem (by omega)] at g0
    have g1 : DataW.trod enc Tryz.prog W 0 (fun _ => true) true n 3 (([c0, c1, c2, c3, c4].drop 1).take (Tryz.prog.cellsOf 3)) = xs[1]? := hg 1 _ rfl
    rw [k1, List.getElem?_eq_getElem (by omega)] at g1
    have g2 : DataW.trod enc Tryz.prog W 0 (fun _ => true) true n 2 (([c0, c1, c2, c3, c4].drop 2).take (Tryz.prog.cellsOf 2)) = xs[2]? := hg 2 _ rfl
    rw [k2, List.getElem?_eq_getElem (by omega)] at g2
    have g3 : DataW.trod enc Tryz.prog W 0 (fun _ => true) true n 3 (([c0, c1, c2, c3, c4].drop 3).take (Tryz.prog.cellsOf 3)) = xs[3]? := hg 3 _ rfl
    rw [k1, List.getElem?_eq_getElem (by omega)] at g3
    have g4 : DataW.trod enc Tryz.prog W 0 (fun _ => true) true n 2 (([c0, c1, c2, c3, c4].drop 4).take (Tryz.prog.cellsOf 2)) = xs[4]? := hg 4 _ rfl
    rw [k2, List.getElem?_eq_getElem (by omega)] at g4
    obtain ⟨i, e0, _, w0⟩ := DataW.trod_int Tryz.underlying3 g0
    obtain ⟨p, e1, _, w1⟩ := DataW.trod_int Tryz.underlying3 g1
    obtain ⟨a, e2, _, w2⟩ := DataW.trod_int Tryz.underlying2 g2
    obtain ⟨r, e3, _, w3⟩ := DataW.trod_int Tryz.underlying3 g3
    obtain ⟨t, e4, _, w4⟩ := DataW.trod_int Tryz.underlying2 g4
    simp [Value.cells] at e0 e1 e2 e3 e4
    subst e0 e1 e2 e3 e4
    exact ⟨i, p, a, r, t, rfl, bounds_i64 w0, bounds_i64 w1, bounds_i64 w2, bounds_i64 w3, bounds_i64 w4⟩
theorem taken_cells {W : World} {fuel : Nat} {cs : List Value} {y : DataW H × List MemPlace} (h : DataW.trod enc Tryz.prog W 0 (fun _ => true) true fuel 48 cs = some y) (hl : cs.length = 6) :
    ∃ x0 x1 x2 x3 x4 x5 : Int, cs = [.int .i64 x0, .int .i64 x1, .int .i64 x2, .int .i64 x3, .int .i64 x4, .int .i64 x5] ∧ fit x0 ∧ fit x1 ∧ fit x2 ∧ fit x3 ∧ fit x4 ∧ fit x5 := by
  obtain ⟨xs, n, _, _, _, hlen, hg⟩ := DataW.trod_struct Tryz.underlying48 h
  have hlx : xs.length = 6 := hlen
  have k1 : Tryz.prog.cellsOf 3 = 1 := by kernel_rfl
  have k2 : Tryz.prog.cellsOf 2 = 1 := by kernel_rfl
  match cs, hl with
  | [c0, c1, c2, c3, c4, c5], _ =>
    have g0 : DataW.trod enc Tryz.prog W 0 (fun _ => true) true n 3 (([c0, c1, c2, c3, c4, c5].drop 0).take (Tryz.prog.cellsOf 3)) = xs[0]? := hg 0 _ rfl
    rw [k1, List.getElem?_eq_getElem (by omega)] at g0
    have g1 : DataW.trod enc Tryz.prog W 0 (fun _ => true) true n 2 (([c0, c1, c2, c3, c4, c5].drop 1).take (Tryz.prog.cellsOf 2)) = xs[1]? := hg 1 _ rfl
    rw [k2, List.getElem?_eq_getElem (by omega)] at g1
    have g2 : DataW.trod enc Tryz.prog W 0 (fun _ => true) true n 2 (([c0, c1, c2, c3, c4, c5].drop 2).take (Tryz.prog.cellsOf 2)) = xs[2]? := hg 2 _ rfl
    rw [k2, List.getElem?_eq_getElem (by omega)] at g2
    have g3 : DataW.trod enc Tryz.prog W 0 (fun _ => true) true n 2 (([c0, c1, c2, c3, c4, c5].drop 3).take (Tryz.prog.cellsOf 2)) = xs[3]? := hg 3 _ rfl
    rw [k2, List.getElem?_eq_getElem (by omega)] at g3
    have g4 : DataW.trod enc Tryz.prog W 0 (fun _ => true) true n 2 (([c0, c1, c2, c3, c4, c5].drop 4).take (Tryz.prog.cellsOf 2)) = xs[4]? := hg 4 _ rfl
    rw [k2, List.getElem?_eq_getElem (by omega)] at g4
    have g5 : DataW.trod enc Tryz.prog W 0 (fun _ => true) true n 2 (([c0, c1, c2, c3, c4, c5].drop 5).take (Tryz.prog.cellsOf 2)) = xs[5]? := hg 5 _ rfl
    rw [k2, List.getElem?_eq_getElem (by omega)] at g5
    obtain ⟨x0, e0, _, w0⟩ := DataW.trod_int Tryz.underlying3 g0
    obtain ⟨x1, e1, _, w1⟩ := DataW.trod_int Tryz.underlying2 g1
    obtain ⟨x2, e2, _, w2⟩ := DataW.trod_int Tryz.underlying2 g2
    obtain ⟨x3, e3, _, w3⟩ := DataW.trod_int Tryz.underlying2 g3
    obtain ⟨x4, e4, _, w4⟩ := DataW.trod_int Tryz.underlying2 g4
    obtain ⟨x5, e5, _, w5⟩ := DataW.trod_int Tryz.underlying2 g5
    simp [Value.cells] at e0 e1 e2 e3 e4 e5
    subst e0 e1 e2 e3 e4 e5
    exact ⟨x0, x1, x2, x3, x4, x5, rfl, bounds_i64 w0, bounds_i64 w1, bounds_i64 w2, bounds_i64 w3, bounds_i64 w4, bounds_i64 w5⟩
theorem state_cells {W : World} {fuel : Nat} {cs : List Value} {y : DataW H × List MemPlace} (h : DataW.trod enc Tryz.prog W 0 (fun _ => true) true fuel 50 cs = some y) (hl : cs.length = 7) :
    ∃ g : Sta, cs = g.cs ∧ g.F := by
  obtain ⟨xs, n, _, _, _, hlen, hg⟩ := DataW.trod_struct Tryz.underlying50 h
  have hl3 : xs.length = 3 := hlen
  have k1 : Tryz.prog.cellsOf 23 = 5 := by kernel_rfl
  have k2 : Tryz.prog.cellsOf 2 = 1 := by kernel_rfl
  match cs, hl with
  | [c0, c1, c2, c3, c4, c5, c6], _ =>
    have g0 : DataW.trod enc Tryz.prog W 0 (fun _ => true) true n 23 (([c0, c1, c2, c3, c4, c5, c6].drop 0).take (Tryz.prog.cellsOf 23)) = xs[0]? := hg 0 _ rfl
    have g1 : DataW.trod enc Tryz.prog W 0 (fun _ => true) true n 2 (([c0, c1, c2, c3, c4, c5, c6].drop 5).take (Tryz.prog.cellsOf 2)) = xs[1]? := hg 1 _ rfl
    have g2 : DataW.trod enc Tryz.prog W 0 (fun _ => true) true n 2 (([c0, c1, c2, c3, c4, c5, c6].drop 6).take (Tryz.prog.cellsOf 2)) = xs[2]? := hg 2 _ rfl
    rw [k1, List.getElem?_eq_getElem (by omega)] at g0
    rw [k2, List.getElem?_eq_getElem (by omega)] at g1 g2
    obtain ⟨i, p, a, r, t, e0, hb⟩ := order_cells g0 rfl
    obtain ⟨u, e5, _, w5⟩ := DataW.trod_int Tryz.underlying2 g1
    obtain ⟨v, e6, _, w6⟩ := DataW.trod_int Tryz.underlying2 g2
    simp [Value.cells] at e0 e5 e6
    obtain ⟨rfl, rfl, rfl, rfl, rfl⟩ := e0
    subst e5 e6
    exact ⟨⟨i, p, a, r, t, u, v⟩, rfl, hb.1, hb.2.1, hb.2.2.1, hb.2.2.2.1, hb.2.2.2.2, bounds_i64 w5, bounds_i64 w6⟩
theorem open_states {W : World} {A : Option Addr} {n c : Nat} {d : DataW H} {p : List MemPlace} (h : DataW.Trod enc Tryz.prog W 0 (fun _ => true) true 33 (.slice A n c) d p) :
    ∃ g : Nat → Sta, Ors W A n g ∧ n ≤ 9223372036854775807 ∧ ∀ i, i < n → (g i).F := by
  obtain ⟨g, hn, hr⟩ := slice_rows (α := Sta) (fun cs g => cs = g.cs ∧ g.F) Tryz.underlying33 (k := 7) (by kernel_rfl) (by omega) (fun _ _ _ h hl => state_cells h hl) h
  refine ⟨g, fun h0 => ?_, hn.1, fun i hi => ?_⟩
  · obtain ⟨b, o, hA, hc⟩ := hr h0
    refine ⟨b, o, hA, fun i hi => ?_⟩
    obtain ⟨cs, hl, ⟨rfl, _⟩, hz⟩ := hc i hi
    exact ⟨hz 0 (by omega), hz 1 (by omega), hz 2 (by omega), hz 3 (by omega), hz 4 (by omega), hz 5 (by omega), hz 6 (by omega)⟩
  · obtain ⟨b, o, hA, hc⟩ := hr (by omega)
    obtain ⟨cs, hl, ⟨_, hb⟩, hz⟩ := hc i hi
    exact hb
theorem open_takens {W : World} {A : Option Addr} {n c : Nat} {d : DataW H} {p : List MemPlace} (h : DataW.Trod enc Tryz.prog W 0 (fun _ => true) true 43 (.slice A n c) d p) :
    ∃ g : Nat → Tkn, Tks W A n g ∧ n ≤ 9223372036854775807 ∧ ∀ i, i < n → (g i).F := by
  obtain ⟨g, hn, hr⟩ := slice_rows (α := Tkn) (fun cs g => cs = g.cs ∧ g.F) Tryz.underlying43 (k := 6) (by kernel_rfl) (by omega) (fun _ _ _ h hl => by
    obtain ⟨x0, x1, x2, x3, x4, x5, e, hb⟩ := taken_cells h hl
    exact ⟨⟨x0, x1, x2, x3, x4, x5⟩, e, hb⟩) h
  refine ⟨g, fun h0 => ?_, hn.1, fun i hi => ?_⟩
  · obtain ⟨b, o, hA, hc⟩ := hr h0
    refine ⟨b, o, hA, fun i hi => ?_⟩
    obtain ⟨cs, hl, ⟨rfl, _⟩, hz⟩ := hc i hi
    exact ⟨hz 0 (by omega), hz 1 (by omega), hz 2 (by omega), hz 3 (by omega), hz 4 (by omega), hz 5 (by omega)⟩
  · obtain ⟨b, o, hA, hc⟩ := hr (by omega)
    obtain ⟨cs, hl, ⟨_, hb⟩, hz⟩ := hc i hi
    exact hb
theorem open_orders {W : World} {A : Option Addr} {n c : Nat} {d : DataW H} {p : List MemPlace} (h : DataW.Trod enc Tryz.prog W 0 (fun _ => true) true 36 (.slice A n c) d p) :
    ∃ g : Nat → Sta, Ods W A n g ∧ n ≤ 9223372036854775807 ∧ ∀ i, i < n → (g i).F := by
  obtain ⟨g, hn, hr⟩ := slice_rows (α := Sta) (fun cs g => cs = g.cs.take 5 ∧ g.F) Tryz.underlying36 (k := 5) (by kernel_rfl) (by omega) (fun _ _ _ h hl => by
    obtain ⟨i, p, a, r, t, e, h1, h2, h3, h4, h5⟩ := order_cells h hl
    exact ⟨⟨i, p, a, r, t, 0, 0⟩, e, h1, h2, h3, h4, h5, ⟨by simp, by simp⟩, ⟨by simp, by simp⟩⟩) h
  refine ⟨g, fun h0 => ?_, hn.1, fun i hi => ?_⟩
  · obtain ⟨b, o, hA, hc⟩ := hr h0
    refine ⟨b, o, hA, fun i hi => ?_⟩
    obtain ⟨cs, hl, ⟨rfl, _⟩, hz⟩ := hc i hi
    exact ⟨hz 0 (by omega), hz 1 (by omega), hz 2 (by omega), hz 3 (by omega), hz 4 (by omega)⟩
  · obtain ⟨b, o, hA, hc⟩ := hr (by omega)
    obtain ⟨cs, hl, ⟨_, hb⟩, hz⟩ := hc i hi
    exact hb
theorem open_order {W : World} {r : Reach} {base : Nat} {v : Value} {d : DataW H} {p : List MemPlace} (hv : Value.okWide Tryz.prog W r base 23 v) (h : DataW.Trod enc Tryz.prog W 0 (fun _ => true) true 23 v d p) :
    ∃ i p a r t : Int, v = .agg #[.int .i64 i, .int .i64 p, .int .i64 a, .int .i64 r, .int .i64 t] ∧ fit i ∧ fit p ∧ fit a ∧ fit r ∧ fit t := by
  obtain ⟨cs, rfl, hsz⟩ := okWide_struct Tryz.underlying23 hv
  have hC : Tryz.prog.cellsOf 23 = 5 := by kernel_rfl
  obtain ⟨l⟩ := cs
  obtain ⟨fuel, hf⟩ := h
  obtain ⟨i, p, a, r, t, e, hb⟩ := order_cells hf (show l.length = 5 from hsz.trans hC)
  have e' : l = _ := e
  subst e'
  exact ⟨i, p, a, r, t, rfl, hb⟩
end
end Go.Proofs.YthknjpmhomjobaaGreatDoor

