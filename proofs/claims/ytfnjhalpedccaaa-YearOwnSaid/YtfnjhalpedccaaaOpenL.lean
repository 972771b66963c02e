/- A payslip that came in, with its lists, wherever they lie. -/
import Derived.Test.YtfnjhalpedccaaaPost
import Derived.Test.YtfnjhalpedccaaaSlpM
import Derived.Deep.Slices
import Derived.ChangeArms
namespace Go.Proofs.Ytfnjhalpedccaaa
open Go.ChangeShapes Go.WideShapes Go.ChangeAt Go.RowKit Go.Deep
set_option maxRecDepth 100000
set_option linter.unusedVariables false
set_option linter.unusedSimpArgs false
section
variable {H : Type} {enc : TypeId × Value → H}

/-- a row of elements of k cells each: what each of them tells, wherever they lie -/
theorem slice_rows {W : World} {t elem : TypeId} {k : Nat} {A : Option Addr} {n c : Nat} {d : DataW H} {p : List MemPlace} {α : Type} [Inhabited α] (Q : List Value → α → Prop) (ht : Try.prog.underlying t = some (.slice elem)) (hC : Try.prog.cellsOf elem = k) (k0 : 0 < k)
    (hel : ∀ (fuel : Nat) (cs : List Value) (y : DataW H × List MemPlace), DataW.trod enc Try.prog W 0 (fun _ => true) true fuel elem cs = some y → cs.length = k → ∃ a, Q cs a)
    (h : DataW.Trod enc Try.prog W 0 (fun _ => true) true t (.slice A n c) d p) :
    ∃ f : Nat → α, (n ≤ 9223372036854775807 ∧ n ≤ c ∧ (A = none → c = 0)) ∧ (0 < n → ∃ b o, A = some ⟨b, o, none⟩ ∧ ∀ i, i < n → ∃ cs : List Value, cs.length = k ∧ Q cs (f i) ∧ ∀ j, j < k → W.cell? ⟨b, o + i * k + j, none⟩ = cs[j]?) := by
  obtain ⟨fuel, hf⟩ := h
  rcases open_slice ht hf with ⟨hcs, _⟩ | ⟨a, len, cap, m, q, D, Pl, hcs, _, hl, hm, hmm, _, hi⟩
  · simp only [Value.cells, List.cons.injEq, Value.slice.injEq] at hcs
    obtain ⟨⟨rfl, rfl, rfl⟩, _⟩ := hcs
    exact ⟨fun _ => default, ⟨by omega, by omega, fun _ => rfl⟩, fun h0 => absurd h0 (Nat.lt_irrefl 0)⟩
  · simp only [Value.cells, List.cons.injEq, Value.slice.injEq] at hcs
    obtain ⟨⟨rfl, rfl, rfl⟩, _⟩ := hcs
    have key : ∀ i, ∃ x : α, i < n → ∃ cs : List Value, cs.length = k ∧ Q cs x ∧ ∀ j, j < k → W.cell? ((a.add (i * k)).add j) = cs[j]? := fun i => by
      by_cases hin : i < n
      · obtain ⟨cs', h1, h2⟩ := hi i (by simp at hmm; omega)
        rw [hC] at h1
        obtain ⟨_, hlen, hat⟩ := World.cells?_some h1
        obtain ⟨x, hx⟩ := hel _ _ _ h2 hlen
        exact ⟨x, fun _ => ⟨cs', hlen, hx, fun j hj => hat j hj⟩⟩
      · exact ⟨default, fun hh => absurd hh hin⟩
    obtain ⟨b, o, spot⟩ := a
    refine ⟨fun i => Classical.choose (key i), ⟨by unfold maxLen at hm; omega, hl, fun e => nomatch e⟩, fun hn => ?_⟩
    obtain ⟨cs, hl0, _, hz⟩ := Classical.choose_spec (key 0) hn
    have z0 := hz 0 k0
    have hspot : spot = none := by
      rw [List.getElem?_eq_getElem (by omega)] at z0
      have : (((⟨b, o, spot⟩ : Addr).add (0 * k)).add 0).spot = none := World.cell?_spot z0
      simpa [Addr.add] using this
    subst hspot
    refine ⟨b, o, rfl, fun i hin => ?_⟩
    obtain ⟨cs, hl0, hq, hz⟩ := Classical.choose_spec (key i) hin
    refine ⟨cs, hl0, hq, fun j hj => ?_⟩
    have := hz j hj
    rw [Go.WideShapes.add_plain, Go.WideShapes.add_plain] at this
    exact this

theorem share_cells {W : World} {fuel : Nat} {cs : List Value} {y : DataW H × List MemPlace} (h : DataW.trod enc Try.prog W 0 (fun _ => true) true fuel 53 cs = some y) (hl : cs.length = 2) :
    ∃ x0 x1 : Int, cs = [.int .i64 x0, .int .i64 x1] := by
  obtain ⟨xs, n, _, _, _, hlen, hg⟩ := DataW.trod_struct Try.underlying53 h
  have hlx : xs.length = 2 := hlen
  have k1 : Try.prog.cellsOf 3 = 1 := by kernel_rfl
  have k2 : Try.prog.cellsOf 2 = 1 := by kernel_rfl
  match cs, hl with
  | [c0, c1], _ =>
    have g0 : DataW.trod enc Try.prog W 0 (fun _ => true) true n 2 (([c0, c1].drop 0).take (Try.prog.cellsOf 2)) = xs[0]? := hg 0 _ rfl
    rw [k2, List.getElem?_eq_getElem (by omega)] at g0
    obtain ⟨x0, e0, _, _⟩ := DataW.trod_int Try.underlying2 g0
    have g1 : DataW.trod enc Try.prog W 0 (fun _ => true) true n 2 (([c0, c1].drop 1).take (Try.prog.cellsOf 2)) = xs[1]? := hg 1 _ rfl
    rw [k2, List.getElem?_eq_getElem (by omega)] at g1
    obtain ⟨x1, e1, _, _⟩ := DataW.trod_int Try.underlying2 g1
    simp [Value.cells] at e0 e1
    subst e0 e1
    exact ⟨x0, x1, rfl⟩
theorem takn_cells {W : World} {fuel : Nat} {cs : List Value} {y : DataW H × List MemPlace} (h : DataW.trod enc Try.prog W 0 (fun _ => true) true fuel 58 cs = some y) (hl : cs.length = 6) :
    ∃ x0 x1 x2 x3 x4 x5 : Int, cs = [.int .i64 x0, .int .i64 x1, .int .i64 x2, .int .i64 x3, .int .i64 x4, .int .i64 x5] := by
  obtain ⟨xs, n, _, _, _, hlen, hg⟩ := DataW.trod_struct Try.underlying58 h
  have hlx : xs.length = 6 := hlen
  have k1 : Try.prog.cellsOf 3 = 1 := by kernel_rfl
  have k2 : Try.prog.cellsOf 2 = 1 := by kernel_rfl
  match cs, hl with
  | [c0, c1, c2, c3, c4, c5], _ =>
    have g0 : DataW.trod enc Try.prog W 0 (fun _ => true) true n 3 (([c0, c1, c2, c3, c4, c5].drop 0).take (Try.prog.cellsOf 3)) = xs[0]? := hg 0 _ rfl
    rw [k1, List.getElem?_eq_getElem (by omega)] at g0
    obtain ⟨x0, e0, _, _⟩ := DataW.trod_int Try.underlying3 g0
    have g1 : DataW.trod enc Try.prog W 0 (fun _ => true) true n 2 (([c0, c1, c2, c3, c4, c5].drop 1).take (Try.prog.cellsOf 2)) = xs[1]? := hg 1 _ rfl
    rw [k2, List.getElem?_eq_getElem (by omega)] at g1
    obtain ⟨x1, e1, _, _⟩ := DataW.trod_int Try.underlying2 g1
    have g2 : DataW.trod enc Try.prog W 0 (fun _ => true) true n 2 (([c0, c1, c2, c3, c4, c5].drop 2).take (Try.prog.cellsOf 2)) = xs[2]? := hg 2 _ rfl
    rw [k2, List.getElem?_eq_getElem (by omega)] at g2
    obtain ⟨x2, e2, _, _⟩ := DataW.trod_int Try.underlying2 g2
    have g3 : DataW.trod enc Try.prog W 0 (fun _ => true) true n 2 (([c0, c1, c2, c3, c4, c5].drop 3).take (Try.prog.cellsOf 2)) = xs[3]? := hg 3 _ rfl
    rw [k2, List.getElem?_eq_getElem (by omega)] at g3
    obtain ⟨x3, e3, _, _⟩ := DataW.trod_int Try.underlying2 g3
    have g4 : DataW.trod enc Try.prog W 0 (fun _ => true) true n 2 (([c0, c1, c2, c3, c4, c5].drop 4).take (Try.prog.cellsOf 2)) = xs[4]? := hg 4 _ rfl
    rw [k2, List.getElem?_eq_getElem (by omega)] at g4
    obtain ⟨x4, e4, _, _⟩ := DataW.trod_int Try.underlying2 g4
    have g5 : DataW.trod enc Try.prog W 0 (fun _ => true) true n 2 (([c0, c1, c2, c3, c4, c5].drop 5).take (Try.prog.cellsOf 2)) = xs[5]? := hg 5 _ rfl
    rw [k2, List.getElem?_eq_getElem (by omega)] at g5
    obtain ⟨x5, e5, _, _⟩ := DataW.trod_int Try.underlying2 g5
    simp [Value.cells] at e0 e1 e2 e3 e4 e5
    subst e0 e1 e2 e3 e4 e5
    exact ⟨x0, x1, x2, x3, x4, x5, rfl⟩
theorem bases_cells {W : World} {fuel : Nat} {cs : List Value} {y : DataW H × List MemPlace} (h : DataW.trod enc Try.prog W 0 (fun _ => true) true fuel 30 cs = some y) (hl : cs.length = 3) :
    ∃ x0 x1 x2 : Int, cs = [.int .i64 x0, .int .i64 x1, .int .i64 x2] := by
  obtain ⟨xs, n, _, _, _, hlen, hg⟩ := DataW.trod_struct Try.underlying30 h
  have hlx : xs.length = 3 := hlen
  have k1 : Try.prog.cellsOf 3 = 1 := by kernel_rfl
  have k2 : Try.prog.cellsOf 2 = 1 := by kernel_rfl
  match cs, hl with
  | [c0, c1, c2], _ =>
    have g0 : DataW.trod enc Try.prog W 0 (fun _ => true) true n 2 (([c0, c1, c2].drop 0).take (Try.prog.cellsOf 2)) = xs[0]? := hg 0 _ rfl
    rw [k2, List.getElem?_eq_getElem (by omega)] at g0
    obtain ⟨x0, e0, _, _⟩ := DataW.trod_int Try.underlying2 g0
    have g1 : DataW.trod enc Try.prog W 0 (fun _ => true) true n 2 (([c0, c1, c2].drop 1).take (Try.prog.cellsOf 2)) = xs[1]? := hg 1 _ rfl
    rw [k2, List.getElem?_eq_getElem (by omega)] at g1
    obtain ⟨x1, e1, _, _⟩ := DataW.trod_int Try.underlying2 g1
    have g2 : DataW.trod enc Try.prog W 0 (fun _ => true) true n 2 (([c0, c1, c2].drop 2).take (Try.prog.cellsOf 2)) = xs[2]? := hg 2 _ rfl
    rw [k2, List.getElem?_eq_getElem (by omega)] at g2
    obtain ⟨x2, e2, _, _⟩ := DataW.trod_int Try.underlying2 g2
    simp [Value.cells] at e0 e1 e2
    subst e0 e1 e2
    exact ⟨x0, x1, x2, rfl⟩
theorem shares_of {W : World} {fuel : Nat} {v : Value} {y : DataW H × List MemPlace} (h : DataW.trod enc Try.prog W 0 (fun _ => true) true fuel 31 [v] = some y) :
    ∃ A n c X Y, v = .slice A n c ∧ Shs W A n X Y ∧ n ≤ 9223372036854775807 ∧ (A = none → c = 0) := by
  obtain ⟨A, n, c, rfl⟩ : ∃ A n c, v = .slice A n c := by
    rcases open_slice Try.underlying31 h with ⟨hcs, _⟩ | ⟨a, len, cap, m, q, D, Pl, hcs, _⟩
    · exact ⟨_, _, _, by simpa using hcs⟩
    · exact ⟨_, _, _, by simpa using hcs⟩
  obtain ⟨f, hn, hr⟩ := slice_rows (α := Int × Int) (W := W) (d := y.1) (p := y.2) (fun cs x => cs = [.int .i64 x.1, .int .i64 x.2]) Try.underlying31 (k := 2) (by kernel_rfl) (by omega) (fun _ _ _ h hl => by
    obtain ⟨a, b, e⟩ := share_cells h hl
    exact ⟨(a, b), e⟩) ⟨fuel, h⟩
  refine ⟨A, n, c, fun i => (f i).1, fun i => (f i).2, rfl, fun h0 => ?_, hn.1, hn.2.2⟩
  obtain ⟨b, o, hA, hc⟩ := hr h0
  refine ⟨b, o, hA, fun i hi => ?_⟩
  obtain ⟨cs, hl, rfl, hz⟩ := hc i hi
  exact ⟨hz 0 (by omega), hz 1 (by omega)⟩
theorem takens_of {W : World} {fuel : Nat} {v : Value} {y : DataW H × List MemPlace} (h : DataW.trod enc Try.prog W 0 (fun _ => true) true fuel 35 [v] = some y) :
    ∃ A n c f, v = .slice A n c ∧ Tks W A n f ∧ n ≤ 9223372036854775807 ∧ (A = none → c = 0) := by
  obtain ⟨A, n, c, rfl⟩ : ∃ A n c, v = .slice A n c := by
    rcases open_slice Try.underlying35 h with ⟨hcs, _⟩ | ⟨a, len, cap, m, q, D, Pl, hcs, _⟩
    · exact ⟨_, _, _, by simpa using hcs⟩
    · exact ⟨_, _, _, by simpa using hcs⟩
  obtain ⟨f, hn, hr⟩ := slice_rows (α := Tkn) (W := W) (d := y.1) (p := y.2) (fun cs x => cs = x.cs) Try.underlying35 (k := 6) (by kernel_rfl) (by omega) (fun _ _ _ h hl => by
    obtain ⟨a, b, c, d, e, g, q⟩ := takn_cells h hl
    exact ⟨⟨a, b, c, d, e, g⟩, q⟩) ⟨fuel, h⟩
  refine ⟨A, n, c, f, rfl, fun h0 => ?_, hn.1, hn.2.2⟩
  obtain ⟨b, o, hA, hc⟩ := hr h0
  refine ⟨b, o, hA, fun i hi => ?_⟩
  obtain ⟨cs, hl, rfl, hz⟩ := hc i hi
  exact ⟨hz 0 (by omega), hz 1 (by omega), hz 2 (by omega), hz 3 (by omega), hz 4 (by omega), hz 5 (by omega)⟩
theorem slip_cells {W : World} {fuel : Nat} {cs : List Value} {y : DataW H × List MemPlace} (h : DataW.trod enc Try.prog W 0 (fun _ => true) true fuel 37 cs = some y) (hl : cs.length = 10) :
    ∃ s : Slp, cs = s.cs ∧ SlM W s ∧ s.n ≤ 9223372036854775807 ∧ s.m ≤ 9223372036854775807 := by
  obtain ⟨xs, n, _, _, _, hlen, hg⟩ := DataW.trod_struct Try.underlying37 h
  have hlx : xs.length = 8 := hlen
  have k1 : Try.prog.cellsOf 3 = 1 := by kernel_rfl
  have k2 : Try.prog.cellsOf 2 = 1 := by kernel_rfl
  have k3 : Try.prog.cellsOf 30 = 3 := by kernel_rfl
  have k4 : Try.prog.cellsOf 31 = 1 := by kernel_rfl
  have k5 : Try.prog.cellsOf 35 = 1 := by kernel_rfl
  match cs, hl with
  | [c0, c1, c2, c3, c4, c5, c6, c7, c8, c9], _ =>
    have g0 : DataW.trod enc Try.prog W 0 (fun _ => true) true n 3 (([c0, c1, c2, c3, c4, c5, c6, c7, c8, c9].drop 0).take (Try.prog.cellsOf 3)) = xs[0]? := hg 0 _ rfl
    rw [k1, List.getElem?_eq_getElem (by omega)] at g0
    have g1 : DataW.trod enc Try.prog W 0 (fun _ => true) true n 30 (([c0, c1, c2, c3, c4, c5, c6, c7, c8, c9].drop 1).take (Try.prog.cellsOf 30)) = xs[1]? := hg 1 _ rfl
    rw [k3, List.getElem?_eq_getElem (by omega)] at g1
    have g2 : DataW.trod enc Try.prog W 0 (fun _ => true) true n 2 (([c0, c1, c2, c3, c4, c5, c6, c7, c8, c9].drop 4).take (Try.prog.cellsOf 2)) = xs[2]? := hg 2 _ rfl
    rw [k2, List.getElem?_eq_getElem (by omega)] at g2
    have g3 : DataW.trod enc Try.prog W 0 (fun _ => true) true n 2 (([c0, c1, c2, c3, c4, c5, c6, c7, c8, c9].drop 5).take (Try.prog.cellsOf 2)) = xs[3]? := hg 3 _ rfl
    rw [k2, List.getElem?_eq_getElem (by omega)] at g3
    have g4 : DataW.trod enc Try.prog W 0 (fun _ => true) true n 31 (([c0, c1, c2, c3, c4, c5, c6, c7, c8, c9].drop 6).take (Try.prog.cellsOf 31)) = xs[4]? := hg 4 _ rfl
    rw [k4, List.getElem?_eq_getElem (by omega)] at g4
    have g5 : DataW.trod enc Try.prog W 0 (fun _ => true) true n 2 (([c0, c1, c2, c3, c4, c5, c6, c7, c8, c9].drop 7).take (Try.prog.cellsOf 2)) = xs[5]? := hg 5 _ rfl
    rw [k2, List.getElem?_eq_getElem (by omega)] at g5
    have g6 : DataW.trod enc Try.prog W 0 (fun _ => true) true n 35 (([c0, c1, c2, c3, c4, c5, c6, c7, c8, c9].drop 8).take (Try.prog.cellsOf 35)) = xs[6]? := hg 6 _ rfl
    rw [k5, List.getElem?_eq_getElem (by omega)] at g6
    have g7 : DataW.trod enc Try.prog W 0 (fun _ => true) true n 2 (([c0, c1, c2, c3, c4, c5, c6, c7, c8, c9].drop 9).take (Try.prog.cellsOf 2)) = xs[7]? := hg 7 _ rfl
    rw [k2, List.getElem?_eq_getElem (by omega)] at g7
    obtain ⟨y0, e0, _, _⟩ := DataW.trod_int Try.underlying3 g0
    obtain ⟨y2, e2, _, _⟩ := DataW.trod_int Try.underlying2 g2
    obtain ⟨y3, e3, _, _⟩ := DataW.trod_int Try.underlying2 g3
    obtain ⟨y5, e5, _, _⟩ := DataW.trod_int Try.underlying2 g5
    obtain ⟨y7, e7, _, _⟩ := DataW.trod_int Try.underlying2 g7
    obtain ⟨b0, b1, b2, e1⟩ := bases_cells g1 rfl
    obtain ⟨A, m1, c, X, Y, e4, hS, hm1, hA⟩ := shares_of g4
    obtain ⟨T, m2, d, f, e6, hT, hm2, hB⟩ := takens_of g6
    simp [Value.cells] at e0 e2 e3 e5 e7
    simp at e1
    obtain ⟨rfl, rfl, rfl⟩ := e1
    subst e0 e2 e3 e4 e5 e6 e7
    exact ⟨⟨y0, b0, b1, b2, y2, y3, A, m1, c, y5, T, m2, d, y7, X, Y, f⟩, rfl, ⟨hS, hT, hA, hB⟩, hm1, hm2⟩
theorem open_slip {W : World} {r : Reach} {base : Nat} {v : Value} {d : DataW H} {p : List MemPlace} (hv : Value.okWide Try.prog W r base 37 v) (h : DataW.Trod enc Try.prog W 0 (fun _ => true) true 37 v d p) :
    ∃ s : Slp, v = .agg #[.int .i64 s.k, .int .i64 s.ca, .int .i64 s.tb, .int .i64 s.so, .int .i64 s.tx, .int .i64 s.sf, .slice s.A s.n s.c, .int .i64 s.net, .slice s.T s.m s.d, .int .i64 s.pay] ∧ SlM W s ∧ s.n ≤ 9223372036854775807 ∧ s.m ≤ 9223372036854775807 := by
  obtain ⟨cs, rfl, hsz⟩ := okWide_struct Try.underlying37 hv
  have hC : Try.prog.cellsOf 37 = 10 := by kernel_rfl
  obtain ⟨l⟩ := cs
  obtain ⟨fuel, hf⟩ := h
  obtain ⟨s, e, h1, h2, h3⟩ := slip_cells hf (show l.length = 10 from hsz.trans hC)
  have e' : l = _ := e
  subst e'
  exact ⟨s, rfl, h1, h2, h3⟩
theorem open_slips {W : World} {A : Option Addr} {n c : Nat} {d : DataW H} {p : List MemPlace} (h : DataW.Trod enc Try.prog W 0 (fun _ => true) true 22 (.slice A n c) d p) :
    ∃ g : Nat → Slp, Sls W A n g ∧ n ≤ 9223372036854775807 := by
  obtain ⟨g, hn, hr⟩ := slice_rows (α := Slp) (fun cs s => cs = s.cs ∧ SlM W s) Try.underlying22 (k := 10) (by kernel_rfl) (by omega) (fun _ _ _ h hl => by
    obtain ⟨s, e, hM, _⟩ := slip_cells h hl
    exact ⟨s, e, hM⟩) h
  refine ⟨g, fun h0 => ?_, hn.1⟩
  obtain ⟨b, o, hA, hc⟩ := hr h0
  refine ⟨b, o, hA, fun i hi => ?_⟩
  obtain ⟨cs, hl, ⟨rfl, hM⟩, hz⟩ := hc i hi
  refine ⟨fun j v hv => ?_, hM⟩
  have hj : j < 10 := (List.getElem?_eq_some_iff.1 hv).1
  exact (hz j hj).trans hv
end
end Go.Proofs.Ytfnjhalpedccaaa
