/- A table that came in: its schemes, contributions and kinds, wherever they lie. -/
import Derived.Test.YtffihnbpjcgicaaPost
import Derived.Test.YtffihnbpjcgicaaTblM
import Derived.Deep.Slices
import Derived.ChangeArms
namespace Go.Proofs.Ytffihnbpjcgicaa
open Go.ChangeShapes Go.WideShapes Go.ChangeAt Go.RowKit Go.Deep
set_option maxRecDepth 100000
set_option linter.unusedVariables false
set_option linter.unusedSimpArgs false
section
variable {H : Type} {enc : TypeId × Value → H}
def fits (x : Int) : Prop := -9223372036854775808 ≤ x ∧ x ≤ 9223372036854775807
instance : Inhabited SB := ⟨⟨none, 0, 0, fun _ => 0, fun _ => 0, fun _ => 0⟩⟩
instance : Inhabited CB := ⟨⟨ByteArray.empty, 0, default, 0, 0, 0⟩⟩
instance : Inhabited KB := ⟨⟨ByteArray.empty, 0, 0, 0⟩⟩
/-- a row of elements of k cells each: what each of them tells, wherever they lie -/
theorem slice_rows {W : World} {t elem : TypeId} {k : Nat} {A : Option Addr} {n c : Nat} {d : DataW H} {p : List MemPlace} {α : Type} [Inhabited α] (Q : List Value → α → Prop) (ht : Try.prog.underlying t = some (.slice elem)) (hC : Try.prog.cellsOf elem = k) (k0 : 0 < k)
    (hel : ∀ (fuel : Nat) (cs : List Value) (y : DataW H × List MemPlace), DataW.trod enc Try.prog W 0 (fun _ => true) true fuel elem cs = some y → cs.length = k → ∃ a, Q cs a)
    (h : DataW.Trod enc Try.prog W 0 (fun _ => true) true t (.slice A n c) d p) :
    ∃ f : Nat → α, (n ≤ 9223372036854775807 ∧ n ≤ c) ∧ (0 < n → ∃ b o, A = some ⟨b, o, none⟩ ∧ ∀ i, i < n → ∃ cs : List Value, cs.length = k ∧ Q cs (f i) ∧ ∀ j, j < k → W.cell? ⟨b, o + i * k + j, none⟩ = cs[j]?) := by
  obtain ⟨fuel, hf⟩ := h
  rcases open_slice ht hf with ⟨hcs, _⟩ | ⟨a, len, cap, m, q, D, Pl, hcs, _, hl, hm, hmm, _, hi⟩
  · simp only [Value.cells, List.cons.injEq, Value.slice.injEq] at hcs
    obtain ⟨⟨rfl, rfl, rfl⟩, _⟩ := hcs
    exact ⟨fun _ => default, ⟨by omega, by omega⟩, fun h0 => absurd h0 (Nat.lt_irrefl 0)⟩
  · simp only [Value.cells, List.cons.injEq, Value.slice.injEq] at hcs
    obtain ⟨⟨rfl, rfl, rfl⟩, _⟩ := hcs
    have key : ∀ i, ∃ x : α, i < n → ∃ cs : List Value, cs.length = k ∧ Q cs x ∧ ∀ j, j < k → W.cell? ((a.add (i * k)).add j) = cs[j]? := fun i => by
      by_cases hin : i < n
      · obtain ⟨cs', h1, h2⟩ := hi i (by simp at hmm; omega)
        rw [hC] at h1
        obtain ⟨_, hlen, hat⟩ := World.cells?_some h1
        obtain ⟨x, hx⟩ := hel _ _ _ h2 hlen
        exact ⟨x, fun _ => ⟨cs', hlen, hx, fun j hj => hat j hj⟩⟩
      · exact ⟨default, fun hh => absurd hh hin⟩
    obtain ⟨b, o, spot⟩ := a
    refine ⟨fun i => Classical.choose (key i), ⟨by unfold maxLen at hm; omega, hl⟩, fun hn => ?_⟩
    obtain ⟨cs, hl0, _, hz⟩ := Classical.choose_spec (key 0) hn
    have z0 := hz 0 k0
    have hspot : spot = none := by
      rw [List.getElem?_eq_getElem (by omega)] at z0
      have : (((⟨b, o, spot⟩ : Addr).add (0 * k)).add 0).spot = none := World.cell?_spot z0
      simpa [Addr.add] using this
    subst hspot
    refine ⟨b, o, rfl, fun i hin => ?_⟩
    obtain ⟨cs, hl0, hq, hz⟩ := Classical.choose_spec (key i) hin
    refine ⟨cs, hl0, hq, fun j hj => ?_⟩
    have := hz j hj
    rw [Go.WideShapes.add_plain, Go.WideShapes.add_plain] at this
    exact this
def BandsF (W : World) (b : SB) : Prop := Bds W b.A b.n b.F b.R b.E ∧ (b.n ≤ 9223372036854775807 ∧ b.n ≤ b.c) ∧ ∀ i, i < b.n → fits (b.F i) ∧ fits (b.R i) ∧ fits (b.E i)
theorem three_ints {W : World} {fuel : Nat} {cs : List Value} {y : DataW H × List MemPlace} (h : DataW.trod enc Try.prog W 0 (fun _ => true) true fuel 78 cs = some y) (hl : cs.length = 3) :
    ∃ x : Int × Int × Int, cs = [.int .i64 x.1, .int .i64 x.2.1, .int .i64 x.2.2] ∧ fits x.1 ∧ fits x.2.1 ∧ fits x.2.2 := by
  obtain ⟨xs, m, _, _, _, hxl, hg⟩ := DataW.trod_struct Try.underlying78 h
  have hxl3 : xs.length = 3 := hxl
  have k1 : Try.prog.cellsOf 3 = 1 := by kernel_rfl
  have k2 : Try.prog.cellsOf 2 = 1 := by kernel_rfl
  match cs, hl with
  | [c0, c1, c2], _ =>
    have g0 : DataW.trod enc Try.prog W 0 (fun _ => true) true m 2 (([c0, c1, c2].drop 0).take (Try.prog.cellsOf 2)) = xs[0]? := hg 0 _ rfl
    have g1 : DataW.trod enc Try.prog W 0 (fun _ => true) true m 3 (([c0, c1, c2].drop 1).take (Try.prog.cellsOf 3)) = xs[1]? := hg 1 _ rfl
    have g2 : DataW.trod enc Try.prog W 0 (fun _ => true) true m 3 (([c0, c1, c2].drop 2).take (Try.prog.cellsOf 3)) = xs[2]? := hg 2 _ rfl
    rw [k2, List.getElem?_eq_getElem (by omega)] at g0
    rw [k1, List.getElem?_eq_getElem (by omega)] at g1 g2
    obtain ⟨a, e0, _, w0⟩ := DataW.trod_int Try.underlying2 g0
    obtain ⟨b, e1, _, w1⟩ := DataW.trod_int Try.underlying3 g1
    obtain ⟨c, e2, _, w2⟩ := DataW.trod_int Try.underlying3 g2
    have e0' : c0 = .int .i64 a := by simpa using e0
    have e1' : c1 = .int .i64 b := by simpa using e1
    have e2' : c2 = .int .i64 c := by simpa using e2
    subst e0' e1' e2'
    exact ⟨(a, b, c), rfl, bounds_i64 w0, bounds_i64 w1, bounds_i64 w2⟩
theorem bands_of {W : World} {fuel : Nat} {v : Value} {y : DataW H × List MemPlace} (h : DataW.trod enc Try.prog W 0 (fun _ => true) true fuel 56 [v] = some y) :
    ∃ b : SB, v = .slice b.A b.n b.c ∧ BandsF W b := by
  obtain ⟨A, n, c, rfl⟩ : ∃ A n c, v = .slice A n c := by
    rcases open_slice Try.underlying56 h with ⟨hcs, _⟩ | ⟨a, len, cap, m, q, D, Pl, hcs, _⟩
    · exact ⟨_, _, _, by simpa using hcs⟩
    · exact ⟨_, _, _, by simpa using hcs⟩
  obtain ⟨f, hn, hr⟩ := slice_rows (α := Int × Int × Int) (W := W) (d := y.1) (p := y.2) (fun cs x => cs = [.int .i64 x.1, .int .i64 x.2.1, .int .i64 x.2.2] ∧ fits x.1 ∧ fits x.2.1 ∧ fits x.2.2) Try.underlying56 (k := 3) (by kernel_rfl) (by omega) (fun _ _ _ h hl => three_ints h hl) ⟨fuel, h⟩
  refine ⟨⟨A, n, c, fun i => (f i).1, fun i => (f i).2.1, fun i => (f i).2.2⟩, rfl, fun h0 => ?_, hn, fun i hi => ?_⟩
  · obtain ⟨b, o, hA, hc⟩ := hr h0
    refine ⟨b, o, hA, fun i hi => ?_⟩
    obtain ⟨cs, hl, ⟨rfl, _⟩, hz⟩ := hc i hi
    exact ⟨hz 0 (by omega), hz 1 (by omega), hz 2 (by omega)⟩
  · obtain ⟨b, o, hA, hc⟩ := hr (by show 0 < n; have : i < n := hi; omega)
    obtain ⟨cs, hl, ⟨_, hb⟩, hz⟩ := hc i hi
    exact hb
/-- a slice of bands is one cell -/
theorem contrib_of {W : World} {fuel : Nat} {cs : List Value} {y : DataW H × List MemPlace} (h : DataW.trod enc Try.prog W 0 (fun _ => true) true fuel 58 cs = some y) (hl : cs.length = 6) :
    ∃ x : CB, cs = [.string x.N, .int .i64 x.B, .slice x.b.A x.b.n x.b.c, .int .i64 x.P, .int .i64 x.Y, .int .i64 x.W] ∧ BandsF W x.b ∧ x.N.size ≤ 9223372036854775807 ∧ fits x.B ∧ fits x.P ∧ fits x.Y ∧ fits x.W := by
  obtain ⟨xs, m, _, _, _, hxl, hg⟩ := DataW.trod_struct Try.underlying58 h
  have hxl3 : xs.length = 6 := hxl
  have k1 : Try.prog.cellsOf 3 = 1 := by kernel_rfl
  have k2 : Try.prog.cellsOf 2 = 1 := by kernel_rfl
  have k3 : Try.prog.cellsOf 9 = 1 := by kernel_rfl
  have k4 : Try.prog.cellsOf 56 = 1 := by kernel_rfl
  match cs, hl with
  | [c0, c1, c2, c3, c4, c5], _ =>
    have g0 : DataW.trod enc Try.prog W 0 (fun _ => true) true m 9 (([c0, c1, c2, c3, c4, c5].drop 0).take (Try.prog.cellsOf 9)) = xs[0]? := hg 0 _ rfl
    have g1 : DataW.trod enc Try.prog W 0 (fun _ => true) true m 3 (([c0, c1, c2, c3, c4, c5].drop 1).take (Try.prog.cellsOf 3)) = xs[1]? := hg 1 _ rfl
    have g2 : DataW.trod enc Try.prog W 0 (fun _ => true) true m 56 (([c0, c1, c2, c3, c4, c5].drop 2).take (Try.prog.cellsOf 56)) = xs[2]? := hg 2 _ rfl
    have g3 : DataW.trod enc Try.prog W 0 (fun _ => true) true m 2 (([c0, c1, c2, c3, c4, c5].drop 3).take (Try.prog.cellsOf 2)) = xs[3]? := hg 3 _ rfl
    have g4 : DataW.trod enc Try.prog W 0 (fun _ => true) true m 2 (([c0, c1, c2, c3, c4, c5].drop 4).take (Try.prog.cellsOf 2)) = xs[4]? := hg 4 _ rfl
    have g5 : DataW.trod enc Try.prog W 0 (fun _ => true) true m 3 (([c0, c1, c2, c3, c4, c5].drop 5).take (Try.prog.cellsOf 3)) = xs[5]? := hg 5 _ rfl
    rw [k3, List.getElem?_eq_getElem (by omega)] at g0
    rw [k1, List.getElem?_eq_getElem (by omega)] at g1 g5
    rw [k4, List.getElem?_eq_getElem (by omega)] at g2
    rw [k2, List.getElem?_eq_getElem (by omega)] at g3 g4
    obtain ⟨N, e0, _, w0⟩ := DataW.trod_string Try.underlying9 g0
    obtain ⟨B, e1, _, w1⟩ := DataW.trod_int Try.underlying3 g1
    obtain ⟨b, e2, w2⟩ := bands_of g2
    obtain ⟨P, e3, _, w3⟩ := DataW.trod_int Try.underlying2 g3
    obtain ⟨Y, e4, _, w4⟩ := DataW.trod_int Try.underlying2 g4
    obtain ⟨Z, e5, _, w5⟩ := DataW.trod_int Try.underlying3 g5
    have e0' : c0 = .string N := by simpa using e0
    have e1' : c1 = .int .i64 B := by simpa using e1
    have e3' : c3 = .int .i64 P := by simpa using e3
    have e4' : c4 = .int .i64 Y := by simpa using e4
    have e5' : c5 = .int .i64 Z := by simpa using e5
    subst e0' e1' e2 e3' e4' e5'
    exact ⟨⟨N, B, b, P, Y, Z⟩, rfl, w2, by unfold maxLen at w0; exact w0, bounds_i64 w1, bounds_i64 w3, bounds_i64 w4, bounds_i64 w5⟩
theorem kind_of {W : World} {fuel : Nat} {cs : List Value} {y : DataW H × List MemPlace} (h : DataW.trod enc Try.prog W 0 (fun _ => true) true fuel 84 cs = some y) (hl : cs.length = 4) :
    ∃ x : KB, cs = [.string x.N, .int .i64 x.c, .int .i64 x.t, .int .i64 x.s] ∧ x.N.size ≤ 9223372036854775807 ∧ fits x.c ∧ fits x.t ∧ fits x.s := by
  obtain ⟨xs, m, _, _, _, hxl, hg⟩ := DataW.trod_struct Try.underlying84 h
  have hxl3 : xs.length = 4 := hxl
  have k1 : Try.prog.cellsOf 3 = 1 := by kernel_rfl
  have k3 : Try.prog.cellsOf 9 = 1 := by kernel_rfl
  match cs, hl with
  | [c0, c1, c2, c3], _ =>
    have g0 : DataW.trod enc Try.prog W 0 (fun _ => true) true m 9 (([c0, c1, c2, c3].drop 0).take (Try.prog.cellsOf 9)) = xs[0]? := hg 0 _ rfl
    have g1 : DataW.trod enc Try.prog W 0 (fun _ => true) true m 3 (([c0, c1, c2, c3].drop 1).take (Try.prog.cellsOf 3)) = xs[1]? := hg 1 _ rfl
    have g2 : DataW.trod enc Try.prog W 0 (fun _ => true) true m 3 (([c0, c1, c2, c3].drop 2).take (Try.prog.cellsOf 3)) = xs[2]? := hg 2 _ rfl
    have g3 : DataW.trod enc Try.prog W 0 (fun _ => true) true m 3 (([c0, c1, c2, c3].drop 3).take (Try.prog.cellsOf 3)) = xs[3]? := hg 3 _ rfl
    rw [k3, List.getElem?_eq_getElem (by omega)] at g0
    rw [k1, List.getElem?_eq_getElem (by omega)] at g1 g2 g3
    obtain ⟨N, e0, _, w0⟩ := DataW.trod_string Try.underlying9 g0
    obtain ⟨B, e1, _, w1⟩ := DataW.trod_int Try.underlying3 g1
    obtain ⟨P, e2, _, w2⟩ := DataW.trod_int Try.underlying3 g2
    obtain ⟨Y, e3, _, w3⟩ := DataW.trod_int Try.underlying3 g3
    have e0' : c0 = .string N := by simpa using e0
    have e1' : c1 = .int .i64 B := by simpa using e1
    have e2' : c2 = .int .i64 P := by simpa using e2
    have e3' : c3 = .int .i64 Y := by simpa using e3
    subst e0' e1' e2' e3'
    exact ⟨⟨N, B, P, Y⟩, rfl, by unfold maxLen at w0; exact w0, bounds_i64 w1, bounds_i64 w2, bounds_i64 w3⟩
/-- what is known of the numbers of a table that came in -/
def TFits (T : TB) : Prop := (T.nS ≤ 9223372036854775807 ∧ T.nS ≤ T.cS) ∧ (T.nC ≤ 9223372036854775807 ∧ T.nC ≤ T.cC) ∧ (T.nK ≤ 9223372036854775807 ∧ T.nK ≤ T.cK) ∧ fits T.L ∧ fits T.W ∧
  (∀ i, i < T.nS → ((T.S i).n ≤ 9223372036854775807 ∧ (T.S i).n ≤ (T.S i).c) ∧ ∀ j, j < (T.S i).n → fits ((T.S i).F j) ∧ fits ((T.S i).R j) ∧ fits ((T.S i).E j)) ∧
  (∀ i, i < T.nC → (T.C i).N.size ≤ 9223372036854775807 ∧ fits (T.C i).B ∧ fits (T.C i).P ∧ fits (T.C i).Y ∧ fits (T.C i).W ∧ ((T.C i).b.n ≤ 9223372036854775807 ∧ (T.C i).b.n ≤ (T.C i).b.c) ∧ ∀ j, j < (T.C i).b.n → fits ((T.C i).b.F j) ∧ fits ((T.C i).b.R j) ∧ fits ((T.C i).b.E j)) ∧
  (∀ i, i < T.nK → (T.K i).N.size ≤ 9223372036854775807 ∧ fits (T.K i).c ∧ fits (T.K i).t ∧ fits (T.K i).s)
theorem slice_is {t e : TypeId} {W : World} {fuel : Nat} {v : Value} {y : DataW H × List MemPlace} (ht : Try.prog.underlying t = some (.slice e)) (h : DataW.trod enc Try.prog W 0 (fun _ => true) true fuel t [v] = some y) : ∃ A n c, v = .slice A n c := by
  rcases open_slice ht h with ⟨hcs, _⟩ | ⟨a, len, cap, m, q, D, Pl, hcs, _⟩
  · exact ⟨_, _, _, by simpa using hcs⟩
  · exact ⟨_, _, _, by simpa using hcs⟩
theorem open_table {W : World} {r : Reach} {base : Nat} {v : Value} {d : DataW H} {p : List MemPlace} (hv : Value.okWide Try.prog W r base 26 v) (h : DataW.Trod enc Try.prog W 0 (fun _ => true) true 26 v d p) :
    ∃ T : TB, v = T.v ∧ Tm W T ∧ TFits T := by
  obtain ⟨cs, rfl, hsz⟩ := okWide_struct Try.underlying26 hv
  have hC : Try.prog.cellsOf 26 = 5 := by kernel_rfl
  have k1 : Try.prog.cellsOf 3 = 1 := by kernel_rfl
  have k2 : Try.prog.cellsOf 22 = 1 := by kernel_rfl
  have k3 : Try.prog.cellsOf 23 = 1 := by kernel_rfl
  have k4 : Try.prog.cellsOf 24 = 1 := by kernel_rfl
  obtain ⟨l⟩ := cs
  match l, hsz.trans hC with
  | [c0, c1, c2, c3, c4], _ =>
    obtain ⟨fuel, hf⟩ := h
    obtain ⟨xs, m, _, _, _, hlen, hg⟩ := DataW.trod_struct Try.underlying26 hf
    have hl : xs.length = 5 := hlen
    have g0 : DataW.trod enc Try.prog W 0 (fun _ => true) true m 22 (([c0, c1, c2, c3, c4].drop 0).take (Try.prog.cellsOf 22)) = xs[0]? := hg 0 _ rfl
    have g1 : DataW.trod enc Try.prog W 0 (fun _ => true) true m 23 (([c0, c1, c2, c3, c4].drop 1).take (Try.prog.cellsOf 23)) = xs[1]? := hg 1 _ rfl
    have g2 : DataW.trod enc Try.prog W 0 (fun _ => true) true m 24 (([c0, c1, c2, c3, c4].drop 2).take (Try.prog.cellsOf 24)) = xs[2]? := hg 2 _ rfl
    have g3 : DataW.trod enc Try.prog W 0 (fun _ => true) true m 3 (([c0, c1, c2, c3, c4].drop 3).take (Try.prog.cellsOf 3)) = xs[3]? := hg 3 _ rfl
    have g4 : DataW.trod enc Try.prog W 0 (fun _ => true) true m 3 (([c0, c1, c2, c3, c4].drop 4).take (Try.prog.cellsOf 3)) = xs[4]? := hg 4 _ rfl
    rw [k2, List.getElem?_eq_getElem (by omega)] at g0
    rw [k3, List.getElem?_eq_getElem (by omega)] at g1
    rw [k4, List.getElem?_eq_getElem (by omega)] at g2
    rw [k1, List.getElem?_eq_getElem (by omega)] at g3 g4
    obtain ⟨L, e3, _, w3⟩ := DataW.trod_int Try.underlying3 g3
    obtain ⟨Z, e4, _, w4⟩ := DataW.trod_int Try.underlying3 g4
    obtain ⟨AS, nS, cS, rfl⟩ := slice_is Try.underlying22 g0
    obtain ⟨AC, nC, cC, rfl⟩ := slice_is Try.underlying23 g1
    obtain ⟨AK, nK, cK, rfl⟩ := slice_is Try.underlying24 g2
    have e3' : c3 = .int .i64 L := by simpa using e3
    have e4' : c4 = .int .i64 Z := by simpa using e4
    subst e3' e4'
    obtain ⟨S, hnS, hS⟩ := slice_rows (α := SB) (W := W) (d := (xs[0]).1) (p := (xs[0]).2) (fun cs b => cs = [.slice b.A b.n b.c] ∧ BandsF W b) Try.underlying22 (k := 1) (by kernel_rfl) (by omega) (fun _ cs _ h hl => by
      match cs, hl with
      | [v], _ =>
        obtain ⟨b, rfl, hb⟩ := bands_of h
        exact ⟨b, rfl, hb⟩) ⟨m, g0⟩
    obtain ⟨C, hnC, hCm⟩ := slice_rows (α := CB) (W := W) (d := (xs[1]).1) (p := (xs[1]).2) (fun cs x => cs = [.string x.N, .int .i64 x.B, .slice x.b.A x.b.n x.b.c, .int .i64 x.P, .int .i64 x.Y, .int .i64 x.W] ∧ BandsF W x.b ∧ x.N.size ≤ 9223372036854775807 ∧ fits x.B ∧ fits x.P ∧ fits x.Y ∧ fits x.W) Try.underlying23 (k := 6) (by kernel_rfl) (by omega) (fun _ _ _ h hl => contrib_of h hl) ⟨m, g1⟩
    obtain ⟨K, hnK, hK⟩ := slice_rows (α := KB) (W := W) (d := (xs[2]).1) (p := (xs[2]).2) (fun cs x => cs = [.string x.N, .int .i64 x.c, .int .i64 x.t, .int .i64 x.s] ∧ x.N.size ≤ 9223372036854775807 ∧ fits x.c ∧ fits x.t ∧ fits x.s) Try.underlying24 (k := 4) (by kernel_rfl) (by omega) (fun _ _ _ h hl => kind_of h hl) ⟨m, g2⟩
    refine ⟨⟨AS, nS, cS, AC, nC, cC, AK, nK, cK, L, Z, S, C, K⟩, rfl, ⟨fun h0 => ?_, fun h0 => ?_, fun h0 => ?_⟩, hnS, hnC, hnK, bounds_i64 w3, bounds_i64 w4, fun i hi => ?_, fun i hi => ?_, fun i hi => ?_⟩
    · obtain ⟨b, o, hA, hc⟩ := hS h0
      refine ⟨b, o, hA, fun i hi => ?_⟩
      obtain ⟨cs, hl, ⟨rfl, hb⟩, hz⟩ := hc i hi
      have := hz 0 (by omega)
      rw [Nat.mul_one] at this
      exact ⟨this, hb.1⟩
    · obtain ⟨b, o, hA, hc⟩ := hCm h0
      refine ⟨b, o, hA, fun i hi => ?_⟩
      obtain ⟨cs, hl, ⟨rfl, hb, _⟩, hz⟩ := hc i hi
      exact ⟨hz 0 (by omega), hz 1 (by omega), hz 2 (by omega), hz 3 (by omega), hz 4 (by omega), hz 5 (by omega), hb.1⟩
    · obtain ⟨b, o, hA, hc⟩ := hK h0
      refine ⟨b, o, hA, fun i hi => ?_⟩
      obtain ⟨cs, hl, ⟨rfl, _⟩, hz⟩ := hc i hi
      exact ⟨hz 0 (by omega), hz 1 (by omega), hz 2 (by omega), hz 3 (by omega)⟩
    · obtain ⟨b, o, hA, hc⟩ := hS (by show 0 < nS; have : i < nS := hi; omega)
      obtain ⟨cs, hl, ⟨_, hb⟩, hz⟩ := hc i hi
      exact hb.2
    · obtain ⟨b, o, hA, hc⟩ := hCm (by show 0 < nC; have : i < nC := hi; omega)
      obtain ⟨cs, hl, ⟨_, hb, h1, h2, h3, h4, h5⟩, hz⟩ := hc i hi
      exact ⟨h1, h2, h3, h4, h5, hb.2⟩
    · obtain ⟨b, o, hA, hc⟩ := hK (by show 0 < nK; have : i < nK := hi; omega)
      obtain ⟨cs, hl, ⟨_, h1, h2, h3, h4⟩, hz⟩ := hc i hi
      exact ⟨h1, h2, h3, h4⟩
end
end Go.Proofs.Ytffihnbpjcgicaa
