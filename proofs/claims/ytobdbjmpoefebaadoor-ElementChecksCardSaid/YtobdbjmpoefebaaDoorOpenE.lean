/- Elements that came in, none of whose names is longer than the form's reach. -/
import Derived.Test.YtobdbjmpoefebaaDoorOpenT
import Derived.Test.YtobdbjmpoefebaaDoorEltF
import Derived.SizedLaws
namespace Go.Proofs.YtobdbjmpoefebaaDoor
open Go.ChangeShapes Go.WideShapes Go.ChangeAt Go.RowKit Go.Deep
set_option maxRecDepth 100000
set_option linter.unusedVariables false
set_option linter.unusedSimpArgs false
section
variable {H : Type} {enc : TypeId × Value → H}
instance : Inhabited EB := ⟨⟨ByteArray.empty, 0, 0⟩⟩
theorem weights_of_all {P : Program} {e : TypeId} : ∀ {ds : List (DataW H)} {d : DataW H}, d ∈ ds → ∀ m ∈ d.weights P e, m ∈ DataW.weightsAll P e ds
  | d0 :: r, d, hd, m, hm => by
    simp only [DataW.weightsAll, List.mem_append]
    rcases List.mem_cons.1 hd with rfl | h
    · exact Or.inl hm
    · exact Or.inr (weights_of_all h m hm)
/-- a row of elements of k cells each, and the sizes of what each of them tells -/
theorem slice_rows_w {W : World} {t elem : TypeId} {k : Nat} {A : Option Addr} {n c : Nat} {d : DataW H} {p : List MemPlace} {α : Type} [Inhabited α] (Q : List Value → α → Prop) (ht : Tryd.prog.underlying t = some (.slice elem)) (hC : Tryd.prog.cellsOf elem = k) (k0 : 0 < k)
    (hz : ∀ m ∈ d.weights Tryd.prog t, m ≤ reachBytes)
    (hel : ∀ (fuel : Nat) (cs : List Value) (y : DataW H × List MemPlace), DataW.trod enc Tryd.prog W 0 (fun _ => true) true fuel elem cs = some y → cs.length = k → (∀ m ∈ y.1.weights Tryd.prog elem, m ≤ reachBytes) → ∃ a, Q cs a)
    (h : DataW.Trod enc Tryd.prog W 0 (fun _ => true) true t (.slice A n c) d p) :
    ∃ f : Nat → α, (n ≤ 9223372036854775807 ∧ n ≤ c) ∧ (0 < n → ∃ b o, A = some ⟨b, o, none⟩ ∧ ∀ i, i < n → ∃ cs : List Value, cs.length = k ∧ Q cs (f i) ∧ ∀ j, j < k → W.cell? ⟨b, o + i * k + j, none⟩ = cs[j]?) := by
  obtain ⟨fuel, hf⟩ := h
  rcases open_slice ht hf with ⟨hcs, _⟩ | ⟨a, len, cap, m, q, D, Pl, hcs, _, hl, hm, hmm, hx, hi⟩
  · simp only [Value.cells, List.cons.injEq, Value.slice.injEq] at hcs
    obtain ⟨⟨rfl, rfl, rfl⟩, _⟩ := hcs
    exact ⟨fun _ => default, ⟨by omega, by omega⟩, fun h0 => absurd h0 (Nat.lt_irrefl 0)⟩
  · simp only [Value.cells, List.cons.injEq, Value.slice.injEq] at hcs
    obtain ⟨⟨rfl, rfl, rfl⟩, _⟩ := hcs
    have hw : ∀ i, i < n → ∀ m ∈ (D i).weights Tryd.prog elem, m ≤ reachBytes := fun i hin m hmem => by
      refine hz m ?_
      have hd : d = .slice ((List.range n).map D) ((List.range (_ - n)).map fun j => D (n + j)) := congrArg Prod.fst hx
      rw [hd]
      simp only [DataW.weights, ht, List.mem_cons, List.mem_append]
      exact Or.inr (Or.inl (weights_of_all (List.mem_map.2 ⟨i, List.mem_range.2 hin, rfl⟩) m hmem))
    have key : ∀ i, ∃ x : α, i < n → ∃ cs : List Value, cs.length = k ∧ Q cs x ∧ ∀ j, j < k → W.cell? ((a.add (i * k)).add j) = cs[j]? := fun i => by
      by_cases hin : i < n
      · obtain ⟨cs', h1, h2⟩ := hi i (by simp at hmm; omega)
        rw [hC] at h1
        obtain ⟨_, hlen, hat⟩ := World.cells?_some h1
        obtain ⟨x, hx⟩ := hel _ _ _ h2 hlen (hw i hin)
        exact ⟨x, fun _ => ⟨cs', hlen, hx, fun j hj => hat j hj⟩⟩
      · exact ⟨default, fun hh => absurd hh hin⟩
    obtain ⟨b, o, spot⟩ := a
    refine ⟨fun i => Classical.choose (key i), ⟨by unfold maxLen at hm; omega, hl⟩, fun hn => ?_⟩
    obtain ⟨cs, hl0, _, hz⟩ := Classical.choose_spec (key 0) hn
    have z0 := hz 0 k0
    have hspot : spot = none := by
      rw [List.getElem?_eq_getElem (by omega)] at z0
      have : (((⟨b, o, spot⟩ : Addr).add (0 * k)).add 0).spot = none := World.cell?_spot z0
      simpa [Addr.add] using this
    subst hspot
    refine ⟨b, o, rfl, fun i hin => ?_⟩
    obtain ⟨cs, hl0, hq, hz⟩ := Classical.choose_spec (key i) hin
    refine ⟨cs, hl0, hq, fun j hj => ?_⟩
    have := hz j hj
    rw [Go.WideShapes.add_plain, Go.WideShapes.add_plain] at this
    exact this
theorem element_of {W : World} {fuel : Nat} {cs : List Value} {y : DataW H × List MemPlace} (h : DataW.trod enc Tryd.prog W 0 (fun _ => true) true fuel 45 cs = some y) (hl : cs.length = 3) (hz : ∀ m ∈ y.1.weights Tryd.prog 45, m ≤ reachBytes) :
    ∃ x : EB, cs = [.string x.N, .int .i64 x.A, .int .i64 x.U] ∧ x.N.size ≤ 140737488355328 ∧ fits x.A ∧ fits x.U := by
  obtain ⟨xs, m, _, hy, _, hxl, hg⟩ := DataW.trod_struct Tryd.underlying45 h
  have hxl3 : xs.length = 3 := hxl
  have k2 : Tryd.prog.cellsOf 2 = 1 := by kernel_rfl
  have k3 : Tryd.prog.cellsOf 9 = 1 := by kernel_rfl
  match cs, hl with
  | [c0, c1, c2], _ =>
    have g0 : DataW.trod enc Tryd.prog W 0 (fun _ => true) true m 9 (([c0, c1, c2].drop 0).take (Tryd.prog.cellsOf 9)) = xs[0]? := hg 0 _ rfl
    have g1 : DataW.trod enc Tryd.prog W 0 (fun _ => true) true m 2 (([c0, c1, c2].drop 1).take (Tryd.prog.cellsOf 2)) = xs[1]? := hg 1 _ rfl
    have g2 : DataW.trod enc Tryd.prog W 0 (fun _ => true) true m 2 (([c0, c1, c2].drop 2).take (Tryd.prog.cellsOf 2)) = xs[2]? := hg 2 _ rfl
    rw [k3, List.getElem?_eq_getElem (by omega)] at g0
    rw [k2, List.getElem?_eq_getElem (by omega)] at g1 g2
    obtain ⟨N, e0, hd, w0⟩ := DataW.trod_string Tryd.underlying9 g0
    obtain ⟨a, e1, _, w1⟩ := DataW.trod_int Tryd.underlying2 g1
    obtain ⟨b, e2, _, w2⟩ := DataW.trod_int Tryd.underlying2 g2
    have e0' : c0 = .string N := by simpa using e0
    have e1' : c1 = .int .i64 a := by simpa using e1
    have e2' : c2 = .int .i64 b := by simpa using e2
    subst e0' e1' e2'
    refine ⟨⟨N, a, b⟩, rfl, ?_, bounds_i64 w1, bounds_i64 w2⟩
    have hlen : N.data.toList.length ≤ reachBytes := by
      refine hz _ ?_
      have hy1 : y.1 = .agg (xs.map (·.1)) := congrArg Prod.fst hy
      rw [hy1]
      simp only [DataW.weights, Tryd.underlying45]
      refine DataW.weights_mem_each (j := 0) (t := 9) (d := xs[0].1) rfl (by rw [List.getElem?_map, List.getElem?_eq_getElem (by omega)]; rfl) _ ?_
      rw [hd]
      simp [DataW.weights]
    have hr := reachBytes_lt
    have e2 : N.data.toList.length = N.size := by simp
    rw [e2] at hlen
    show N.size ≤ 140737488355328
    omega
/-- elements that came in -/
theorem open_els {W : World} {A : Option Addr} {n c : Nat} {d : DataW H} {p : List MemPlace} (hz : ∀ m ∈ d.weights Tryd.prog 50, m ≤ reachBytes)
    (h : DataW.Trod enc Tryd.prog W 0 (fun _ => true) true 50 (.slice A n c) d p) :
    ∃ E : Nat → EB, ElM W A n E ∧ (n ≤ 9223372036854775807 ∧ n ≤ c) ∧ ∀ i, i < n → (E i).N.size ≤ 140737488355328 ∧ fits (E i).A ∧ fits (E i).U := by
  obtain ⟨E, hn, hE⟩ := slice_rows_w (α := EB) (W := W) (fun cs x => cs = [.string x.N, .int .i64 x.A, .int .i64 x.U] ∧ x.N.size ≤ 140737488355328 ∧ fits x.A ∧ fits x.U) Tryd.underlying50 (k := 3) (by kernel_rfl) (by omega) hz (fun _ _ _ h hl hw => element_of h hl hw) h
  refine ⟨E, fun h0 => ?_, hn, fun i hi => ?_⟩
  · obtain ⟨b, o, hA, hc⟩ := hE h0
    refine ⟨b, o, hA, fun i hi => ?_⟩
    obtain ⟨cs, hl, ⟨rfl, _⟩, hz⟩ := hc i hi
    exact ⟨hz 0 (by omega), hz 1 (by omega), hz 2 (by omega)⟩
  · obtain ⟨b, o, hA, hc⟩ := hE (by omega)
    obtain ⟨cs, hl, ⟨_, hq⟩, hz⟩ := hc i hi
    exact hq
/-- one element that came in -/
theorem open_element {W : World} {r : Reach} {base : Nat} {v : Value} {d : DataW H} {p : List MemPlace} (hz : ∀ m ∈ d.weights Tryd.prog 45, m ≤ reachBytes) (hv : Value.okWide Tryd.prog W r base 45 v) (h : DataW.Trod enc Tryd.prog W 0 (fun _ => true) true 45 v d p) :
    ∃ N a u, v = .agg #[.string N, .int .i64 a, .int .i64 u] ∧ N.size ≤ 140737488355328 ∧ fits a ∧ fits u := by
  obtain ⟨cs, rfl, hsz⟩ := okWide_struct Tryd.underlying45 hv
  have hC : Tryd.prog.cellsOf 45 = 3 := by kernel_rfl
  obtain ⟨l⟩ := cs
  obtain ⟨fuel, hf⟩ := h
  have hl : l.length = 3 := hsz.trans hC
  obtain ⟨x, e, h1, h2, h3⟩ := element_of (W := W) (cs := l) (y := (d, p)) (fuel := fuel) hf hl hz
  subst e
  exact ⟨x.N, x.A, x.U, rfl, h1, h2, h3⟩
end
end Go.Proofs.YtobdbjmpoefebaaDoor
