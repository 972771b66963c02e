/- Entries that came in, and lists of them, none of whose names is longer than the form's reach. -/
import Derived.Test.YtgadlfdioakodabDoorPost
import Derived.Test.YtgadlfdioakodabDoorEnt
import Derived.SizedLaws
import Derived.Deep.Slices
import Derived.ChangeArms
namespace Go.Proofs.YtgadlfdioakodabDoor
open Go.ChangeShapes Go.WideShapes Go.ChangeAt Go.RowKit Go.Deep
set_option maxRecDepth 100000
set_option linter.unusedVariables false
set_option linter.unusedSimpArgs false
section
variable {H : Type} {enc : TypeId × Value → H}
def fits (x : Int) : Prop := -9223372036854775808 ≤ x ∧ x ≤ 9223372036854775807
/-- an entry that came in -/
def EnF (x : En) : Prop := x.1.size ≤ 140737488355328 ∧ fits x.2
/-- a list of entries -/
structure EL where
  A : Option Addr
  n : Nat
  c : Nat
  f : Nat → En
instance : Inhabited En := ⟨(ByteArray.empty, 0)⟩
instance : Inhabited EL := ⟨⟨none, 0, 0, fun _ => default⟩⟩
theorem weights_of_all {P : Program} {e : TypeId} : ∀ {ds : List (DataW H)} {d : DataW H}, d ∈ ds → ∀ m ∈ d.weights P e, m ∈ DataW.weightsAll P e ds
  | d0 :: r, d, hd, m, hm => by
    simp only [DataW.weightsAll, List.mem_append]
    rcases List.mem_cons.1 hd with rfl | h
    · exact Or.inl hm
    · exact Or.inr (weights_of_all h m hm)
/-- a row of elements of k cells each, and the sizes of what each of them tells -/
theorem slice_rows_w {W : World} {t elem : TypeId} {k : Nat} {A : Option Addr} {n c : Nat} {d : DataW H} {p : List MemPlace} {α : Type} [Inhabited α] (Q : List Value → α → Prop) (ht : Tryd.prog.underlying t = some (.slice elem)) (hC : Tryd.prog.cellsOf elem = k) (k0 : 0 < k)
    (hz : ∀ m ∈ d.weights Tryd.prog t, m ≤ reachBytes)
    (hel : ∀ (fuel : Nat) (cs : List Value) (y : DataW H × List MemPlace), DataW.trod enc Tryd.prog W 0 (fun _ => true) true fuel elem cs = some y → cs.length = k → (∀ m ∈ y.1.weights Tryd.prog elem, m ≤ reachBytes) → ∃ a, Q cs a)
    (h : DataW.Trod enc Tryd.prog W 0 (fun _ => true) true t (.slice A n c) d p) :
    ∃ f : Nat → α, (n ≤ 9223372036854775807 ∧ n ≤ c) ∧ (0 < n → ∃ b o, A = some ⟨b, o, none⟩ ∧ ∀ i, i < n → ∃ cs : List Value, cs.length = k ∧ Q cs (f i) ∧ ∀ j, j < k → W.cell? ⟨b, o + i * k + j, none⟩ = cs[j]?) := by
  obtain ⟨fuel, hf⟩ := h
  rcases open_slice ht hf with ⟨hcs, _⟩ | ⟨a, len, cap, m, q, D, Pl, hcs, _, hl, hm, hmm, hx, hi⟩
  · simp only [Value.cells, List.cons.injEq, Value.slice.injEq] at hcs
    obtain ⟨⟨rfl, rfl, rfl⟩, _⟩ := hcs
    exact ⟨fun _ => default, ⟨by omega, by omega⟩, fun h0 => absurd h0 (Nat.lt_irrefl 0)⟩
  · simp only [Value.cells, List.cons.injEq, Value.slice.injEq] at hcs
    obtain ⟨⟨rfl, rfl, rfl⟩, _⟩ := hcs
    have hw : ∀ i, i < n → ∀ m ∈ (D i).weights Tryd.prog elem, m ≤ reachBytes := fun i hin m hmem => by
      refine hz m ?_
      have hd : d = .slice ((List.range n).map D) ((List.range (_ - n)).map fun j => D (n + j)) := congrArg Prod.fst hx
      rw [hd]
      simp only [DataW.weights, ht, List.mem_cons, List.mem_append]
      exact Or.inr (Or.inl (weights_of_all (List.mem_map.2 ⟨i, List.mem_range.2 hin, rfl⟩) m hmem))
    have key : ∀ i, ∃ x : α, i < n → ∃ cs : List Value, cs.length = k ∧ Q cs x ∧ ∀ j, j < k → W.cell? ((a.add (i * k)).add j) = cs[j]? := fun i => by
      by_cases hin : i < n
      · obtain ⟨cs', h1, h2⟩ := hi i (by simp at hmm; omega)
        rw [hC] at h1
        obtain ⟨_, hlen, hat⟩ := World.cells?_some h1
        obtain ⟨x, hx⟩ := hel _ _ _ h2 hlen (hw i hin)
        exact ⟨x, fun _ => ⟨cs', hlen, hx, fun j hj => hat j hj⟩⟩
      · exact ⟨default, fun hh => absurd hh hin⟩
    obtain ⟨b, o, spot⟩ := a
    refine ⟨fun i => Classical.choose (key i), ⟨by unfold maxLen at hm; omega, hl⟩, fun hn => ?_⟩
    obtain ⟨cs, hl0, _, hz⟩ := Classical.choose_spec (key 0) hn
    have z0 := hz 0 k0
    have hspot : spot = none := by
      rw [List.getElem?_eq_getElem (by omega)] at z0
      have : (((⟨b, o, spot⟩ : Addr).add (0 * k)).add 0).spot = none := World.cell?_spot z0
      simpa [Addr.add] using this
    subst hspot
    refine ⟨b, o, rfl, fun i hin => ?_⟩
    obtain ⟨cs, hl0, hq, hz⟩ := Classical.choose_spec (key i) hin
    refine ⟨cs, hl0, hq, fun j hj => ?_⟩
    have := hz j hj
    rw [Go.WideShapes.add_plain, Go.WideShapes.add_plain] at this
    exact this
theorem entry_of {W : World} {fuel : Nat} {cs : List Value} {y : DataW H × List MemPlace} (h : DataW.trod enc Tryd.prog W 0 (fun _ => true) true fuel 26 cs = some y) (hl : cs.length = 2) (hz : ∀ m ∈ y.1.weights Tryd.prog 26, m ≤ reachBytes) :
    ∃ x : En, cs = [.string x.1, .int .i64 x.2] ∧ EnF x := by
  obtain ⟨xs, m, _, hy, _, hxl, hg⟩ := DataW.trod_struct Tryd.underlying26 h
  have hxl3 : xs.length = 2 := hxl
  have k2 : Tryd.prog.cellsOf 2 = 1 := by kernel_rfl
  have k3 : Tryd.prog.cellsOf 9 = 1 := by kernel_rfl
  match cs, hl with
  | [c0, c1], _ =>
    have g0 : DataW.trod enc Tryd.prog W 0 (fun _ => true) true m 9 (([c0, c1].drop 0).take (Tryd.prog.cellsOf 9)) = xs[0]? := hg 0 _ rfl
    have g1 : DataW.trod enc Tryd.prog W 0 (fun _ => true) true m 2 (([c0, c1].drop 1).take (Tryd.prog.cellsOf 2)) = xs[1]? := hg 1 _ rfl
    rw [k3, List.getElem?_eq_getElem (by omega)] at g0
    rw [k2, List.getElem?_eq_getElem (by omega)] at g1
    obtain ⟨N, e0, hd, w0⟩ := DataW.trod_string Tryd.underlying9 g0
    obtain ⟨a, e1, _, w1⟩ := DataW.trod_int Tryd.underlying2 g1
    have e0' : c0 = .string N := by simpa using e0
    have e1' : c1 = .int .i64 a := by simpa using e1
    subst e0' e1'
    refine ⟨(N, a), rfl, ?_, bounds_i64 w1⟩
    have hlen : N.data.toList.length ≤ reachBytes := by
      refine hz _ ?_
      have hy1 : y.1 = .agg (xs.map (·.1)) := congrArg Prod.fst hy
      rw [hy1]
      simp only [DataW.weights, Tryd.underlying26]
      refine DataW.weights_mem_each (j := 0) (t := 9) (d := xs[0].1) rfl (by rw [List.getElem?_map, List.getElem?_eq_getElem (by omega)]; rfl) _ ?_
      rw [hd]
      simp [DataW.weights]
    have hr := reachBytes_lt
    have e2 : N.data.toList.length = N.size := by simp
    rw [e2] at hlen
    show N.size ≤ 140737488355328
    omega
/-- entries that came in -/
theorem open_entries {W : World} {A : Option Addr} {n c : Nat} {d : DataW H} {p : List MemPlace} (hz : ∀ m ∈ d.weights Tryd.prog 22, m ≤ reachBytes)
    (h : DataW.Trod enc Tryd.prog W 0 (fun _ => true) true 22 (.slice A n c) d p) :
    ∃ f : Nat → En, EnM W A n f ∧ (n ≤ 9223372036854775807 ∧ n ≤ c) ∧ ∀ i, i < n → EnF (f i) := by
  obtain ⟨E, hn, hE⟩ := slice_rows_w (α := En) (W := W) (fun cs x => cs = [.string x.1, .int .i64 x.2] ∧ EnF x) Tryd.underlying22 (k := 2) (by kernel_rfl) (by omega) hz (fun _ _ _ h hl hw => entry_of h hl hw) h
  refine ⟨E, fun h0 => ?_, hn, fun i hi => ?_⟩
  · obtain ⟨b, o, hA, hc⟩ := hE h0
    refine ⟨b, o, hA, fun i hi => ?_⟩
    obtain ⟨cs, hl, ⟨rfl, _⟩, hz⟩ := hc i hi
    exact ⟨hz 0 (by omega), hz 1 (by omega)⟩
  · obtain ⟨b, o, hA, hc⟩ := hE (by omega)
    obtain ⟨cs, hl, ⟨_, hq⟩, hz⟩ := hc i hi
    exact hq
/-- lists of entries, wherever they lie -/
def ElsM (W : World) (A : Option Addr) (n : Nat) (g : Nat → EL) : Prop := 0 < n → ∃ b o, A = some ⟨b, o, none⟩ ∧ ∀ i, i < n → W.cell? ⟨b, o + i, none⟩ = some (.slice (g i).A (g i).n (g i).c) ∧ EnM W (g i).A (g i).n (g i).f
theorem ElsM.below {w w' : World} {A : Option Addr} {n : Nat} {g : Nat → EL} (h : ElsM w A n g) (hb : Below w.heap.size w w') : ElsM w' A n g := fun h0 => by
  obtain ⟨b, o, e, hc⟩ := h h0
  exact ⟨b, o, e, fun i hi => ⟨cell_later hb (hc i hi).1, (hc i hi).2.below hb⟩⟩
def ElF (x : EL) : Prop := (x.n ≤ 9223372036854775807 ∧ x.n ≤ x.c) ∧ ∀ i, i < x.n → EnF (x.f i)
theorem list_of {W : World} {fuel : Nat} {cs : List Value} {y : DataW H × List MemPlace} (h : DataW.trod enc Tryd.prog W 0 (fun _ => true) true fuel 22 cs = some y) (hl : cs.length = 1) (hz : ∀ m ∈ y.1.weights Tryd.prog 22, m ≤ reachBytes) :
    ∃ x : EL, cs = [.slice x.A x.n x.c] ∧ EnM W x.A x.n x.f ∧ ElF x := by
  obtain ⟨d, p⟩ := y
  have hv : ∃ A n c, cs = [.slice A n c] := by
    rcases open_slice Tryd.underlying22 h with ⟨hcs, _⟩ | ⟨a, len, cap, m, q, D, Pl, hcs, _⟩
    · exact ⟨_, _, _, hcs⟩
    · exact ⟨_, _, _, hcs⟩
  obtain ⟨A, n, c, rfl⟩ := hv
  obtain ⟨f, h1, h2, h3⟩ := open_entries (W := W) (A := A) (n := n) (c := c) (d := d) (p := p) hz ⟨fuel, h⟩
  exact ⟨⟨A, n, c, f⟩, rfl, h1, h2, h3⟩
theorem open_lists {W : World} {A : Option Addr} {n c : Nat} {d : DataW H} {p : List MemPlace} (hz : ∀ m ∈ d.weights Tryd.prog 36, m ≤ reachBytes)
    (h : DataW.Trod enc Tryd.prog W 0 (fun _ => true) true 36 (.slice A n c) d p) :
    ∃ g : Nat → EL, ElsM W A n g ∧ (n ≤ 9223372036854775807 ∧ n ≤ c) ∧ ∀ i, i < n → ElF (g i) := by
  obtain ⟨E, hn, hE⟩ := slice_rows_w (α := EL) (W := W) (fun cs x => cs = [.slice x.A x.n x.c] ∧ EnM W x.A x.n x.f ∧ ElF x) Tryd.underlying36 (k := 1) (by kernel_rfl) (by omega) hz (fun _ _ _ h hl hw => list_of h hl hw) h
  refine ⟨E, fun h0 => ?_, hn, fun i hi => ?_⟩
  · obtain ⟨b, o, hA, hc⟩ := hE h0
    refine ⟨b, o, hA, fun i hi => ?_⟩
    obtain ⟨cs, hl, ⟨rfl, hm, _⟩, hz⟩ := hc i hi
    have := hz 0 (by omega)
    rw [Nat.mul_one, Nat.add_zero] at this
    exact ⟨this, hm⟩
  · obtain ⟨b, o, hA, hc⟩ := hE (by omega)
    obtain ⟨cs, hl, ⟨_, _, hq⟩, hz⟩ := hc i hi
    exact hq
end
end Go.Proofs.YtgadlfdioakodabDoor
