/- The last step of a law's row, where the call made new memory and left all older memory as it was: whatever the arguments' types are. -/
import Derived.Test.YthknjpmhomjobaaGreatDoorRows
import Derived.WalkKit
import Derived.ProofKit
import Derived.OpenShut
import Derived.Test.YthknjpmhomjobaaGreatDoorPlain
namespace Go.Proofs.YthknjpmhomjobaaGreatDoor
open Go.ChangeShapes Go.WideShapes Go.ChangeAt Go.RowKit
set_option maxRecDepth 100000
theorem ownNone : ownKnob Tryz.prog.godebug = none := by kernel_rfl
theorem laidOutAll : laidOutB Tryz.prog = true := by kernel_rfl
/-- all types of a list are such as a reading goes through -/
def readB (P : Program) (ts : List TypeId) : Bool := ts.all fun t => P.readableRec t && decide (t < P.types.size)
section
variable {H : Type} {enc : TypeId × Value → H}
theorem args_below {P : Program} (hlo : laidOutB P = true) {W W' : World} (hb : Below W.heap.size W W') : ∀ {ts : List TypeId} {vs : List Value} {ds : List (DataW H)} {p : List MemPlace}, readB P ts = true →
    DataW.TrodAll enc P W 0 (fun _ => true) true ts vs ds p → (∀ q ∈ p, q.block < W.heap.size) → DataW.TrodAll enc P W' 0 (fun b => decide (b < W.heap.size)) true ts vs ds p
  | [], _, _, _, _, h, _ => by
    obtain ⟨rfl, rfl, rfl⟩ := trodAll_nil h
    exact trodAll_mk0
  | t :: ts, _, _, _, hr, h, hl => by
    obtain ⟨v, vs, d, ds, a, b, rfl, rfl, rfl, h1, h2⟩ := trodAll_cons h
    simp only [readB, List.all_cons, Bool.and_eq_true, decide_eq_true_eq] at hr
    exact trodAll_cons_mk (Below.trod hlo hr.1.1 hr.1.2 h1 hb fun x hx => hl x (List.mem_append_left _ hx))
      (args_below hlo hb hr.2 h2 fun x hx => hl x (List.mem_append_right _ hx))
theorem post_true {f : Func} {s : ChangeSpec} {W W' : World} {args : Array Value} {ds : List (DataW H)} {p : List MemPlace}
    (hW : DataW.Whole enc Tryz.prog f.params.toList s.vars false W args.toList ds [] p) (hv : s.vars = [])
    (hfn : s.fn H (ds ++ []) = { results := [.lit (.bool true)], args := ds }) (hrt : f.resultTypes = #[4]) (hr : readB Tryz.prog f.params.toList = true) (hb : Below W.heap.size W W') :
    s.post enc Tryz.prog f false true false false W args (.bool true) W' := by
  have hlt : ∀ q ∈ p, q.block < W.heap.size := fun q hq => hW.lt q hq
  have hW2 := hW
  obtain ⟨pa, pv, hA, hV, hp, hz, hn⟩ := hW
  rw [hv] at hV
  obtain ⟨_, rfl⟩ := trodVars_none hV
  rw [List.append_nil] at hp
  subst hp
  refine ⟨ds, [], p, [], p, [], hW2, ?_, ?_, ?_, World.keptBut_mono (fun q hq => ⟨hq, .inr (.inl hq)⟩) (hb.frame (· ∈ p)), fun h => by cases h⟩
  · rw [hfn, hrt]
    exact trodAll_cons_mk (shut_bool Tryz.underlying4 _) trodAll_mk0
  · rw [hfn]
    exact args_below laidOutAll hb hr hA hlt
  · rw [hfn, hv]
    exact rfl
/-- a slice of numbers that came in: its elements, wherever they lie; each of them fits -/
theorem slice_ints {W : World} {t elem : TypeId} {A : Option Addr} {n c : Nat} {d : DataW H} {p : List MemPlace} (ht : Tryz.prog.underlying t = some (.slice elem)) (he : Tryz.prog.underlying elem = some (.int .i64)) (hc : Tryz.prog.cellsOf elem = 1)
    (h : DataW.Trod enc Tryz.prog W 0 (fun _ => true) true t (.slice A n c) d p) :
    ∃ f : Nat → Int, rowAt W A n (fun i => .int .i64 (f i)) ∧ n ≤ 9223372036854775807 ∧ ∀ i, -9223372036854775808 ≤ f i ∧ f i ≤ 9223372036854775807 := by
  obtain ⟨fuel, hf⟩ := h
  rcases open_ints ht he hc hf with ⟨hcs, _⟩ | ⟨a, len, cap, zs, hcs, _, hl, hm, hz, _, hcell, hw⟩
  · simp only [Value.cells, List.cons.injEq, Value.slice.injEq] at hcs
    obtain ⟨⟨rfl, rfl, rfl⟩, _⟩ := hcs
    exact ⟨fun _ => 0, fun h0 => absurd h0 (Nat.lt_irrefl 0), by omega, fun _ => ⟨by simp, by simp⟩⟩
  · simp only [Value.cells, List.cons.injEq, Value.slice.injEq] at hcs
    obtain ⟨⟨rfl, rfl, rfl⟩, _⟩ := hcs
    simp only [if_true] at hz
    refine ⟨fun i => zs.getD i 0, fun hn => ?_, by unfold maxLen at hm; omega, fun i => ?_⟩
    · obtain ⟨b, o, rfl, hc2⟩ := ints_at hcell (by omega)
      exact ⟨b, o, rfl, fun i hi => hc2 i (by omega)⟩
    · by_cases hi : i < zs.length
      · have := bounds_i64 (hw zs[i] (List.getElem_mem hi))
        simpa [List.getD, List.getElem?_eq_getElem hi] using this
      · simp [List.getD, List.getElem?_eq_none (Nat.not_lt.1 hi)]
/-- an array of two numbers that came in -/
theorem array_two {W : World} {r : Reach} {base : Nat} {t elem : TypeId} {v : Value} {d : DataW H} {p : List MemPlace} (ht : Tryz.prog.underlying t = some (.array 2 elem)) (he : Tryz.prog.underlying elem = some (.int .i64)) (hc : Tryz.prog.cellsOf elem = 1) (hc2 : Tryz.prog.cellsOf t = 2)
    (hv : Value.okWide Tryz.prog W r base t v) (h : DataW.Trod enc Tryz.prog W 0 (fun _ => true) true t v d p) :
    ∃ x y : Int, v = .agg #[.int .i64 x, .int .i64 y] ∧ (-9223372036854775808 ≤ x ∧ x ≤ 9223372036854775807) ∧ (-9223372036854775808 ≤ y ∧ y ≤ 9223372036854775807) := by
  simp only [Value.okWide, ht] at hv
  obtain ⟨cs, rfl, hsz, _⟩ := hv
  obtain ⟨l⟩ := cs
  match l, hsz.trans hc2 with
  | [c0, c1], _ =>
    obtain ⟨fuel, hf⟩ := h
    obtain ⟨xs, m, _, _, _, _, hg⟩ := DataW.trod_array ht hf
    have g0 := hg 0 (by omega)
    have g1 := hg 1 (by omega)
    rw [hc] at g0 g1
    have hx : 0 < xs.length ∧ 1 < xs.length := by omega
    rw [List.getElem?_eq_getElem hx.1] at g0
    rw [List.getElem?_eq_getElem hx.2] at g1
    obtain ⟨x, e0, _, w0⟩ := DataW.trod_int he g0
    obtain ⟨y, e1, _, w1⟩ := DataW.trod_int he g1
    simp [Value.cells] at e0 e1
    subst e0 e1
    exact ⟨x, y, rfl, bounds_i64 w0, bounds_i64 w1⟩
end
end Go.Proofs.YthknjpmhomjobaaGreatDoor
