/- table.Clone (first part). -/
import Derived.Test.YtobdbjmpoefebaaDoorCloA
import Derived.Test.YtobdbjmpoefebaaDoorTabY
import Derived.Deep.RegionHeld3
namespace Go.Proofs.YtobdbjmpoefebaaDoor
open Go.RowKit Go.Sort
set_option linter.unusedVariables false
set_option linter.unusedSimpArgs false

def five (a b c d e : Value) : Nat → Value
  | 0 => a | 1 => b | 2 => c | 3 => d | _ => e
theorem five_new (W : World) (a b c d e : Value) (t : TypeId) : RowF (W.alloc (.cells #[a, b, c, d, e] t)) W.heap.size t 5 (five a b c d e) := by
  refine ⟨#[a, b, c, d, e], by show (W.heap.push _)[W.heap.size]? = _; simp, by simp, fun q hq => ?_⟩
  rcases (show q = 0 ∨ q = 1 ∨ q = 2 ∨ q = 3 ∨ q = 4 by omega) with rfl | rfl | rfl | rfl | rfl <;> rfl
def bandG (b : SB) (i : Nat) : List Value := [.int .i64 (b.F i), .int .i64 (b.R i), .int .i64 (b.E i)]
theorem bds_row {w : World} {b : SB} (h : Bds w b.A b.n b.F b.R b.E) : RowG w b.A b.n 3 (bandG b) := fun hn => by
  obtain ⟨p, o, e, hc⟩ := h hn
  refine ⟨p, o, e, fun i hi j hj => ?_⟩
  obtain ⟨c0, c1, c2⟩ := hc i hi
  rcases (show j = 0 ∨ j = 1 ∨ j = 2 by omega) with rfl | rfl | rfl
  · exact c0
  · exact c1
  · exact c2
theorem sch_row {w : World} {A : Option Addr} {n : Nat} {S : Nat → SB} (h : SchM w A n S) : RowG w A n 1 (fun i => [.slice (S i).A (S i).n (S i).c]) := fun hn => by
  obtain ⟨p, o, e, hc⟩ := h hn
  refine ⟨p, o, e, fun i hi j hj => ?_⟩
  obtain rfl : j = 0 := by omega
  rw [Nat.mul_one]
  exact (hc i hi).1
/-- the clone of a row of bands -/
theorem clone_b (b : SB) (w : World) (h : Bds w b.A b.n b.F b.R b.E) (hn : b.n ≤ 100000) (hA : b.A = none → b.c = 0) :
    Calls Tryd.prog 46 #[.slice b.A b.n b.c] w fun e w' => ∃ A c, e = .returned (.slice A b.n c) ∧ w'.ownsRow w.heap.size 85 3 (.slice A b.n c) b.n ((List.range b.n).flatMap (bandG b)) ∧ Below w.heap.size w w' := by
  refine (clone_bands b.A b.n b.c w (bandG b) (fun _ => rfl) (bds_row h) (fun i _ v hv => by simp [bandG] at hv; rcases hv with rfl | rfl | rfl <;> rfl) hn hA).mono ?_
  rintro e w' ⟨v, rfl, ho, hb⟩
  obtain ⟨A, c, rfl⟩ := own_slice ho
  exact ⟨A, c, rfl, ho, hb⟩
/-- new bands as the old ones -/
def Nw (W : World) (B : Nat) (o : SB) (v : Value) : Prop := W.ownsRow B 85 3 v o.n ((List.range o.n).flatMap (bandG o))
end Go.Proofs.YtobdbjmpoefebaaDoor
