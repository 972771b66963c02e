/- What element.own and element.Of answer: the element itself, its name as new memory. -/
import Derived.Test.YtobdbjmpoefebaaDoorEltA
import Derived.Test.YtobdbjmpoefebaaDoorCloA
namespace Go.Proofs.YtobdbjmpoefebaaDoor
open Go.RowKit
set_option linter.unusedVariables false
set_option linter.unusedSimpArgs false

def trip (a b c : Value) : Nat → Value
  | 0 => a | 1 => b | _ => c
theorem trip_new (W : World) (a b c : Value) (t : TypeId) : RowF (W.alloc (.cells #[a, b, c] t)) W.heap.size t 3 (trip a b c) := by
  refine ⟨#[a, b, c], by show (W.heap.push _)[W.heap.size]? = _; simp, by simp, fun q hq => ?_⟩
  rcases (show q = 0 ∨ q = 1 ∨ q = 2 by omega) with rfl | rfl | rfl <;> rfl
set_option maxHeartbeats 1000000 in
theorem own_el (N : ByteArray) (a u : Int) (w : World) (hs : N.size ≤ 281474976710656) : Calls Tryd.prog 77 #[.agg #[.string N, .int .i64 a, .int .i64 u]] w fun e w' => e = .returned (.agg #[.string N, .int .i64 a, .int .i64 u]) ∧ Below w.heap.size w w' := by
  have cl := fun w => strclone_any N w hs
  have r1 := trip_new w (.string N) (.int .i64 a) (.int .i64 u) 45
  have hN1 := below_new w (.cells #[.string N, .int .i64 a, .int .i64 u] 45)
  have hsz : (w.alloc (.cells #[.string N, .int .i64 a, .int .i64 u] 45)).heap.size = w.heap.size + 1 := by simp
  have r2 := trip_new (w.alloc (.cells #[.string N, .int .i64 a, .int .i64 u] 45)) (.string ⟨#[]⟩) (.int .i64 0) (.int .i64 0) 45
  have hN2 := below_new (w.alloc (.cells #[.string N, .int .i64 a, .int .i64 u] 45)) (.cells #[.string ⟨#[]⟩, .int .i64 0, .int .i64 0] 45)
  have r1 := r1.below hN2
  have B2 := below_step hN1 hN2 hN1.size
  rw [hsz] at r2
  clear hN1 hN2
  go_enter Tryd.func77, Tryd.ntmps77
  go_wp2_with (fail)
  generalize (w.alloc (.cells #[.string N, .int .i64 a, .int .i64 u] 45)).alloc (.cells #[.string ⟨#[]⟩, .int .i64 0, .int .i64 0] 45) = w1 at *
  refine (cl _).mono ?_
  rintro e w2 ⟨rfl, hb⟩
  have B3 := below_step B2 hb B2.size
  have r3 := r1.below hb
  have r4 := r2.below hb
  have f0 := r3.frozen
  have d0 : w2.cell? ⟨w.heap.size, 0, none⟩ = some (.string N) := r3.cell (by omega)
  have r5 := r3.set 0 (.string N)
  have r6 := r4.other (a := ⟨w.heap.size, 0, none⟩) (by show w.heap.size + 1 ≠ w.heap.size; omega) (.string N)
  have B4 := B3.setCell (p := ⟨w.heap.size, 0, none⟩) (Nat.le_refl _) (.string N)
  have x0 : (w2.setCell ⟨w.heap.size, 0, none⟩ (.string N)).cell? ⟨w.heap.size, 0, none⟩ = some (.string N) := r5.cell (by omega)
  have x1 : (w2.setCell ⟨w.heap.size, 0, none⟩ (.string N)).cell? ⟨w.heap.size, 1, none⟩ = some (.int .i64 a) := r5.cell (by omega)
  have x2 : (w2.setCell ⟨w.heap.size, 0, none⟩ (.string N)).cell? ⟨w.heap.size, 2, none⟩ = some (.int .i64 u) := r5.cell (by omega)
  have g0 := r6.frozen
  have v0 : (w2.setCell ⟨w.heap.size, 0, none⟩ (.string N)).cell? ⟨w.heap.size + 1, 0, none⟩ = some (.string ⟨#[]⟩) := r6.cell (by omega)
  have v1 : (w2.setCell ⟨w.heap.size, 0, none⟩ (.string N)).cell? ⟨w.heap.size + 1, 1, none⟩ = some (.int .i64 0) := r6.cell (by omega)
  have v2 : (w2.setCell ⟨w.heap.size, 0, none⟩ (.string N)).cell? ⟨w.heap.size + 1, 2, none⟩ = some (.int .i64 0) := r6.cell (by omega)
  go_wp2
  generalize w2.setCell ⟨w.heap.size, 0, none⟩ (.string N) = w3 at *
  have rf := ((r6.set 0 (.string N)).set 1 (.int .i64 a)).set 2 (.int .i64 u)
  have y0 : (((w3.setCell ⟨w.heap.size + 1, 0, none⟩ (.string N)).setCell ⟨w.heap.size + 1, 1, none⟩ (.int .i64 a)).setCell ⟨w.heap.size + 1, 2, none⟩ (.int .i64 u)).cell? ⟨w.heap.size + 1, 0, none⟩ = some (.string N) := rf.cell (by omega)
  have y1 : (((w3.setCell ⟨w.heap.size + 1, 0, none⟩ (.string N)).setCell ⟨w.heap.size + 1, 1, none⟩ (.int .i64 a)).setCell ⟨w.heap.size + 1, 2, none⟩ (.int .i64 u)).cell? ⟨w.heap.size + 1, 1, none⟩ = some (.int .i64 a) := rf.cell (by omega)
  have y2 : (((w3.setCell ⟨w.heap.size + 1, 0, none⟩ (.string N)).setCell ⟨w.heap.size + 1, 1, none⟩ (.int .i64 a)).setCell ⟨w.heap.size + 1, 2, none⟩ (.int .i64 u)).cell? ⟨w.heap.size + 1, 2, none⟩ = some (.int .i64 u) := rf.cell (by omega)
  have hle : w.heap.size ≤ w.heap.size + 1 := by omega
  exact bodyPost_ret (v := .agg #[.string N, .int .i64 a, .int .i64 u]) (by simp [results, Tryd.results77, go_sem, y0, y1, y2]) rfl ⟨rfl, ((B4.setCell hle _).setCell hle _).setCell hle _⟩
set_option maxHeartbeats 1000000 in
theorem of_el (N : ByteArray) (a : Int) (w : World) (hs : N.size ≤ 281474976710656) : Calls Tryd.prog 33 #[.string N, .int .i64 a] w fun e w' => e = .returned (.agg #[.string N, .int .i64 a, .int .i64 100]) ∧ Below w.heap.size w w' := by
  have cl := fun w => own_el N a 100 w hs
  have r1 := trip_new w (.string ⟨#[]⟩) (.int .i64 0) (.int .i64 0) 45
  have B1 := below_new w (.cells #[.string ⟨#[]⟩, .int .i64 0, .int .i64 0] 45)
  go_enter Tryd.func33, Tryd.ntmps33
  go_wp2_with (fail)
  generalize w.alloc (.cells #[.string ⟨#[]⟩, .int .i64 0, .int .i64 0] 45) = w1 at *
  refine (cl _).mono ?_
  rintro e w2 ⟨rfl, hb⟩
  have B3 := below_step B1 hb B1.size
  have r3 := r1.below hb
  have f0 := r3.frozen
  have v0 : w2.cell? ⟨w.heap.size, 0, none⟩ = some (.string ⟨#[]⟩) := r3.cell (by omega)
  have v1 : w2.cell? ⟨w.heap.size, 1, none⟩ = some (.int .i64 0) := r3.cell (by omega)
  have v2 : w2.cell? ⟨w.heap.size, 2, none⟩ = some (.int .i64 0) := r3.cell (by omega)
  go_wp2
  have rf := ((r3.set 0 (.string N)).set 1 (.int .i64 a)).set 2 (.int .i64 100)
  have y0 : (((w2.setCell ⟨w.heap.size, 0, none⟩ (.string N)).setCell ⟨w.heap.size, 1, none⟩ (.int .i64 a)).setCell ⟨w.heap.size, 2, none⟩ (.int .i64 100)).cell? ⟨w.heap.size, 0, none⟩ = some (.string N) := rf.cell (by omega)
  have y1 : (((w2.setCell ⟨w.heap.size, 0, none⟩ (.string N)).setCell ⟨w.heap.size, 1, none⟩ (.int .i64 a)).setCell ⟨w.heap.size, 2, none⟩ (.int .i64 100)).cell? ⟨w.heap.size, 1, none⟩ = some (.int .i64 a) := rf.cell (by omega)
  have y2 : (((w2.setCell ⟨w.heap.size, 0, none⟩ (.string N)).setCell ⟨w.heap.size, 1, none⟩ (.int .i64 a)).setCell ⟨w.heap.size, 2, none⟩ (.int .i64 100)).cell? ⟨w.heap.size, 2, none⟩ = some (.int .i64 100) := rf.cell (by omega)
  have hle : w.heap.size ≤ w.heap.size := Nat.le_refl _
  exact bodyPost_ret (v := .agg #[.string N, .int .i64 a, .int .i64 100]) (by simp [results, Tryd.results33, go_sem, y0, y1, y2]) rfl ⟨rfl, ((B3.setCell hle _).setCell hle _).setCell hle _⟩
end Go.Proofs.YtobdbjmpoefebaaDoor
