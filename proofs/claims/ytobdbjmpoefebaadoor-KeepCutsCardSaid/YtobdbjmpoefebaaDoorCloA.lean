/- A row of the call's own by its cells; what ownKind answers. -/
import Derived.Test.YtobdbjmpoefebaaDoorClo
import Derived.Test.YtobdbjmpoefebaaDoorShelf
namespace Go.Proofs.YtobdbjmpoefebaaDoor
open Go.RowKit
set_option linter.unusedVariables false
set_option linter.unusedSimpArgs false

/-- a block whose first m cells are told -/
def RowF (W : World) (g : Nat) (e : TypeId) (m : Nat) (h : Nat → Value) : Prop := ∃ cur : Array Value, W.heap[g]? = some (.cells cur e (0, 0)) ∧ m ≤ cur.size ∧ ∀ q, q < m → cur[q]? = some (h q)
namespace RowF
variable {W W' : World} {g m : Nat} {e : TypeId} {h h' : Nat → Value}
theorem lt (r : RowF W g e m h) : g < W.heap.size := by
  obtain ⟨cur, hb, _⟩ := r
  exact (Array.getElem?_eq_some_iff.1 hb).1
theorem cell (r : RowF W g e m h) {q : Nat} (hq : q < m) : W.cell? ⟨g, q, none⟩ = some (h q) := by
  obtain ⟨cur, hb, _, hc⟩ := r
  simp [World.cell?, hb, hc q hq]
theorem frozen (r : RowF W g e m h) (q : Nat) : W.frozen? ⟨g, q, none⟩ = false := by
  obtain ⟨cur, hb, _⟩ := r
  simp [World.frozen?, hb]
theorem of_block (r : RowF W g e m h) (hb : W'.heap[g]? = W.heap[g]?) : RowF W' g e m h := by
  obtain ⟨cur, h1, h2⟩ := r
  exact ⟨cur, hb.trans h1, h2⟩
theorem below (r : RowF W g e m h) (hb : Below W.heap.size W W') : RowF W' g e m h := r.of_block (hb.block _ r.lt)
theorem congr (r : RowF W g e m h) (hh : ∀ q, q < m → h q = h' q) : RowF W g e m h' := by
  obtain ⟨cur, h1, h2, h3⟩ := r
  exact ⟨cur, h1, h2, fun q hq => (h3 q hq).trans (by rw [hh q hq])⟩
theorem set (r : RowF W g e m h) (q : Nat) (v : Value) : RowF (W.setCell ⟨g, q, none⟩ v) g e m (fun j => if j = q then v else h j) := by
  obtain ⟨c, hb, hn, hc⟩ := r
  refine ⟨c.setIfInBounds q v, ?_, by simpa using hn, fun j hj => ?_⟩
  · simp [World.setCell, Array.getElem?_modify, hb]
  · rw [Array.getElem?_setIfInBounds]
    by_cases ej : j = q
    · subst ej
      have : j < c.size := by omega
      simp [this]
    · rw [if_neg (fun x => ej x.symm)]
      show c[j]? = some (if j = q then v else h j)
      rw [if_neg ej]
      exact hc j hj
theorem other (r : RowF W g e m h) {a : Addr} (ha : g ≠ a.block) (v : Value) : RowF (W.setCell a v) g e m h := r.of_block (Go.Deep.blk_setCell_other _ _ _ _ ha)
end RowF
/-- an own row of at least one element, by its cells -/
theorem rowF_of {w : World} {B : Nat} {e : TypeId} {k n : Nat} {v : Value} {xs : List Value} (h : w.ownsRow B e k v (n + 1) xs) : ∃ g cap, v = .slice (some ⟨g, 0, none⟩) (n + 1) cap ∧ B ≤ g ∧ RowF w g e ((n + 1) * k) (fun q => xs.getD q undef) := by
  obtain ⟨hl, ⟨_, h0⟩ | ⟨g, cap, cur, hv, hg, hh, hnc, _, hcs, ht⟩⟩ := h
  · omega
  · refine ⟨g, cap, hv, hg, cur, hh, by rw [hcs]; exact Nat.mul_le_mul_right k hnc, fun q hq => ?_⟩
    have hq2 : q < cur.size := by rw [hcs]; exact Nat.lt_of_lt_of_le hq (Nat.mul_le_mul_right k hnc)
    have e1 : cur.toList[q]? = xs[q]? := by rw [← ht, List.getElem?_take, if_pos hq]
    have e2 : cur[q]? = xs[q]? := by simpa using e1
    rw [e2, List.getElem?_eq_getElem (by omega)]
    simp [List.getD, List.getElem?_eq_getElem (show q < xs.length by omega)]
theorem strclone_any (s : ByteArray) (w : World) (hs : s.size ≤ 281474976710656) : Calls Tryd.prog 48 #[.string s] w fun e w' => e = .returned (.string s) ∧ Below w.heap.size w w' := by
  have c := fun w => Tryd.stringslite_Clone s w hs
  go_enter Tryd.func48, Tryd.ntmps48
  go_wp2_with (fail)
  refine (c _).mono ?_
  rintro e w' ⟨rfl, h⟩
  go_wp2
  go_ret
  exact ⟨rfl, h⟩
def quad (a b c d : Value) : Nat → Value
  | 0 => a | 1 => b | 2 => c | _ => d
theorem quad_new (W : World) (a b c d : Value) (t : TypeId) : RowF (W.alloc (.cells #[a, b, c, d] t)) W.heap.size t 4 (quad a b c d) := by
  refine ⟨#[a, b, c, d], by show (W.heap.push _)[W.heap.size]? = _; simp, by simp, fun q hq => ?_⟩
  rcases (show q = 0 ∨ q = 1 ∨ q = 2 ∨ q = 3 by omega) with rfl | rfl | rfl | rfl <;> rfl
set_option maxHeartbeats 1000000 in
theorem ownkind_any (N : ByteArray) (c t s : Int) (w : World) (hs : N.size ≤ 281474976710656) : Calls Tryd.prog 50 #[.agg #[.string N, .int .i64 c, .int .i64 t, .int .i64 s]] w fun e w' => e = .returned (.agg #[.string N, .int .i64 c, .int .i64 t, .int .i64 s]) ∧ Below w.heap.size w w' := by
  have cl := fun w => strclone_any N w hs
  have r1 := quad_new w (.string N) (.int .i64 c) (.int .i64 t) (.int .i64 s) 53
  have hN1 := below_new w (.cells #[.string N, .int .i64 c, .int .i64 t, .int .i64 s] 53)
  have hsz : (w.alloc (.cells #[.string N, .int .i64 c, .int .i64 t, .int .i64 s] 53)).heap.size = w.heap.size + 1 := by simp
  have r2 := quad_new (w.alloc (.cells #[.string N, .int .i64 c, .int .i64 t, .int .i64 s] 53)) (.string ⟨#[]⟩) (.int .i64 0) (.int .i64 0) (.int .i64 0) 53
  have hN2 := below_new (w.alloc (.cells #[.string N, .int .i64 c, .int .i64 t, .int .i64 s] 53)) (.cells #[.string ⟨#[]⟩, .int .i64 0, .int .i64 0, .int .i64 0] 53)
  have r1 := r1.below hN2
  have B2 := below_step hN1 hN2 hN1.size
  rw [hsz] at r2
  clear hN1 hN2
  go_enter Tryd.func50, Tryd.ntmps50
  go_wp2_with (fail)
  generalize (w.alloc (.cells #[.string N, .int .i64 c, .int .i64 t, .int .i64 s] 53)).alloc (.cells #[.string ⟨#[]⟩, .int .i64 0, .int .i64 0, .int .i64 0] 53) = w1 at *
  refine (cl _).mono ?_
  rintro e w2 ⟨rfl, hb⟩
  have B3 := below_step B2 hb B2.size
  have r3 := r1.below hb
  have r4 := r2.below hb
  have f0 := r3.frozen
  have d0 : w2.cell? ⟨w.heap.size, 0, none⟩ = some (.string N) := r3.cell (by omega)
  have r5 := r3.set 0 (.string N)
  have r6 := r4.other (a := ⟨w.heap.size, 0, none⟩) (by show w.heap.size + 1 ≠ w.heap.size; omega) (.string N)
  have B4 := B3.setCell (p := ⟨w.heap.size, 0, none⟩) (Nat.le_refl _) (.string N)
  have x0 : (w2.setCell ⟨w.heap.size, 0, none⟩ (.string N)).cell? ⟨w.heap.size, 0, none⟩ = some (.string N) := r5.cell (by omega)
  have x1 : (w2.setCell ⟨w.heap.size, 0, none⟩ (.string N)).cell? ⟨w.heap.size, 1, none⟩ = some (.int .i64 c) := r5.cell (by omega)
  have x2 : (w2.setCell ⟨w.heap.size, 0, none⟩ (.string N)).cell? ⟨w.heap.size, 2, none⟩ = some (.int .i64 t) := r5.cell (by omega)
  have x3 : (w2.setCell ⟨w.heap.size, 0, none⟩ (.string N)).cell? ⟨w.heap.size, 3, none⟩ = some (.int .i64 s) := r5.cell (by omega)
  have g0 := r6.frozen
  have v0 : (w2.setCell ⟨w.heap.size, 0, none⟩ (.string N)).cell? ⟨w.heap.size + 1, 0, none⟩ = some (.string ⟨#[]⟩) := r6.cell (by omega)
  have v1 : (w2.setCell ⟨w.heap.size, 0, none⟩ (.string N)).cell? ⟨w.heap.size + 1, 1, none⟩ = some (.int .i64 0) := r6.cell (by omega)
  have v2 : (w2.setCell ⟨w.heap.size, 0, none⟩ (.string N)).cell? ⟨w.heap.size + 1, 2, none⟩ = some (.int .i64 0) := r6.cell (by omega)
  have v3 : (w2.setCell ⟨w.heap.size, 0, none⟩ (.string N)).cell? ⟨w.heap.size + 1, 3, none⟩ = some (.int .i64 0) := r6.cell (by omega)
  go_wp2
  generalize w2.setCell ⟨w.heap.size, 0, none⟩ (.string N) = w3 at *
  have rf := (((r6.set 0 (.string N)).set 1 (.int .i64 c)).set 2 (.int .i64 t)).set 3 (.int .i64 s)
  have y0 : ((((w3.setCell ⟨w.heap.size + 1, 0, none⟩ (.string N)).setCell ⟨w.heap.size + 1, 1, none⟩ (.int .i64 c)).setCell ⟨w.heap.size + 1, 2, none⟩ (.int .i64 t)).setCell ⟨w.heap.size + 1, 3, none⟩ (.int .i64 s)).cell? ⟨w.heap.size + 1, 0, none⟩ = some (.string N) := rf.cell (by omega)
  have y1 : ((((w3.setCell ⟨w.heap.size + 1, 0, none⟩ (.string N)).setCell ⟨w.heap.size + 1, 1, none⟩ (.int .i64 c)).setCell ⟨w.heap.size + 1, 2, none⟩ (.int .i64 t)).setCell ⟨w.heap.size + 1, 3, none⟩ (.int .i64 s)).cell? ⟨w.heap.size + 1, 1, none⟩ = some (.int .i64 c) := rf.cell (by omega)
  have y2 : ((((w3.setCell ⟨w.heap.size + 1, 0, none⟩ (.string N)).setCell ⟨w.heap.size + 1, 1, none⟩ (.int .i64 c)).setCell ⟨w.heap.size + 1, 2, none⟩ (.int .i64 t)).setCell ⟨w.heap.size + 1, 3, none⟩ (.int .i64 s)).cell? ⟨w.heap.size + 1, 2, none⟩ = some (.int .i64 t) := rf.cell (by omega)
  have y3 : ((((w3.setCell ⟨w.heap.size + 1, 0, none⟩ (.string N)).setCell ⟨w.heap.size + 1, 1, none⟩ (.int .i64 c)).setCell ⟨w.heap.size + 1, 2, none⟩ (.int .i64 t)).setCell ⟨w.heap.size + 1, 3, none⟩ (.int .i64 s)).cell? ⟨w.heap.size + 1, 3, none⟩ = some (.int .i64 s) := rf.cell (by omega)
  have hle : w.heap.size ≤ w.heap.size + 1 := by omega
  exact bodyPost_ret (v := .agg #[.string N, .int .i64 c, .int .i64 t, .int .i64 s]) (by simp [results, Tryd.results50, go_sem, y0, y1, y2, y3]) rfl ⟨rfl, (((B4.setCell hle _).setCell hle _).setCell hle _).setCell hle _⟩
end Go.Proofs.YtobdbjmpoefebaaDoor
