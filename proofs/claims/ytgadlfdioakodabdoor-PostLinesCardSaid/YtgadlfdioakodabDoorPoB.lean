/- A map of accounts, told as a function of all names: what stands on each, and which are there. -/
import Derived.Test.YtgadlfdioakodabDoorPoA
import Derived.Maps.Own
import Derived.Maps.OwnOps
import Derived.Maps.OwnSet
import Derived.Maps.Views
import Derived.StringKeys
namespace Go.Proofs.YtgadlfdioakodabDoor
open Go.RowKit Go.Sort Go.Maps
set_option linter.unusedVariables false
set_option linter.unusedSimpArgs false

def MapA (W : World) (b c : Nat) (M : List UInt8 → Int) (P : List UInt8 → Bool) : Prop := ∃ D : DataW Unit, W.ownsMap Tryd.prog 9 (plainElem Tryd.prog 2) b c D ∧ IsMap D ∧ (∀ l, D.atKey (.string l) (.lit (.int .i64 0)) = .lit (.int .i64 (M l))) ∧ ∀ l, has D (.string l) = P l
theorem keyedS : Keyed Tryd.prog 9 := string_keyed Tryd.underlying9
theorem zeroI (w : World) : (zeroValue 2).run Tryd.prog w = .ok (.int .i64 0) w := by kernel_rfl
theorem mapA_new (w : World) : MapA (w.alloc (.map #[] 0)) w.heap.size 0 (fun _ => 0) (fun _ => false) := ⟨.map [], World.ownsMap_made _ _ _ _, by simp [IsMap], fun x => by first | rfl | simp [DataW.atKey], fun x => by first | rfl | simp [has]⟩
theorem wf64 {x : Int} (h : -9223372036854775808 ≤ x ∧ x ≤ 9223372036854775807) : (Lit.int .i64 x).wf = true := by
  have e1 : IntKind.i64.min = -9223372036854775808 := by decide
  have e2 : IntKind.i64.max = 9223372036854775807 := by decide
  simp only [Lit.wf, e1, e2, Bool.and_eq_true, decide_eq_true_eq]
  omega
theorem MapA.look {W : World} {b c : Nat} {M : List UInt8 → Int} {P : List UInt8 → Bool} (h : MapA W b c M P) {s : ByteArray} (hs : s.size ≤ maxLen) : (Instr.lookup 37 (.map (some b)) (.string s) false).run Tryd.prog W = .ok (.int .i64 (M s.data.toList)) W := by
  obtain ⟨D, h1, _, h3, _⟩ := h
  obtain ⟨c', hrun, hat, _⟩ := h1.lookup_int keyedS Tryd.underlying37 Tryd.underlying2 (zeroI W) (Go.WideMaps.keyOf_string_mk Tryd.underlying9 hs)
  rw [h3] at hat
  have : M s.data.toList = c' := by simpa using hat
  rw [this]; exact hrun
theorem MapA.put {W : World} {b c : Nat} {M : List UInt8 → Int} {P : List UInt8 → Bool} (h : MapA W b c M P) (hc : c < 1000000) {s : ByteArray} {y : Int} (hs : s.size ≤ maxLen) (hy : -9223372036854775808 ≤ y ∧ y ≤ 9223372036854775807) : ∃ W', (Instr.mapUpdate 37 (.map (some b)) (.string s) (.int .i64 y)).run Tryd.prog W = .ok () W' ∧ MapA W' b (c + 1) (fun z => if z = s.data.toList then y else M z) (fun z => decide (z = s.data.toList) || P z) ∧ W.grownBy W' (some b) := by
  obtain ⟨D, h1, h2, h3, h4⟩ := h
  obtain ⟨W', hrun, how, hg⟩ := h1.update keyedS Tryd.underlying37 (by unfold maxLen; omega) (Go.WideMaps.keyOf_string_mk Tryd.underlying9 hs) (plainElem_int Tryd.underlying2 (wf64 hy))
  refine ⟨W', hrun, ⟨_, how, h2.put _ _, fun z => ?_, fun z => ?_⟩, hg⟩
  · show (D.put (.string s.data.toList) (.lit (.int .i64 y))).atKey (.string z) (.lit (.int .i64 0)) = .lit (.int .i64 (if z = s.data.toList then y else M z))
    by_cases hz : z = s.data.toList
    · subst hz
      rw [if_pos rfl]
      exact atKey_put_same h2 (by trivial) _ _
    · rw [if_neg hz, atKey_put_other (by simpa using hz)]
      exact h3 z
  · show has (D.put (.string s.data.toList) (.lit (.int .i64 y))) (.string z) = (decide (z = s.data.toList) || P z)
    by_cases hz : z = s.data.toList
    · subst hz
      rw [decide_eq_true rfl, Bool.true_or]
      exact has_put_same h2 (by trivial) _
    · rw [decide_eq_false hz, Bool.false_or, has_put_other (by simpa using hz)]
      exact h4 z
theorem MapA.look_ok {W : World} {b c : Nat} {M : List UInt8 → Int} {P : List UInt8 → Bool} (h : MapA W b c M P) {s : ByteArray} (hs : s.size ≤ maxLen) : (Instr.lookup 37 (.map (some b)) (.string s) true).run Tryd.prog W = .ok (.tuple #[.int .i64 (M s.data.toList), .bool (P s.data.toList)]) W := by
  obtain ⟨D, h1, _, h3, h4⟩ := h
  obtain ⟨v, ps, hrun, hv⟩ := h1.look_ok keyedS Tryd.underlying37 (zeroI W) (plainElem_int (H := Unit) Tryd.underlying2 (wf64 (x := 0) (by omega))) (Go.WideMaps.keyOf_string_mk Tryd.underlying9 hs)
  obtain ⟨a, rfl, e, _⟩ := plainElem_int_inv Tryd.underlying2 hv
  have e2 : D.atKey (.string s.data.toList) (.lit (.int .i64 0)) = .lit (.int .i64 a) := (Prod.mk.inj e).1
  rw [h3] at e2
  have e3 : M s.data.toList = a := by simpa using e2
  rw [h4] at hrun
  rw [e3]
  exact hrun
theorem MapA.del {W : World} {b c : Nat} {M : List UInt8 → Int} {P : List UInt8 → Bool} (h : MapA W b c M P) {s : ByteArray} (hs : s.size ≤ maxLen) (ty : TypeId) : ∃ W', (Builtin.delete_ #[37, 9] ty #[.map (some b), .string s]).run Tryd.prog W = .ok (.tuple #[]) W' ∧ MapA W' b c (fun z => if z = s.data.toList then 0 else M z) (fun z => !decide (z = s.data.toList) && P z) ∧ W.grownBy W' (some b) := by
  obtain ⟨D, h1, h2, h3, h4⟩ := h
  obtain ⟨W', hrun, how, ht⟩ := h1.drop keyedS Tryd.underlying37 (Go.WideMaps.keyOf_string_mk Tryd.underlying9 hs) ty
  refine ⟨W', hrun, ⟨_, how, h2.del _, fun z => ?_, fun z => ?_⟩, ht.grown⟩
  · dsimp only
    by_cases hz : z = s.data.toList
    · subst hz
      rw [if_pos rfl]
      exact atKey_del_same _
    · rw [if_neg hz, atKey_del_other (by simpa using hz)]
      exact h3 z
  · dsimp only
    by_cases hz : z = s.data.toList
    · subst hz
      rw [decide_eq_true rfl, Bool.not_true, Bool.false_and]
      exact has_del_same
    · rw [decide_eq_false hz, Bool.not_false, Bool.true_and, has_del_other (by simpa using hz)]
      exact h4 z
theorem MapA.of_block {W W' : World} {b c : Nat} {M : List UInt8 → Int} {P : List UInt8 → Bool} (h : MapA W b c M P) (e : W'.heap[b]? = W.heap[b]?) : MapA W' b c M P := by
  obtain ⟨D, ⟨es, cl, hb, r⟩, h2⟩ := h
  exact ⟨D, ⟨es, cl, e.trans hb, r⟩, h2⟩
theorem MapA.lt {W : World} {b c : Nat} {M : List UInt8 → Int} {P : List UInt8 → Bool} (h : MapA W b c M P) : b < W.heap.size := by
  obtain ⟨D, h1, _⟩ := h
  exact h1.lt
theorem MapA.below {W W' : World} {b c : Nat} {M : List UInt8 → Int} {P : List UInt8 → Bool} (h : MapA W b c M P) (hb : Below W.heap.size W W') : MapA W' b c M P := h.of_block (hb.block _ h.lt)
/-- no cell lies in a map -/
theorem MapA.far {W : World} {b c q k : Nat} {M : List UInt8 → Int} {P : List UInt8 → Bool} {v : Value} (h : MapA W b c M P) (hc : W.cell? ⟨q, k, none⟩ = some v) : q ≠ b := by
  rintro rfl
  obtain ⟨D, ⟨es, cl, hb, _⟩, _⟩ := h
  simp [World.cell?, hb] at hc
/-- a book in memory: its accounts' map, and how many entries were booked -/
def BkA (W : World) (p b c : Nat) (k : Int) (M : List UInt8 → Int) (P : List UInt8 → Bool) : Prop := Bx W p 62 [.map (some b), .int .i64 k] ∧ MapA W b c M P
theorem BkA.below {W W' : World} {p b c : Nat} {k : Int} {M : List UInt8 → Int} {P : List UInt8 → Bool} (h : BkA W p b c k M P) (hb : Below W.heap.size W W') : BkA W' p b c k M P := ⟨h.1.below hb, h.2.below hb⟩
theorem pnew_any (w : World) : Calls Tryd.prog 11 #[] w fun e w' => ∃ p b, e = .returned (.pointer (some ⟨p, 0, none⟩)) ∧ BkA w' p b 0 0 (fun _ => 0) (fun _ => false) ∧ w.heap.size ≤ b ∧ w.heap.size ≤ p ∧ Below w.heap.size w w' := by
  have hmm := @run_makeMap Tryd.prog
  have m0 := mapA_new w
  have N1 : Below w.heap.size w (w.alloc (.map #[] 0)) := (Below.refl _ _).alloc (Nat.le_refl _) _
  have N2 := below_new (w.alloc (.map #[] 0)) (.cells #[.map (some w.heap.size), .int .i64 0] 62)
  have K : Bx ((w.alloc (.map #[] 0)).alloc (.cells #[.map (some w.heap.size), .int .i64 0] 62)) (w.heap.size + 1) 62 [.map (some w.heap.size), .int .i64 0] := bx_at (w.alloc (.map #[] 0)) [.map (some w.heap.size), .int .i64 0] 62 (by simp)
  have m1 := m0.below N2
  have B := below_step N1 N2 N1.size
  have hsz := N1.size
  clear m0 N1 N2
  go_enter Tryd.func11, Tryd.ntmps11
  go_wp2
  go_ret
  exact ⟨_, _, rfl, ⟨K, m1⟩, Nat.le_refl _, by omega, B⟩
theorem on_any {W : World} {p b c : Nat} {k : Int} {M : List UInt8 → Int} {P : List UInt8 → Bool} (h : BkA W p b c k M P) (s : ByteArray) (hs : s.size ≤ maxLen) :
    Calls Tryd.prog 16 #[.pointer (some ⟨p, 0, none⟩), .string s] W fun e w' => e = .returned (.int .i64 (M s.data.toList)) ∧ W = w' := by
  have hl := h.2.look hs
  have c0 := h.1.cell (i := 0) rfl
  generalize M s.data.toList = y at *
  clear h hs
  go_enter Tryd.func16, Tryd.ntmps16
  go_wp2
  go_ret
  exact ⟨rfl, rfl⟩
theorem entries_any {W : World} {p b c : Nat} {k : Int} {M : List UInt8 → Int} {P : List UInt8 → Bool} (h : BkA W p b c k M P) :
    Calls Tryd.prog 14 #[.pointer (some ⟨p, 0, none⟩)] W fun e w' => e = .returned (.int .i64 k) ∧ W = w' := by
  have c1 := h.1.cell (i := 1) rfl
  clear h
  go_enter Tryd.func14, Tryd.ntmps14
  go_wp2
  go_ret
  exact ⟨rfl, rfl⟩
end Go.Proofs.YtgadlfdioakodabDoor
