/- Books of which nothing was taken yet; what a map of numbers has. -/
import Derived.Test.YtgdalejccbhjcaaBkG
import Derived.Maps.Own
import Derived.Maps.OwnOps
import Derived.Maps.Views
namespace Go.Proofs.Ytgdalejccbhjcaa
open Go.RowKit Go.Sort Go.Maps
set_option linter.unusedVariables false
set_option linter.unusedSimpArgs false

def ZerB (f : Nat → Sta) (n : Nat) : Prop := ∀ i, i < n → (f i).tk = 0 ∧ (f i).ar = 0
theorem zerB_add {f f' : Nat → Sta} {n : Nat} {s : Sta} (h : ZerB f n) (h1 : s.tk = 0) (h2 : s.ar = 0) (hm : MovO (n + 1) (exO f n s) f') : ZerB f' (n + 1) := by
  obtain ⟨p, ⟨p1, p2⟩, hf⟩ := hm
  intro i hi
  rw [hf i hi]
  by_cases hpi : p i < n
  · rw [show exO f n s (p i) = f (p i) by simp [exO, hpi]]; exact h _ hpi
  · have : p i = n := by have := p1 i hi; omega
    rw [this, show exO f n s n = s by simp [exO]]
    exact ⟨h1, h2⟩
def AzP (p : Nat) (w : World) (e : Ending) (w' : World) : Prop := ∃ (v : Int) (n : Nat) (f : Nat → Sta), e = .returned (.int .i64 v) ∧ n ≤ 8 ∧ InvB f n ∧ ZerB f n ∧ Bk w' p n f ∧ RelP p w w'
theorem add_zer (p n : Nat) (f : Nat → Sta) (i0 p0 a0 r0 t0 : Int) (w : World) (h : Bk w p n f) (hn : n ≤ 8) (hi : InvB f n) (hz : ZerB f n) :
    Calls Try.prog 6 #[.pointer (some ⟨p, 0, none⟩), .agg #[.int .i64 i0, .int .i64 p0, .int .i64 a0, .int .i64 r0, .int .i64 t0]] w (AzP p w) := by
  by_cases hc : chkO i0 p0 a0 r0 t0 = 0
  · rcases plc_cases f i0 n with hp | ⟨j, _, hp, _⟩
    · by_cases h8 : n = 8
      · exact (add_twice p n f i0 p0 a0 r0 t0 w h hn hc (-1) hp (.inr ⟨by omega, h8⟩) _ rfl).mono fun e w' ⟨he, hb⟩ => ⟨_, n, f, he, hn, hi, hz, h.below hb, RelP.of hb⟩
      · refine (add_book p n f i0 p0 a0 r0 t0 w h (by omega) hc hp).mono ?_
        rintro e w' ⟨f', he, hm, _, hb, hr⟩
        exact ⟨0, n + 1, f', he, by omega, invB_add (s := ⟨i0, p0, a0, r0, t0, 0, 0⟩) hi hc rfl rfl hp hm, zerB_add (s := ⟨i0, p0, a0, r0, t0, 0, 0⟩) hz rfl rfl hm, hb, hr⟩
    · exact (add_twice p n f i0 p0 a0 r0 t0 w h hn hc j hp (.inl (by omega)) _ rfl).mono fun e w' ⟨he, hb⟩ => ⟨_, n, f, he, hn, hi, hz, h.below hb, RelP.of hb⟩
  · exact (add_no p n f i0 p0 a0 r0 t0 w h hn hc).mono fun e w' ⟨he, hb⟩ => ⟨_, n, f, he, hn, hi, hz, h.below hb, RelP.of hb⟩
/-- a map of numbers that the call made -/
def MapZ (W : World) (b c : Nat) (M : Int → Int) : Prop := ∃ D : DataW Unit, W.ownsMap Try.prog 3 (plainElem Try.prog 2) b c D ∧ IsMap D ∧ ∀ x, D.atKey (.int .i64 x) (.lit (.int .i64 0)) = .lit (.int .i64 (M x))
theorem keyedI : Keyed Try.prog 3 := int_keyed Try.underlying3
theorem zeroI (w : World) : (zeroValue 2).run Try.prog w = .ok (.int .i64 0) w := by kernel_rfl
theorem mapZ_new (w : World) : MapZ (w.alloc (.map #[] 0)) w.heap.size 0 (fun _ => 0) := ⟨.map [], World.ownsMap_made _ _ _ _, by simp [IsMap], fun x => by first | rfl | simp [DataW.atKey]⟩
theorem wf64 {x : Int} (h : -9223372036854775808 ≤ x ∧ x ≤ 9223372036854775807) : (Lit.int .i64 x).wf = true := by
  have e1 : IntKind.i64.min = -9223372036854775808 := by decide
  have e2 : IntKind.i64.max = 9223372036854775807 := by decide
  simp only [Lit.wf, e1, e2, Bool.and_eq_true, decide_eq_true_eq]
  omega
theorem MapZ.look {W : World} {b c : Nat} {M : Int → Int} (h : MapZ W b c M) {x : Int} (hx : -9223372036854775808 ≤ x ∧ x ≤ 9223372036854775807) : (Instr.lookup 36 (.map (some b)) (.int .i64 x) false).run Try.prog W = .ok (.int .i64 (M x)) W := by
  obtain ⟨D, h1, _, h3⟩ := h
  obtain ⟨c', hrun, hat, _⟩ := h1.lookup_int keyedI Try.underlying36 Try.underlying2 (zeroI W) (keyOf_int_mk Try.underlying3 (wf64 hx))
  rw [h3 x] at hat
  have : M x = c' := by simpa using hat
  rw [this]; exact hrun
theorem MapZ.put {W : World} {b c : Nat} {M : Int → Int} (h : MapZ W b c M) (hc : c < 1000) {x y : Int} (hx : -9223372036854775808 ≤ x ∧ x ≤ 9223372036854775807) (hy : -9223372036854775808 ≤ y ∧ y ≤ 9223372036854775807) : ∃ W', (Instr.mapUpdate 36 (.map (some b)) (.int .i64 x) (.int .i64 y)).run Try.prog W = .ok () W' ∧ MapZ W' b (c + 1) (fun z => if z = x then y else M z) ∧ W.grownBy W' (some b) := by
  obtain ⟨D, h1, h2, h3⟩ := h
  obtain ⟨W', hrun, how, hg⟩ := h1.update keyedI Try.underlying36 (by unfold maxLen; omega) (keyOf_int_mk Try.underlying3 (wf64 hx)) (plainElem_int Try.underlying2 (wf64 hy))
  refine ⟨W', hrun, ⟨_, how, h2.put _ _, fun z => ?_⟩, hg⟩
  show (D.put (.int .i64 x) (.lit (.int .i64 y))).atKey (.int .i64 z) (.lit (.int .i64 0)) = .lit (.int .i64 (if z = x then y else M z))
  by_cases hz : z = x
  · subst hz
    rw [if_pos rfl]
    exact atKey_put_same h2 (by trivial) _ _
  · rw [if_neg hz, atKey_put_other (by simpa using hz)]
    exact h3 z
theorem MapZ.of_block {W W' : World} {b c : Nat} {M : Int → Int} (h : MapZ W b c M) (e : W'.heap[b]? = W.heap[b]?) : MapZ W' b c M := by
  obtain ⟨D, ⟨es, cl, hb, r⟩, h2⟩ := h
  exact ⟨D, ⟨es, cl, e.trans hb, r⟩, h2⟩
theorem MapZ.lt {W : World} {b c : Nat} {M : Int → Int} (h : MapZ W b c M) : b < W.heap.size := by
  obtain ⟨D, h1, _⟩ := h
  exact h1.lt
theorem MapZ.below {W W' : World} {b c : Nat} {M : Int → Int} (h : MapZ W b c M) (hb : Below W.heap.size W W') : MapZ W' b c M := h.of_block (hb.block _ h.lt)
theorem MapZ.rel {W W' : World} {b c p : Nat} {M : Int → Int} (h : MapZ W b c M) (hr : RelP p W W') (hp : p ≠ b) : MapZ W' b c M := by
  obtain ⟨w1, hb, rfl | ⟨v, rfl⟩⟩ := hr
  · exact h.below hb
  · exact (h.below hb).of_block (Go.Deep.blk_setCell_other _ _ _ _ (by show b ≠ p; omega))
/-- no cell lies in a map -/
theorem MapZ.far {W : World} {b c q k : Nat} {M : Int → Int} {v : Value} (h : MapZ W b c M) (hc : W.cell? ⟨q, k, none⟩ = some v) : q ≠ b := by
  rintro rfl
  obtain ⟨D, ⟨es, cl, hb, _⟩, _⟩ := h
  simp [World.cell?, hb] at hc
theorem cell_grown {W W' : World} {b q k : Nat} {v : Value} (hg : W.grownBy W' (some b)) (hq : q ≠ b) (hc : W.cell? ⟨q, k, none⟩ = some v) : W'.cell? ⟨q, k, none⟩ = some v :=
  (World.cell?_of_block (hg.block q (World.block_lt_of_cell? _ _ hc) (fun e => hq (by simpa using e)))).trans hc
end Go.Proofs.Ytgdalejccbhjcaa
