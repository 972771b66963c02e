/- A row of k cells each, one of them set; contributions whose bands are new (for table.Clone). -/
import Derived.Test.YtobdbjmpoefebaaDoorCloC
namespace Go.Proofs.YtobdbjmpoefebaaDoor
open Go.RowKit Go.Sort
set_option linter.unusedVariables false
theorem flat_len2 {f : Nat → List Value} {k : Nat} (hf : ∀ i, (f i).length = k) : ∀ n, ((List.range n).flatMap f).length = n * k := by
  intro n
  induction n with
  | zero => simp
  | succ n ih => rw [List.range_succ, List.flatMap_append, List.length_append, ih]; simp [hf]; rw [Nat.succ_mul]
theorem flat_set {f : Nat → List Value} {k : Nat} (hf : ∀ i, (f i).length = k) (i j : Nat) (hj : j < k) (u : Value) : ∀ n, i < n → ((List.range n).flatMap f).set (i * k + j) u = (List.range n).flatMap (fun q => if q = i then (f q).set j u else f q) := by
  intro n
  induction n with
  | zero => intro h; omega
  | succ n ih =>
    intro hi
    rw [List.range_succ, List.flatMap_append, List.flatMap_append]
    have hl := flat_len2 hf n
    by_cases e : i < n
    · have h2 : i * k + j < ((List.range n).flatMap f).length := by
        rw [hl]
        have := Nat.mul_le_mul_right k (show i + 1 ≤ n by omega)
        rw [Nat.succ_mul] at this
        omega
      rw [List.set_append_left _ _ h2, ih e]
      simp [show n ≠ i by omega]
    · obtain rfl : i = n := by omega
      rw [List.set_append_right _ _ (by rw [hl]; omega), hl]
      have h3 : (List.range i).flatMap (fun q => if q = i then (f q).set j u else f q) = (List.range i).flatMap f := by
        unfold List.flatMap
        congr 1
        apply List.map_congr_left
        intro q hq
        have : q ≠ i := by have := List.mem_range.1 hq; omega
        simp [this]
      rw [h3]
      simp [show i * k + j - i * k = j by omega]
theorem flat_at {f : Nat → List Value} {k : Nat} (hf : ∀ i, (f i).length = k) (i j : Nat) (hj : j < k) : ∀ n, i < n → ((List.range n).flatMap f)[i * k + j]? = (f i)[j]? := by
  intro n
  induction n with
  | zero => intro h; omega
  | succ n ih =>
    intro hi
    rw [List.range_succ, List.flatMap_append]
    have hl := flat_len2 hf n
    by_cases e : i < n
    · have h2 : i * k + j < ((List.range n).flatMap f).length := by
        rw [hl]
        have := Nat.mul_le_mul_right k (show i + 1 ≤ n by omega)
        rw [Nat.succ_mul] at this
        omega
      rw [List.getElem?_append_left h2, ih e]
    · obtain rfl : i = n := by omega
      rw [List.getElem?_append_right (by rw [hl]; omega), hl, show i * k + j - i * k = j by omega]
      simp
theorem set_same {l : List Value} {q : Nat} {v : Value} (h : l[q]? = some v) : l.set q v = l := by
  apply List.ext_getElem?
  intro j
  rw [List.getElem?_set]
  by_cases e : q = j
  · subst e
    rw [if_pos rfl, h]
    simp [(List.getElem?_eq_some_iff.1 h).1]
  · rw [if_neg e]
/-- the first i contributions have bands of the call's own, younger than the row; the others are as they were -/
def cw (C : Nat → CB) (nu : Nat → Value) (i q : Nat) : List Value := [.string (C q).N, .int .i64 (C q).B, if q < i then nu q else .slice (C q).b.A (C q).b.n (C q).b.c, .int .i64 (C q).P, .int .i64 (C q).Y, .int .i64 (C q).W]
theorem cw_len (C : Nat → CB) (nu : Nat → Value) (i q : Nat) : (cw C nu i q).length = 6 := rfl
def ConC (W : World) (B g c n : Nat) (C : Nat → CB) (i : Nat) : Prop :=
  ∃ nu : Nat → Value, W.ownsRow B 80 6 (.slice (some ⟨g, 0, none⟩) n c) n ((List.range n).flatMap (cw C nu i)) ∧ ∀ q, q < i → Nw W (g + 1) (C q).b (nu q)
theorem ConC.below {W W' : World} {B g c n i : Nat} {C : Nat → CB} (h : ConC W B g c n C i) (hb : Below W.heap.size W W') : ConC W' B g c n C i := by
  obtain ⟨nu, h1, h2⟩ := h
  exact ⟨nu, own_below h1 hb, fun q hq => own_below (h2 q hq) hb⟩
theorem ConC.frozen {W : World} {B g c n i : Nat} {C : Nat → CB} (h : ConC W B g c n C i) (q : Nat) : B ≤ g ∧ g < W.heap.size ∧ W.frozen? ⟨g, q, none⟩ = false := by
  obtain ⟨nu, h1, h2⟩ := h
  exact own_frozen h1 q
theorem ConC.cells {W : World} {B g c n i : Nat} {C : Nat → CB} (h : ConC W B g c n C i) (hi : i < n) : ∀ j, j < 6 → W.cell? ⟨g, i * 6 + j, none⟩ = (cw C (fun _ => undef) 0 i)[j]? := by
  intro j hj
  obtain ⟨nu, h1, h2⟩ := h
  have hx : ((List.range n).flatMap (cw C nu i))[i * 6 + j]? = some ((cw C (fun _ => undef) 0 i)[j]'(by rw [cw_len]; exact hj)) := by
    rw [flat_at (cw_len C nu i) i j hj n hi]
    have e : cw C nu i i = cw C (fun _ => undef) 0 i := by unfold cw; simp
    rw [e]
    exact List.getElem?_eq_getElem _
  rw [own_cell h1 hx]
  exact (List.getElem?_eq_getElem _).symm
theorem ConC.set {W : World} {B g c n i : Nat} {C : Nat → CB} (h : ConC W B g c n C i) (hi : i < n) {u : Value} (hu : Nw W (g + 1) (C i).b u) :
    ConC ((((((W.setCell ⟨g, i * 6, none⟩ (.string (C i).N)).setCell ⟨g, i * 6 + 1, none⟩ (.int .i64 (C i).B)).setCell ⟨g, i * 6 + 2, none⟩ u).setCell ⟨g, i * 6 + 3, none⟩ (.int .i64 (C i).P)).setCell ⟨g, i * 6 + 4, none⟩ (.int .i64 (C i).Y)).setCell ⟨g, i * 6 + 5, none⟩ (.int .i64 (C i).W)) B g c n C (i + 1) := by
  obtain ⟨nu, h1, h2⟩ := h
  have h3 := own_set (own_set (own_set (own_set (own_set (own_set h1 (i * 6) (.string (C i).N)) (i * 6 + 1) (.int .i64 (C i).B)) (i * 6 + 2) u) (i * 6 + 3) (.int .i64 (C i).P)) (i * 6 + 4) (.int .i64 (C i).Y)) (i * 6 + 5) (.int .i64 (C i).W)
  have s0 := set_same (flat_at (cw_len C nu i) i 0 (by omega) n hi)
  have s1 := set_same (flat_at (cw_len C nu i) i 1 (by omega) n hi)
  have e2 : ((List.range n).flatMap (cw C nu i)).set (i * 6 + 2) u = (List.range n).flatMap (cw C (fun q => if q = i then u else nu q) (i + 1)) := by
    rw [flat_set (cw_len C nu i) i 2 (by omega) u n hi]
    unfold List.flatMap
    congr 1
    apply List.map_congr_left
    intro q _
    unfold cw
    by_cases e : q = i
    · subst e; simp
    · by_cases e3 : q < i
      · simp [e, e3, show q < i + 1 by omega]
      · simp [e, e3, show ¬ q < i + 1 by omega]
  have s3 := set_same (flat_at (cw_len C (fun q => if q = i then u else nu q) (i + 1)) i 3 (by omega) n hi)
  have s4 := set_same (flat_at (cw_len C (fun q => if q = i then u else nu q) (i + 1)) i 4 (by omega) n hi)
  have s5 := set_same (flat_at (cw_len C (fun q => if q = i then u else nu q) (i + 1)) i 5 (by omega) n hi)
  rw [Nat.add_zero] at s0
  rw [s0, s1, e2, s3, s4, s5] at h3
  refine ⟨_, h3, fun q hq => ?_⟩
  have k : ∀ {V : World} {z : Value} {b : SB}, Nw V (g + 1) b z → ∀ r x, Nw (V.setCell ⟨g, r, none⟩ x) (g + 1) b z := fun hV r x => own_other hV (by omega) r x
  refine k (k (k (k (k (k ?_ _ _) _ _) _ _) _ _) _ _) _ _
  by_cases e1 : q = i
  · subst e1
    simpa using hu
  · simp only [if_neg e1]
    exact h2 q (by omega)
end Go.Proofs.YtobdbjmpoefebaaDoor
