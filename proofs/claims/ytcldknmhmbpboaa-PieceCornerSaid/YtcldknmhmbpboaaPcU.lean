/- Plain facts about a function with a corner, cut off by a constant. -/
import Derived.Test.YtcldknmhmbpboaaPcN
namespace Go.Proofs.Ytcldknmhmbpboaa
open Go.RowKit Go.Sort
set_option linter.unusedVariables false
set_option linter.unusedSimpArgs false
namespace Lf
def s5 : Lf := one 0 5000 0
theorem s5_chk : s5.chk = 0 := by decide +kernel
theorem s5_val {x : Int} (h : 0 ≤ x) : s5.val x = 5000 := by
  show (if (0 : Int) ≤ x then 5000 + (x - 0) * 0 else 0) = 5000
  rw [if_pos h]; omega
theorem cor_val {c r x : Int} (hc : -10000000000 ≤ c ∧ c ≤ 10000000000) (h0 : 0 ≤ x) : (cor c r).val x = max 0 (x - c) * r := by
  unfold cor
  split
  · show (if (0 : Int) ≤ x then (0 - c) * r + (x - 0) * r else 0) = _
    rw [if_pos h0, ← Int.add_mul, show 0 - c + (x - 0) = max 0 (x - c) by omega]
  · rw [if_neg (by omega)]
    show (if c ≤ x then 0 + (x - c) * r else if (0 : Int) ≤ x then 0 + (x - 0) * 0 else 0) = _
    split
    · rw [show max 0 (x - c) = x - c by omega]; omega
    · rw [show max 0 (x - c) = 0 by omega]; omega
theorem cor_R {c r : Int} (hc : -10000000000 ≤ c ∧ c ≤ 10000000000) {x : Int} (h0 : 0 ≤ x) : (cor c r).R ((cor c r).idx x) = if c ≤ x then r else 0 := by
  unfold cor
  split
  · rw [if_pos (by omega)]; rfl
  · rw [if_neg (by omega)]
    by_cases h : c ≤ x
    · rw [if_pos h]
      have e : (two 0 0 0 c 0 r).idx x = 1 := if_pos h
      rw [e]; rfl
    · rw [if_neg h]
      have e : (two 0 0 0 c 0 r).idx x = 0 := (if_neg h).trans (if_pos h0)
      rw [e]; rfl
theorem cor_chk {c r : Int} (hc : -10000000000 ≤ c ∧ c ≤ 10000000000) (hr : 0 ≤ r ∧ r ≤ 10000) : (cor c r).chk = 0 := by
  unfold cor
  split
  · rename_i h
    have p1 := prod_bd (d := 0 - c) (r := r) (by omega) (by omega) (by omega) (by omega)
    have p2 := prod_bd (d := 10000000000) (r := r) (by omega) (by omega) (by omega) (by omega)
    refine chk_no (by show ¬ (1 < 1 ∨ 256 < 1); omega) (fst_of fun i hi => ?_) (fst_of fun i hi => ?_)
    · have hi1 : i < 1 := hi
      obtain rfl : i = 0 := by omega
      exact P_ok (by show ¬ ((0 : Int) < 0 ∨ _ < (0 : Int)); omega) (by rintro ⟨_, h⟩; exact h rfl) (by rintro ⟨h, _⟩; omega) (by show ¬ (r < _ ∨ _ < r); omega)
    · have hi1 : i < 1 := hi
      obtain rfl : i = 0 := by omega
      refine Q_ok (by show ¬ ((0 - c) * r < _ ∨ _ < (0 - c) * r); omega) ?_
      show ¬ ((0 - c) * r + (10000000000 - 0) * r < _ ∨ _ < (0 - c) * r + (10000000000 - 0) * r)
      rw [show (10000000000 : Int) - 0 = 10000000000 from rfl]
      omega
  · rename_i h
    rw [if_neg (by omega)]
    have p2 := prod_bd (d := 10000000000 - c) (r := r) (by omega) (by omega) (by omega) (by omega)
    refine chk_no (by show ¬ (2 < 1 ∨ 256 < 2); omega) (fst_of fun i hi => ?_) (fst_of fun i hi => ?_)
    · have hi1 : i < 2 := hi
      rcases (show i = 0 ∨ i = 1 by omega) with rfl | rfl
      · exact P_ok (by show ¬ ((0 : Int) < 0 ∨ _ < (0 : Int)); omega) (by rintro ⟨_, h⟩; exact h rfl) (by rintro ⟨h, _⟩; omega) (by show ¬ ((0 : Int) < _ ∨ _ < (0 : Int)); omega)
      · exact P_ok (by show ¬ (c < 0 ∨ _ < c); omega) (by rintro ⟨h, _⟩; omega) (by rintro ⟨_, h⟩; have h' : c ≤ 0 := h; omega) (by show ¬ (r < _ ∨ _ < r); omega)
    · have hi1 : i < 2 := hi
      rcases (show i = 0 ∨ i = 1 by omega) with rfl | rfl
      · refine Q_ok (by show ¬ ((0 : Int) < _ ∨ _ < (0 : Int)); omega) ?_
        show ¬ (0 + (_ - 0) * (0 : Int) < _ ∨ _ < 0 + (_ - 0) * (0 : Int))
        rw [Int.mul_zero]; omega
      · refine Q_ok (by show ¬ ((0 : Int) < _ ∨ _ < (0 : Int)); omega) ?_
        show ¬ (0 + (10000000000 - c) * r < _ ∨ _ < 0 + (10000000000 - c) * r)
        omega
theorem cor_n (c r : Int) : (cor c r).n ≤ 2 := by
  unfold cor
  split
  · show 1 ≤ 2; omega
  · split
    · show 1 ≤ 2; omega
    · exact Nat.le_refl 2
/-- no more than three pieces -/
theorem cut_three {c r : Int} {s : Lf} (hc : -10000000000 ≤ c ∧ c ≤ 10000000000) (hr : 0 ≤ r ∧ r ≤ 10000) (H : Rep s 10000000001 (pkH (cor c r) s5 1)) (G : ∀ i, i < s.n → Gs (cor c r) s5 (s.F i) (s.V i) (s.R i)) (hn : s.n ≤ 4) : s.n ≤ 3 := by
  rcases Nat.lt_or_ge 3 s.n with h4 | h4
  · exfalso
    have O := H.ord
    have fb := O.fb
    -- what a piece is: told by its rate
    have K : ∀ i, i < s.n → s.V i ≤ 5000 ∧ ((s.F i < c ∧ s.V i = 0 ∧ s.R i = 0) ∨ (c ≤ s.F i ∧ s.V i = (s.F i - c) * r ∧ s.R i = r) ∨ (s.V i = 5000 ∧ s.R i = 0 ∧ 5000 ≤ max 0 (s.F i - c) * r)) := fun i hi => by
      have f0 := (fb i hi).1
      have v := H.V_is hi
      unfold pkH pick at v
      rw [if_pos rfl, cor_val hc f0, s5_val f0] at v
      refine ⟨by omega, ?_⟩
      rcases G i hi with ⟨a, b⟩ | ⟨a, b⟩
      · rw [cor_val hc f0] at a
        rw [cor_R hc f0] at b
        by_cases h : c ≤ s.F i
        · rw [if_pos h] at b
          exact .inr (.inl ⟨h, by rw [a, show max 0 (s.F i - c) = s.F i - c by omega], b⟩)
        · rw [if_neg h] at b
          refine .inl ⟨by omega, ?_, b⟩
          rw [a, show max 0 (s.F i - c) = 0 by omega, Int.zero_mul]
      · rw [s5_val f0] at a
        have b' : s.R i = 0 := b
        exact .inr (.inr ⟨a, b', by omega⟩)
    have up := O.up
    have mg := H.mg
    -- two lines in a row that are alike
    have no : ∀ i, i + 1 < s.n → s.R (i + 1) = s.R i → s.V (i + 1) = s.V i + (s.F (i + 1) - s.F i) * s.R i → False := fun i hi a b => mg i hi ⟨a, b.symm⟩
    have k0 := K 0 (by omega)
    have k1 := K 1 (by omega)
    have k2 := K 2 (by omega)
    have k3 := K 3 (by omega)
    have u0 := up 0 (by omega)
    have u1 := up 1 (by omega)
    have u2 := up 2 (by omega)
    -- behind one that is all there is none by the rate
    have step : ∀ i, i + 1 < s.n → (s.V i ≤ 5000 ∧ ((s.F i < c ∧ s.V i = 0 ∧ s.R i = 0) ∨ (c ≤ s.F i ∧ s.V i = (s.F i - c) * r ∧ s.R i = r) ∨ (s.V i = 5000 ∧ s.R i = 0 ∧ 5000 ≤ max 0 (s.F i - c) * r))) → (s.V (i + 1) ≤ 5000 ∧ ((s.F (i + 1) < c ∧ s.V (i + 1) = 0 ∧ s.R (i + 1) = 0) ∨ (c ≤ s.F (i + 1) ∧ s.V (i + 1) = (s.F (i + 1) - c) * r ∧ s.R (i + 1) = r) ∨ (s.V (i + 1) = 5000 ∧ s.R (i + 1) = 0 ∧ 5000 ≤ max 0 (s.F (i + 1) - c) * r))) →
        (s.F i < c ∧ ¬ s.F (i + 1) < c) ∨ ((c ≤ s.F i ∧ s.R i = r ∧ s.V i = (s.F i - c) * r) ∧ s.V (i + 1) = 5000 ∧ s.R (i + 1) = 0 ∧ 5000 ≤ max 0 (s.F (i + 1) - c) * r) := fun i hi a b => by
      have u := up i hi
      rcases a.2 with ⟨a1, a2, a3⟩ | ⟨a1, a2, a3⟩ | ⟨a1, a2, a3⟩
      · rcases b.2 with ⟨b1, b2, b3⟩ | ⟨b1, b2, b3⟩ | ⟨b1, b2, b3⟩
        · exact (no i hi (by omega) (by rw [a3, Int.mul_zero]; omega)).elim
        · exact .inl ⟨a1, by omega⟩
        · refine .inl ⟨a1, fun h => ?_⟩
          rw [show max 0 (s.F (i + 1) - c) = 0 by omega] at b3; omega
      · rcases b.2 with ⟨b1, b2, b3⟩ | ⟨b1, b2, b3⟩ | ⟨b1, b2, b3⟩
        · omega
        · exact (no i hi (by omega) (by rw [a3, a2, b2, ← Int.add_mul]; congr 1; omega)).elim
        · exact .inr ⟨⟨a1, a3, a2⟩, b1, b2, b3⟩
      · have hF : c < s.F i := by
          rcases Int.lt_or_le c (s.F i) with h | h
          · exact h
          · rw [show max 0 (s.F i - c) = 0 by omega] at a3; omega
        rcases b.2 with ⟨b1, b2, b3⟩ | ⟨b1, b2, b3⟩ | ⟨b1, b2, b3⟩
        · omega
        · rw [show max 0 (s.F i - c) = s.F i - c by omega] at a3
          have r1 : 1 ≤ r := by
            rcases Int.lt_or_le 0 r with h | h
            · omega
            · have : r = 0 := by omega
              rw [this] at a3; omega
          have e : (s.F (i + 1) - c) * r = (s.F i - c) * r + (s.F (i + 1) - s.F i) * r := by rw [← Int.add_mul]; congr 1; omega
          have p := Int.mul_le_mul_of_nonneg_left r1 (show 0 ≤ s.F (i + 1) - s.F i by omega)
          omega
        · exact (no i hi (by omega) (by rw [a2, Int.mul_zero]; omega)).elim
    have s0 := step 0 (by omega) k0 k1
    have s1 := step 1 (by omega) k1 k2
    have s2 := step 2 (by omega) k2 k3
    simp only [Nat.zero_add, Nat.reduceAdd] at s0 s1 s2 u0 u1 u2
    have r5 : ∀ i, s.V i = 5000 → s.R i = 0 → s.R i = r → s.V i = (s.F i - c) * r → False := fun i a b d e => by
      have : r = 0 := by omega
      rw [this] at e; omega
    rcases s0 with s0 | s0
    · rcases s1 with s1 | s1
      · omega
      · rcases s2 with s2 | s2
        · omega
        · exact r5 2 s1.2.1 s1.2.2.1 s2.1.2.1 s2.1.2.2
    · rcases s1 with s1 | s1
      · omega
      · exact r5 1 s0.2.1 s0.2.2.1 s1.1.2.1 s1.1.2.2
  · exact h4
end Lf
end Go.Proofs.Ytcldknmhmbpboaa
