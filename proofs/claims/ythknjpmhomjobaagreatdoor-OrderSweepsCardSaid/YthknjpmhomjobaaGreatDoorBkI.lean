/- Orders put in and cancelled: what stands in the book is what was put in, in another order. Plain facts alone. -/
import Derived.Test.YthknjpmhomjobaaGreatDoorBkD
namespace Go.Proofs.YthknjpmhomjobaaGreatDoor
open Go.RowKit Go.Sort
set_option linter.unusedVariables false
set_option linter.unusedSimpArgs false

/-- without the i-th -/
def dlO (f : Nat → Sta) (i j : Nat) : Sta := if j < i then f j else f (j + 1)
theorem leO_trans {a b c : Sta} (h : leO a b) (h' : leO b c) : leO a c := by
  unfold leO at *
  omega
theorem srO_del {f : Nat → Sta} {n i : Nat} (h : SrO f (n + 1)) (hi : i < n + 1) : SrO (dlO f i) n := by
  intro k hk
  unfold dlO
  by_cases h1 : k + 1 < i
  · rw [if_pos (by omega), if_pos h1]; exact h k (by omega)
  · by_cases h2 : k < i
    · rw [if_pos h2, if_neg h1]
      exact leO_trans (h k (by omega)) (h (k + 1) (by omega))
    · rw [if_neg h2, if_neg (by omega)]; exact h (k + 1) (by omega)
theorem movO_ids {n : Nat} {h f : Nat → Sta} (hm : MovO n h f) (hd : ∀ i k, i < n → k < n → (h i).id = (h k).id → i = k) : ∀ i k, i < n → k < n → (f i).id = (f k).id → i = k := by
  obtain ⟨q, ⟨q1, q2⟩, hq⟩ := hm
  intro i k hi hk e
  rw [hq i hi, hq k hk] at e
  exact q2 i k hi hk (hd _ _ (q1 i hi) (q1 k hk) e)
theorem mov_add {n : Nat} {h f f' : Nat → Sta} {s : Sta} (hm : MovO n h f) (ha : MovO (n + 1) (exO f n s) f') : MovO (n + 1) (exO h n s) f' := by
  obtain ⟨q, ⟨q1, q2⟩, hq⟩ := hm
  obtain ⟨p, ⟨p1, p2⟩, hp⟩ := ha
  refine ⟨fun i => if p i < n then q (p i) else n, ⟨fun k hk => ?_, fun k l hk hl e => ?_⟩, fun i hi => ?_⟩
  · show (if p k < n then q (p k) else n) < n + 1
    split
    · have := q1 (p k) ‹_›; omega
    · omega
  · have e' : (if p k < n then q (p k) else n) = (if p l < n then q (p l) else n) := e
    have a := p1 k hk
    have b := p1 l hl
    refine p2 k l hk hl ?_
    by_cases x : p k < n <;> by_cases y : p l < n
    · rw [if_pos x, if_pos y] at e'; exact q2 _ _ x y e'
    · rw [if_pos x, if_neg y] at e'; have := q1 _ x; omega
    · rw [if_neg x, if_pos y] at e'; have := q1 _ y; omega
    · omega
  · rw [hp i hi]
    by_cases x : p i < n
    · have := q1 _ x
      rw [show exO f n s (p i) = f (p i) by simp [exO, x], hq _ x]
      simp [exO, x, this]
    · rw [show exO f n s (p i) = s by simp [exO, x]]
      simp [exO, x]
def skp (i j : Nat) : Nat := if j < i then j else j + 1
theorem skp_bd {n i j : Nat} (h : j < n) : skp i j < n + 1 ∧ skp i j ≠ i := by
  unfold skp
  split <;> omega
theorem skp_inj {i k l : Nat} (h : skp i k = skp i l) : k = l := by
  unfold skp at h
  split at h <;> split at h <;> omega
theorem mov_del {n a i0 : Nat} {h f : Nat → Sta} (hm : MovO (n + 1) h f) (hd : ∀ i k, i < n + 1 → k < n + 1 → (h i).id = (h k).id → i = k) (hi : i0 < n + 1) (ha : a < n + 1) (he : (f i0).id = (h a).id) : MovO n (dlO h a) (dlO f i0) := by
  obtain ⟨q, ⟨q1, q2⟩, hq⟩ := hm
  have hqa : q i0 = a := by
    rw [hq i0 hi] at he
    exact hd _ _ (q1 i0 hi) ha he
  have hne : ∀ j, j < n + 1 → j ≠ i0 → q j ≠ a := fun j hj hne e => hne (q2 j i0 hj hi (by rw [e, hqa]))
  refine ⟨fun j => if q (skp i0 j) < a then q (skp i0 j) else q (skp i0 j) - 1, ⟨fun k hk => ?_, fun k l hk hl e => ?_⟩, fun j hj => ?_⟩
  · show (if q (skp i0 k) < a then q (skp i0 k) else q (skp i0 k) - 1) < n
    obtain ⟨b1, b2⟩ := skp_bd (i := i0) hk
    have b3 := q1 _ b1
    have b4 := hne _ b1 b2
    split <;> omega
  · obtain ⟨b1, b2⟩ := skp_bd (i := i0) hk
    obtain ⟨c1, c2⟩ := skp_bd (i := i0) hl
    have b4 := hne _ b1 b2
    have c4 := hne _ c1 c2
    have e' : (if q (skp i0 k) < a then q (skp i0 k) else q (skp i0 k) - 1) = (if q (skp i0 l) < a then q (skp i0 l) else q (skp i0 l) - 1) := e
    have hqq : q (skp i0 k) = q (skp i0 l) := by
      generalize q (skp i0 k) = x at *
      generalize q (skp i0 l) = y at *
      split at e' <;> split at e' <;> omega
    exact skp_inj (q2 _ _ b1 c1 hqq)
  · obtain ⟨b1, b2⟩ := skp_bd (i := i0) hj
    have b4 := hne _ b1 b2
    have e1 : dlO f i0 j = f (skp i0 j) := by unfold dlO skp; split <;> rfl
    rw [e1, hq _ b1]
    show h (q (skp i0 j)) = dlO h a (if q (skp i0 j) < a then q (skp i0 j) else q (skp i0 j) - 1)
    generalize q (skp i0 j) = x at *
    unfold dlO
    by_cases hx : x < a
    · rw [if_pos hx, if_pos hx]
    · rw [if_neg hx, if_neg (by omega), show x - 1 + 1 = x by omega]
/-- sorted, and each number once: each is ahead of the next -/
theorem srO_strict {f : Nat → Sta} {n : Nat} (h : SrO f n) (hd : ∀ i k, i < n → k < n → (f i).id = (f k).id → i = k) : ∀ k, k + 1 < n → (f k).pr < (f (k + 1)).pr ∨ ((f k).pr = (f (k + 1)).pr ∧ (f k).id < (f (k + 1)).id) := by
  intro k hk
  rcases h k hk with h1 | ⟨h1, h2⟩
  · exact .inl h1
  · right
    refine ⟨h1, ?_⟩
    by_cases e : (f k).id = (f (k + 1)).id
    · have := hd k (k + 1) (by omega) hk e; omega
    · omega
end Go.Proofs.YthknjpmhomjobaaGreatDoor
