/- Sorting orders by their priority, then by their number: plain. -/
import Derived.Test.YthknjpmhomjobaaGreatDoorOrd
import Derived.Test.YthknjpmhomjobaaGreatDoorPlainB
namespace Go.Proofs.YthknjpmhomjobaaGreatDoor
open Go.RowKit

def cmpO (a b : Sta) : Int := if cmpI a.pr b.pr = 0 then cmpI a.id b.id else cmpI a.pr b.pr
def leO (a b : Sta) : Prop := a.pr < b.pr ∨ (a.pr = b.pr ∧ a.id ≤ b.id)
theorem leO_of_not {a b : Sta} (h : ¬ cmpO b a < 0) : leO a b := by
  unfold cmpO at h
  unfold leO
  rcases cmpI_cases b.pr a.pr with ⟨h1, h2⟩ | ⟨h1, h2⟩ | ⟨h1, h2⟩
  · rw [h2] at h; simp at h
  · rw [h2] at h
    simp only [if_true] at h
    rcases cmpI_cases b.id a.id with ⟨h3, h4⟩ | ⟨h3, h4⟩ | ⟨h3, h4⟩ <;> omega
  · exact .inl h1
theorem leO_of_lt {a b : Sta} (h : cmpO a b < 0) : leO a b := by
  unfold cmpO at h
  unfold leO
  rcases cmpI_cases a.pr b.pr with ⟨h1, h2⟩ | ⟨h1, h2⟩ | ⟨h1, h2⟩
  · exact .inl h1
  · rw [h2] at h
    simp only [if_true] at h
    rcases cmpI_cases a.id b.id with ⟨h3, h4⟩ | ⟨h3, h4⟩ | ⟨h3, h4⟩ <;> omega
  · rw [h2] at h; simp at h
def PerO (n : Nat) (p : Nat → Nat) : Prop := (∀ k, k < n → p k < n) ∧ (∀ k l, k < n → l < n → p k = p l → k = l)
theorem perO_id (n : Nat) : PerO n fun k => k := ⟨fun _ h => h, fun _ _ _ _ e => e⟩
def swO {α : Type} (p : Nat → α) (a b : Nat) (j : Nat) : α := if j = b then p a else if j = a then p b else p j
theorem swO_per {n a b : Nat} {p : Nat → Nat} (h : PerO n p) (ha : a < n) (hb : b < n) : PerO n (swO p a b) := by
  obtain ⟨h1, h2⟩ := h
  refine ⟨fun k hk => ?_, fun k l hk hl e => ?_⟩
  · unfold swO
    split
    · exact h1 a ha
    · split
      · exact h1 b hb
      · exact h1 k hk
  · unfold swO at e
    by_cases k1 : k = b <;> by_cases l1 : l = b
    · omega
    · rw [if_pos k1, if_neg l1] at e
      by_cases l2 : l = a
      · rw [if_pos l2] at e
        have := h2 a b ha hb e
        omega
      · rw [if_neg l2] at e
        have := h2 a l ha hl e
        omega
    · rw [if_neg k1, if_pos l1] at e
      by_cases k2 : k = a
      · rw [if_pos k2] at e
        have := h2 b a hb ha e
        omega
      · rw [if_neg k2] at e
        have := h2 k a hk ha e
        omega
    · rw [if_neg k1, if_neg l1] at e
      by_cases k2 : k = a <;> by_cases l2 : l = a
      · omega
      · rw [if_pos k2, if_neg l2] at e
        have := h2 b l hb hl e
        omega
      · rw [if_neg k2, if_pos l2] at e
        have := h2 k b hk hb e
        omega
      · rw [if_neg k2, if_neg l2] at e
        exact h2 k l hk hl e
/-- the orders are as they were, but for their order -/
def MovO (n : Nat) (f0 f : Nat → Sta) : Prop := ∃ p, PerO n p ∧ ∀ i, i < n → f i = f0 (p i)
theorem movO_refl (n : Nat) (f : Nat → Sta) : MovO n f f := ⟨_, perO_id n, fun _ _ => rfl⟩
theorem movO_swap {n a b : Nat} {f0 f : Nat → Sta} (h : MovO n f0 f) (ha : a < n) (hb : b < n) : MovO n f0 (swO f a b) := by
  obtain ⟨p, hp, hf⟩ := h
  refine ⟨swO p a b, swO_per hp ha hb, fun i hi => ?_⟩
  unfold swO
  split
  · exact hf a ha
  · split
    · exact hf b hb
    · exact hf i hi
/-- sorted up to the i-th -/
def SrO (f : Nat → Sta) (i : Nat) : Prop := ∀ k, k + 1 < i → leO (f k) (f (k + 1))
/-- the i-th is on its way down, now at j -/
def InO (f : Nat → Sta) (i j : Nat) : Prop := (∀ k, k + 1 ≤ i → k + 1 ≠ j → leO (f k) (f (k + 1))) ∧ (0 < j → j < i → leO (f (j - 1)) (f (j + 1)))
theorem inO_start {f : Nat → Sta} {i : Nat} (h : SrO f i) : InO f i i := ⟨fun k hk hne => h k (by omega), fun _ h1 => absurd h1 (Nat.lt_irrefl i)⟩
theorem inO_end {f : Nat → Sta} {i j : Nat} (h : InO f i j) (hj : j = 0 ∨ leO (f (j - 1)) (f j)) : SrO f (i + 1) := by
  intro k hk
  by_cases hkj : k + 1 = j
  · rcases hj with h0 | h0
    · omega
    · have e : j - 1 = k := by omega
      rw [e] at h0
      rw [hkj]; exact h0
  · exact h.1 k (by omega) hkj
theorem inO_step {f : Nat → Sta} {i x : Nat} (h : InO f i (x + 1)) (hx : x + 1 ≤ i) (hlt : leO (f (x + 1)) (f x)) : InO (swO f (x + 1) x) i x := by
  obtain ⟨hA, hB⟩ := h
  have e1 : swO f (x + 1) x x = f (x + 1) := by simp [swO]
  have e2 : swO f (x + 1) x (x + 1) = f x := by simp [swO]
  have e3 : ∀ k, k ≠ x → k ≠ x + 1 → swO f (x + 1) x k = f k := fun k h1 h2 => by simp [swO, h1, h2]
  refine ⟨fun k hk hne => ?_, fun h0 h1 => ?_⟩
  · by_cases hk1 : k = x
    · subst hk1
      rw [e1, e2]; exact hlt
    · by_cases hk2 : k = x + 1
      · subst hk2
        rw [e2, e3 (x + 1 + 1) (by omega) (by omega)]
        exact hB (by omega) (by omega)
      · rw [e3 k hk1 hk2, e3 (k + 1) (by omega) (by omega)]
        exact hA k hk (by omega)
  · rw [e2, e3 (x - 1) (by omega) (by omega)]
    have := hA (x - 1) (by omega) (by omega)
    rw [show x - 1 + 1 = x by omega] at this
    exact this
end Go.Proofs.YthknjpmhomjobaaGreatDoor
