/- The first of some numbers that is not 0: no program in sight. -/
import Derived.Test.YtgadlfdioakodabDoorRight
namespace Go.Proofs.YtgadlfdioakodabDoor

/-- the first of n that is not 0, or 0 -/
def firstE (f : Nat → Int) : Nat → Int
  | 0 => 0
  | k + 1 => if firstE f k = 0 then f k else firstE f k
theorem first_stop {f : Nat → Int} {i n : Nat} (hi : i < n) (h0 : firstE f i = 0) (hs : f i ≠ 0) : firstE f n = f i := by
  obtain ⟨m, rfl⟩ : ∃ m, n = i + 1 + m := ⟨n - i - 1, by omega⟩
  induction m with
  | zero => simp [firstE, h0]
  | succ m ih =>
    have := ih (by omega)
    show (if firstE f (i + 1 + m) = 0 then _ else firstE f (i + 1 + m)) = _
    rw [this, if_neg hs]
theorem first_succ {f : Nat → Int} {i : Nat} (h0 : firstE f i = 0) (hs : f i = 0) : firstE f (i + 1) = 0 := by
  simp [firstE, h0, hs]
theorem first_zero {f : Nat → Int} {n : Nat} (h : firstE f n = 0) : ∀ i, i < n → f i = 0 := by
  induction n with
  | zero => intro i hi; omega
  | succ n ih =>
    have h1 : firstE f n = 0 := by
      have h' : (if firstE f n = 0 then f n else firstE f n) = 0 := h
      split at h' <;> simp_all
    have h2 : f n = 0 := by
      have h' : (if firstE f n = 0 then f n else firstE f n) = 0 := h
      rwa [if_pos h1] at h'
    intro i hi
    by_cases e : i = n
    · subst e; exact h2
    · exact ih h1 i (by omega)
theorem first_of_zero {f : Nat → Int} {n : Nat} (h : ∀ i, i < n → f i = 0) : firstE f n = 0 := by
  induction n with
  | zero => rfl
  | succ n ih => exact first_succ (ih fun i hi => h i (by omega)) (h n (by omega))
end Go.Proofs.YtgadlfdioakodabDoor
