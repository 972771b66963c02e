/- A word as it stands in a line is cut out of it as that word: no program in sight. -/
import Derived.Test.YtgadlfdioakodabDoorWrdH
namespace Go.Proofs.YtgadlfdioakodabDoor
open Go.RowKit
set_option linter.unusedVariables false
set_option linter.unusedSimpArgs false

/-- what may stand behind a word -/
def Rest (m : List UInt8) : Prop := m = [] ∨ ∃ r, m = 32 :: r
theorem cut1_all : ∀ (r cur m : List UInt8) (L : List (List UInt8)), r.all shwB = true → cutS 1 L cur (r ++ 34 :: m) = cutS 3 L (cur ++ r) m
  | [], cur, m, L, _ => by
    rw [List.nil_append, c1_close (by rfl), List.append_nil]
  | c :: r, cur, m, L, h => by
    simp only [List.all_cons, Bool.and_eq_true] at h
    rw [List.cons_append, c1_next h.1, cut1_all r _ m L h.2]
    simp
theorem cut2_all : ∀ (r cur m : List UInt8) (L : List (List UInt8)), r.all plnB = true → cutS 2 L cur (r ++ m) = cutS 2 L (cur ++ r) m
  | [], cur, m, L, _ => by simp
  | c :: r, cur, m, L, h => by
    simp only [List.all_cons, Bool.and_eq_true] at h
    rw [List.cons_append, c2_next h.1, cut2_all r _ m L h.2]
    simp
theorem cut23_rest {st : Nat} (hst : st = 2 ∨ st = 3) {m cur : List UInt8} {L : List (List UInt8)} (h : Rest m) : cutS st L cur m = cutS 0 (L ++ [cur]) [] m := by
  rcases h with rfl | ⟨r, rfl⟩
  · rcases hst with rfl | rfl <;> rfl
  · rw [c0_blank (by rfl)]
    have hp : plnB 32 = false := by decide
    rcases hst with rfl | rfl <;> simp [cutS, hp]
theorem needB_no {l : List UInt8} (h : needB l = false) : l ≠ [] ∧ l.all plnB = true := by
  unfold needB at h
  simp only [Bool.or_eq_false_iff, Bool.not_eq_false'] at h
  exact ⟨by intro e; subst e; simp at h, h.2⟩
theorem cut_quo {l m : List UInt8} {L : List (List UInt8)} (h : l.all shwB = true) (hL : L.length ≠ 32) (hm : Rest m) : cutS 0 L [] (quoV l ++ m) = cutS 0 (L ++ [l]) [] m := by
  unfold quoV
  rw [if_pos h]
  cases hn : needB l
  · rw [if_neg (by simp)]
    obtain ⟨h1, h2⟩ := needB_no hn
    cases l with
    | nil => exact absurd rfl h1
    | cons c r =>
      have h3 := h2
      simp only [List.all_cons, Bool.and_eq_true] at h3
      have hb := plnB_yes h3.1
      rw [List.cons_append, c0_word (by omega) (by omega) hL (by omega), ← List.cons_append, cut2_all _ _ _ _ h2, List.nil_append]
      exact cut23_rest (.inl rfl) hm
  · rw [if_pos rfl, List.cons_append, List.append_assoc, c0_quote hL (by rfl)]
    show cutS 1 L [] (l ++ 34 :: m) = _
    rw [cut1_all _ _ _ _ h, List.nil_append]
    exact cut23_rest (.inr rfl) hm
/-- one word alone -/
theorem cut_word {l : List UInt8} (h : l.all shwB = true) (hl : (quoV l).length ≤ 512) : cutV (quoV l) = ([l], 0) := by
  unfold cutV
  rw [if_neg (by omega)]
  have := cut_quo (m := []) (L := []) h (by simp) (.inl rfl)
  rw [List.append_nil] at this
  rw [this]
  rfl
end Go.Proofs.YtgadlfdioakodabDoor
