/- A line of a contribution's name and two amounts is cut into these three words. -/
import Derived.Test.YtgdalejccbhjcaaDoorWrdH
import Derived.Test.YtgdalejccbhjcaaDoorText
namespace Go.Proofs.YtgdalejccbhjcaaDoor
section
open Go.RowKit
set_option linter.unusedVariables false
set_option linter.unusedSimpArgs false

/-- what may stand behind a word -/
def Rest (m : List UInt8) : Prop := m = [] ∨ ∃ r, m = 32 :: r
theorem cut1_all : ∀ (r cur m : List UInt8) (L : List (List UInt8)), r.all shwB = true → cutS 1 L cur (r ++ 34 :: m) = cutS 3 L (cur ++ r) m
  | [], cur, m, L, _ => by
    rw [List.nil_append, c1_close (by rfl), List.append_nil]
  | c :: r, cur, m, L, h => by
    simp only [List.all_cons, Bool.and_eq_true] at h
    rw [List.cons_append, c1_next h.1, cut1_all r _ m L h.2]
    simp
theorem cut2_all : ∀ (r cur m : List UInt8) (L : List (List UInt8)), r.all plnB = true → cutS 2 L cur (r ++ m) = cutS 2 L (cur ++ r) m
  | [], cur, m, L, _ => by simp
  | c :: r, cur, m, L, h => by
    simp only [List.all_cons, Bool.and_eq_true] at h
    rw [List.cons_append, c2_next h.1, cut2_all r _ m L h.2]
    simp
theorem cut23_rest {st : Nat} (hst : st = 2 ∨ st = 3) {m cur : List UInt8} {L : List (List UInt8)} (h : Rest m) : cutS st L cur m = cutS 0 (L ++ [cur]) [] m := by
  rcases h with rfl | ⟨r, rfl⟩
  · rcases hst with rfl | rfl <;> rfl
  · rw [c0_blank (by rfl)]
    have hp : plnB 32 = false := by decide
    rcases hst with rfl | rfl <;> simp [cutS, hp]
theorem needB_no {l : List UInt8} (h : needB l = false) : l ≠ [] ∧ l.all plnB = true := by
  unfold needB at h
  simp only [Bool.or_eq_false_iff, Bool.not_eq_false'] at h
  exact ⟨by intro e; subst e; simp at h, h.2⟩
theorem cut_quo {l m : List UInt8} {L : List (List UInt8)} (h : l.all shwB = true) (hL : L.length ≠ 32) (hm : Rest m) : cutS 0 L [] (quoV l ++ m) = cutS 0 (L ++ [l]) [] m := by
  unfold quoV
  rw [if_pos h]
  cases hn : needB l
  · rw [if_neg (by simp)]
    obtain ⟨h1, h2⟩ := needB_no hn
    cases l with
    | nil => exact absurd rfl h1
    | cons c r =>
      have h3 := h2
      simp only [List.all_cons, Bool.and_eq_true] at h3
      have hb := plnB_yes h3.1
      rw [List.cons_append, c0_word (by omega) (by omega) hL (by omega), ← List.cons_append, cut2_all _ _ _ _ h2, List.nil_append]
      exact cut23_rest (.inl rfl) hm
  · rw [if_pos rfl, List.cons_append, List.append_assoc, c0_quote hL (by rfl)]
    show cutS 1 L [] (l ++ 34 :: m) = _
    rw [cut1_all _ _ _ _ h, List.nil_append]
    exact cut23_rest (.inr rfl) hm
/-- one word alone -/
theorem cut_word {l : List UInt8} (h : l.all shwB = true) (hl : (quoV l).length ≤ 512) : cutV (quoV l) = ([l], 0) := by
  unfold cutV
  rw [if_neg (by omega)]
  have := cut_quo (m := []) (L := []) h (by simp) (.inl rfl)
  rw [List.append_nil] at this
  rw [this]
  rfl
end
section
open Go.RowKit
set_option linter.unusedVariables false
set_option linter.unusedSimpArgs false

theorem dig_pln {k : Nat} (h : k < 10) : plnB (UInt8.ofNat (48 + k)) = true := by
  have : ∀ i : Fin 10, plnB (UInt8.ofNat (48 + i.val)) = true := by decide +kernel
  exact this ⟨k, h⟩
theorem dd_pln (u : Nat) : (Lib.decDigits u).all plnB = true := by
  induction u using Nat.strongRecOn with
  | _ u ih =>
    rw [Lib.decDigits]
    split
    · rename_i h
      simp only [List.all_cons, List.all_nil, Bool.and_true]
      exact dig_pln h
    · rename_i h
      rw [List.all_append, ih (u / 10) (by omega)]
      simp only [List.all_cons, List.all_nil, Bool.and_true, Bool.true_and]
      exact dig_pln (by omega)
theorem txt_pln (x : Int) : (txt x).all plnB = true := by
  have h46 : plnB 46 = true := by decide +kernel
  have h45 : plnB 45 = true := by decide +kernel
  unfold txt tailB
  rw [List.all_append, List.all_append, dd_pln, List.all_cons, h46, List.all_cons, List.all_cons, dig_pln (by omega), dig_pln (by omega)]
  split <;> simp [h45]
theorem txt_ne (x : Int) : txt x ≠ [] := by unfold txt; simp
theorem quo_self {l : List UInt8} (h : l.all plnB = true) (h0 : l ≠ []) : quoV l = l ∧ l.all shwB = true := by
  have hs : l.all shwB = true := by
    rw [List.all_eq_true] at h ⊢
    exact fun c hc => pln_shw (h c hc)
  have hn : needB l = false := by
    unfold needB
    rw [h]
    cases l with
    | nil => exact absurd rfl h0
    | cons c r => rfl
  refine ⟨?_, hs⟩
  unfold quoV
  rw [if_pos hs, hn]
  rfl
theorem nam_pln {c : UInt8} (h : namB c = true) : plnB c = true := by
  unfold namB smlB isDg at h
  simp only [Bool.or_eq_true, decide_eq_true_eq] at h
  simp only [plnB, decide_eq_true_eq]
  omega
theorem name_pln {l : List UInt8} (h : nameB l = true) : l.all plnB = true ∧ l ≠ [] ∧ l.length ≤ 16 := by
  unfold nameB at h
  simp only [Bool.and_eq_true, decide_eq_true_eq] at h
  obtain ⟨⟨⟨h1, h2⟩, _⟩, h4⟩ := h
  refine ⟨?_, ?_, h2⟩
  · rw [List.all_eq_true] at h4 ⊢
    exact fun c hc => nam_pln (h4 c hc)
  · intro e; subst e; simp at h1
theorem cut_blank (L : List (List UInt8)) (r : List UInt8) : cutS 0 L [] (32 :: r) = cutS 0 L [] r := by
  rw [cutS]
  simp
theorem cut_three {a b c : List UInt8} (ha : a.all plnB = true) (hb : b.all plnB = true) (hc : c.all plnB = true) (a0 : a ≠ []) (b0 : b ≠ []) (c0 : c ≠ []) (hl : a.length + b.length + c.length ≤ 500) : cutV (a ++ 32 :: (b ++ 32 :: c)) = ([a, b, c], 0) := by
  obtain ⟨qa, sa⟩ := quo_self ha a0
  obtain ⟨qb, sb⟩ := quo_self hb b0
  obtain ⟨qc, sc⟩ := quo_self hc c0
  have h1 := cut_quo (l := a) (m := 32 :: (b ++ 32 :: c)) (L := []) sa (by simp) (.inr ⟨_, rfl⟩)
  have h2 := cut_quo (l := b) (m := 32 :: c) (L := [a]) sb (by simp) (.inr ⟨_, rfl⟩)
  have h3 := cut_quo (l := c) (m := []) (L := [a, b]) sc (by simp) (.inl rfl)
  rw [qa] at h1
  rw [qb] at h2
  rw [qc, List.append_nil] at h3
  unfold cutV
  rw [if_neg (by simp only [List.length_append, List.length_cons]; omega), h1, cut_blank]
  simp only [List.nil_append]
  rw [h2, cut_blank]
  simp only [List.cons_append, List.nil_append]
  rw [h3]
  rfl
end
end Go.Proofs.YtgdalejccbhjcaaDoor
