/- A line of an account and what stands on it is cut into these two words, and the second one is read as it. -/
import Derived.Test.YtgadlfdioakodabDoorPbM
import Derived.Test.YtgadlfdioakodabDoorWrdI
import Derived.Test.YtgadlfdioakodabDoorTxtParse
namespace Go.Proofs.YtgadlfdioakodabDoor
open Go.RowKit Go.Sort
set_option linter.unusedVariables false
set_option linter.unusedSimpArgs false

theorem cut_pl {l m : List UInt8} {L : List (List UInt8)} (h1 : l ≠ []) (h2 : l.all plnB = true) (hL : L.length ≠ 32) (hm : Rest m) : cutS 0 L [] (l ++ m) = cutS 0 (L ++ [l]) [] m := by
  cases l with
  | nil => exact absurd rfl h1
  | cons c r =>
    have h3 := h2
    simp only [List.all_cons, Bool.and_eq_true] at h3
    have hb := plnB_yes h3.1
    rw [List.cons_append, c0_word (by omega) (by omega) hL (by omega), ← List.cons_append, cut2_all _ _ _ _ h2, List.nil_append]
    exact cut23_rest (.inl rfl) hm
theorem nam_pln {c : UInt8} (h : namB c = true) : plnB c = true := by
  unfold namB smlB isDg at h
  unfold plnB
  simp only [Bool.or_eq_true, decide_eq_true_eq] at h ⊢
  omega
theorem name_pln {l : List UInt8} (h : nameB l = true) : l ≠ [] ∧ l.all plnB = true := by
  unfold nameB at h
  simp only [Bool.and_eq_true, Bool.not_eq_true', List.isEmpty_eq_false_iff] at h
  refine ⟨h.1.1.1, List.all_eq_true.2 fun x hx => nam_pln (List.all_eq_true.1 h.2 x hx)⟩
theorem acc_pln {l : List UInt8} (h : accB ⟨l.toArray⟩ = true) : l ≠ [] ∧ l.all plnB = true := by
  unfold accB at h
  simp only [List.toList_toArray, Bool.or_eq_true] at h
  rcases h with h | h
  · exact name_pln h
  · unfold Lib.trimPrefix at h
    split at h
    · rename_i hp
      have h2 := name_pln h
      have e : l = fundL ++ l.drop fundL.length := by
        unfold Lib.hasPrefix at hp
        obtain ⟨t, ht⟩ := List.isPrefixOf_iff_prefix.1 hp
        rw [← ht]; simp
      refine ⟨fun e0 => by rw [e0] at h2; exact h2.1 (by simp), ?_⟩
      rw [e, List.all_append, h2.2]
      rfl
    · exact name_pln h
theorem dig_pln {c : UInt8} (h : isDg c = true) : plnB c = true := by
  unfold isDg at h
  unfold plnB
  simp only [decide_eq_true_eq] at h ⊢
  omega
theorem txt_pln (x : Int) : txt x ≠ [] ∧ (txt x).all plnB = true := by
  unfold txt tailB
  refine ⟨by simp, ?_⟩
  have hd : (Lib.decDigits (x.natAbs / 100)).all plnB = true := by
    have h := (dd_allQ (x.natAbs / 100)).1
    exact List.all_eq_true.2 fun c hc => dig_pln (List.all_eq_true.1 h c hc)
  have h1 : ∀ k : Nat, k < 10 → plnB (UInt8.ofNat (48 + k)) = true := fun k hk => by
    have : k = 0 ∨ k = 1 ∨ k = 2 ∨ k = 3 ∨ k = 4 ∨ k = 5 ∨ k = 6 ∨ k = 7 ∨ k = 8 ∨ k = 9 := by omega
    rcases this with rfl | rfl | rfl | rfl | rfl | rfl | rfl | rfl | rfl | rfl <;> decide
  simp only [List.all_append, List.all_cons, List.all_nil, Bool.and_true, hd, h1 _ (show x.natAbs % 100 / 10 < 10 by omega), h1 _ (show x.natAbs % 10 < 10 by omega)]
  split <;> decide
/-- the line of an account -/
theorem cut_line {l : List UInt8} {x : Int} (h : accB ⟨l.toArray⟩ = true) (h1 : -9223372036854775808 ≤ x) (h2 : x ≤ 9223372036854775807) : cutV (l ++ [32] ++ txt x) = ([l, txt x], 0) := by
  have ha := acc_pln h
  have ht := txt_pln x
  have hl := acc_len h
  have hx := txt_len x h1 h2
  unfold cutV
  rw [if_neg (by simp; omega), List.append_assoc, show ([32] : List UInt8) ++ txt x = 32 :: txt x from rfl, cut_pl ha.1 ha.2 (by simp) (.inr ⟨_, rfl⟩)]
  rw [c0_blank (by rfl)]
  have := cut_pl (m := []) (L := [] ++ [l]) ht.1 ht.2 (by simp) (.inl rfl)
  rw [List.append_nil] at this
  rw [this]
  rfl
end Go.Proofs.YtgadlfdioakodabDoor
