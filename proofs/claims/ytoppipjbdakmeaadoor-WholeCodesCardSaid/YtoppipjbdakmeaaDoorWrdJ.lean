/- Words joined to a line are cut out of it as these words: no program in sight. -/
import Derived.Test.YtoppipjbdakmeaaDoorWrdI
namespace Go.Proofs.YtoppipjbdakmeaaDoor
open Go.RowKit
set_option linter.unusedVariables false
set_option linter.unusedSimpArgs false

/-- words, each behind a blank -/
def tlW : List (List UInt8) → List UInt8
  | [] => []
  | l :: r => 32 :: (quoV l ++ tlW r)
/-- words as a line, whatever its length -/
def txW : List (List UInt8) → List UInt8
  | [] => []
  | l :: r => quoV l ++ tlW r
theorem tlW_rest (R : List (List UInt8)) : Rest (tlW R) := by
  cases R with
  | nil => exact .inl rfl
  | cons l r => exact .inr ⟨_, rfl⟩
theorem cut_tl : ∀ (R M : List (List UInt8)), (∀ l, l ∈ R → l.all shwB = true) → M.length + R.length ≤ 32 → cutS 0 M [] (tlW R) = (M ++ R, 0)
  | [], M, _, _ => by simp [tlW, cutS]
  | l :: r, M, h, hl => by
    simp only [List.length_cons] at hl
    unfold tlW
    rw [c0_blank (by rfl), cut_quo (h l (by simp)) (by omega) (tlW_rest r), cut_tl r (M ++ [l]) (fun x hx => h x (by simp [hx])) (by simp; omega)]
    simp
theorem cut_tx (R : List (List UInt8)) (h : ∀ l, l ∈ R → l.all shwB = true) (hl : R.length ≤ 32) : cutS 0 [] [] (txW R) = (R, 0) := by
  cases R with
  | nil => rfl
  | cons l r =>
    simp only [List.length_cons] at hl
    unfold txW
    rw [cut_quo (h l (by simp)) (by simp) (tlW_rest r), List.nil_append, cut_tl r [l] (fun x hx => h x (by simp [hx])) (by simp; omega)]
    simp
/-- what a line is that words were joined to -/
theorem joiG_is : ∀ (R : List (List UInt8)) (line out : List UInt8), joiG line false R = (out, 0) → line.length ≤ 512 → out = line ++ tlW R ∧ (∀ l, l ∈ R → l.all shwB = true) ∧ out.length ≤ 512
  | [], line, out, h, hl => by
    simp only [joiG, Prod.mk.injEq] at h
    obtain ⟨rfl, _⟩ := h
    exact ⟨by simp [tlW], by simp, hl⟩
  | l :: r, line, out, h, hl => by
    simp only [joiG, Bool.false_eq_true, if_false] at h
    split at h
    · rename_i ha
      split at h
      · simp at h
      · rename_i h5
        obtain ⟨e, hall, ho⟩ := joiG_is r _ out h (by omega)
        refine ⟨by rw [e]; simp [tlW], ?_, ho⟩
        intro x hx
        rcases List.mem_cons.1 hx with rfl | hx
        · exact ha
        · exact hall x hx
    · simp at h
theorem joiV_is {R : List (List UInt8)} {out : List UInt8} (h : joiV R = (out, 0)) : out = txW R ∧ (∀ l, l ∈ R → l.all shwB = true) ∧ out.length ≤ 512 ∧ R.length ≤ 32 := by
  unfold joiV at h
  split at h
  · simp at h
  · rename_i h32
    cases R with
    | nil =>
      simp only [joiG, Prod.mk.injEq] at h
      obtain ⟨rfl, _⟩ := h
      exact ⟨rfl, by simp, by simp, by simp⟩
    | cons l r =>
      simp only [joiG, if_true, List.nil_append] at h
      split at h
      · rename_i ha
        split at h
        · simp at h
        · rename_i h5
          obtain ⟨e, hall, ho⟩ := joiG_is r _ out h (by omega)
          refine ⟨by rw [e]; simp [txW], ?_, ho, by omega⟩
          intro x hx
          rcases List.mem_cons.1 hx with rfl | hx
          · exact ha
          · exact hall x hx
      · simp at h
/-- THERE AND BACK -/
theorem cut_joi {R : List (List UInt8)} {out : List UInt8} (h : joiV R = (out, 0)) : cutV out = (R, 0) := by
  obtain ⟨rfl, hall, ho, hl⟩ := joiV_is h
  unfold cutV
  rw [if_neg (by omega)]
  exact cut_tx R hall hl
/-- where words aren't joined: too many bytes or too many words (2), or bytes that may not stand in a line (5) -/
theorem joiG_err : ∀ (R : List (List UInt8)) (line : List UInt8) (z : Bool), (joiG line z R).2 = 0 ∨ ((joiG line z R).1 = [] ∧ ((joiG line z R).2 = 2 ∨ (joiG line z R).2 = 5))
  | [], line, z => .inl rfl
  | l :: r, line, z => by
    simp only [joiG]
    generalize line ++ (if z = true then [] else [32]) ++ quoV l = m
    by_cases ha : l.all shwB = true
    · rw [if_pos ha]
      by_cases h5 : 512 < m.length
      · rw [if_pos h5]; exact .inr ⟨rfl, .inl rfl⟩
      · rw [if_neg h5]; exact joiG_err r _ _
    · rw [if_neg ha]; exact .inr ⟨rfl, .inr rfl⟩
theorem joiV_err (R : List (List UInt8)) : (joiV R).2 = 0 ∨ ((joiV R).1 = [] ∧ ((joiV R).2 = 2 ∨ (joiV R).2 = 5)) := by
  unfold joiV
  split
  · exact .inr ⟨rfl, .inl rfl⟩
  · exact joiG_err R _ _
end Go.Proofs.YtoppipjbdakmeaaDoor
