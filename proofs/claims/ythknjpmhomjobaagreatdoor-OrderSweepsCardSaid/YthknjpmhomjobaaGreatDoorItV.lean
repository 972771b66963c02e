/- Itoa's text of a number of nine digits at most is read as that number (word.Int): intV_itoa. Plain; tried in round 14 with WrdC's definitions beside it. -/
import Derived.Test.YthknjpmhomjobaaGreatDoorWrdC
import Derived.Lib.ItoaMem
namespace Go.Proofs.YthknjpmhomjobaaGreatDoor
set_option linter.unusedVariables false
set_option linter.unusedSimpArgs false
theorem dgt_nat {k : Nat} (h : k < 10) : (UInt8.ofNat (48 + k)).toNat = 48 + k := by
  rw [UInt8.toNat_ofNat']; omega
theorem dgt_is {k : Nat} (h : k < 10) : isDg (UInt8.ofNat (48 + k)) = true := by
  unfold isDg; rw [dgt_nat h]; simp; omega
theorem dec_all (u : Nat) : (Lib.decDigits u).all isDg = true := by
  induction u using Nat.strongRecOn with
  | _ u ih =>
    by_cases h : u < 10
    · rw [Lib.decDigits, dif_pos h, List.all_cons, dgt_is h]; rfl
    · rw [Lib.decDigits, dif_neg h, List.all_append, ih (u / 10) (by omega), List.all_cons, dgt_is (show u % 10 < 10 by omega)]; rfl
theorem dec_numG (u : Nat) : numG 0 (Lib.decDigits u) = u := by
  induction u using Nat.strongRecOn with
  | _ u ih =>
    by_cases h : u < 10
    · rw [Lib.decDigits, dif_pos h]; simp only [numG]; rw [dgt_nat h]; omega
    · rw [Lib.decDigits, dif_neg h, numG_append, ih (u / 10) (by omega)]
      simp only [numG]; rw [dgt_nat (show u % 10 < 10 by omega)]; omega
theorem dec_ne (u : Nat) : Lib.decDigits u ≠ [] := by
  intro h; have := Lib.decDigits_length u; rw [h] at this; have := Lib.nDigits_pos u; simp at *; omega
theorem dec_head (u : Nat) (h0 : 1 ≤ u) : ∃ k, 1 ≤ k ∧ k < 10 ∧ (Lib.decDigits u).head? = some (UInt8.ofNat (48 + k)) := by
  induction u using Nat.strongRecOn with
  | _ u ih =>
    by_cases h : u < 10
    · exact ⟨u, h0, h, by rw [Lib.decDigits, dif_pos h]; rfl⟩
    · obtain ⟨k, h1, h2, h3⟩ := ih (u / 10) (by omega) (by omega)
      refine ⟨k, h1, h2, ?_⟩
      rw [Lib.decDigits, dif_neg h, List.head?_append, h3]; rfl
theorem dgt_ne {k : Nat} {c : UInt8} (h : k < 10) (hc : (c.toNat : Nat) ≠ 48 + k) : UInt8.ofNat (48 + k) ≠ c := by
  intro e; exact hc (by rw [← e, dgt_nat h])
theorem dec_who (u : Nat) : whoB (Lib.decDigits u) = true := by
  unfold whoB
  rw [dec_all]
  have h1 : (Lib.decDigits u).isEmpty = false := by cases h : Lib.decDigits u with
    | nil => exact absurd h (dec_ne u)
    | cons => rfl
  rw [h1]
  by_cases h : u < 10
  · rw [Lib.decDigits, dif_pos h]; simp
  · obtain ⟨k, k1, k2, k3⟩ := dec_head u (by omega)
    rw [k3]
    have : (some (UInt8.ofNat (48 + k)) == some (48 : UInt8)) = false := by
      have := dgt_ne (c := 48) k2 (by show (48 : Nat) ≠ _; omega)
      simpa using this
    rw [this]; simp
theorem dec_pre (u : Nat) : preB 45 (Lib.decDigits u) = false := by
  unfold preB
  by_cases h : u < 10
  · rw [Lib.decDigits, dif_pos h]
    have := dgt_ne (c := 45) h (by show (45 : Nat) ≠ _; omega)
    simpa using this
  · obtain ⟨k, k1, k2, k3⟩ := dec_head u (by omega)
    rw [k3]
    have := dgt_ne (c := 45) k2 (by show (45 : Nat) ≠ _; omega)
    simpa using this
theorem dec_len9 {u : Nat} (h : u ≤ 999999999) : (Lib.decDigits u).length ≤ 9 := by
  rw [Lib.decDigits_length]
  refine Nat.le_of_not_lt fun hc => ?_
  have := Lib.nDigits_unique
  have h2 : ∀ (k u : Nat), k < Lib.nDigits u → 10 ^ k ≤ u ∨ k = 0 := by
    intro k
    induction k with
    | zero => intro u _; exact .inr rfl
    | succ k ih =>
      intro u hu
      refine .inl ?_
      by_cases h : u < 10
      · rw [Lib.nDigits_small h] at hu; omega
      · rw [Lib.nDigits_big h] at hu
        have hp : 10 ^ (k + 1) = 10 ^ k * 10 := Nat.pow_succ _ _
        rcases ih (u / 10) (by omega) with h3 | h3
        · omega
        · subst h3; omega
  rcases h2 9 u hc with h3 | h3
  · omega
  · cases h3
/-- the text of a number of nine digits at most is read as it -/
theorem intV_itoa {x : Int} (h1 : -999999999 ≤ x) (h2 : x ≤ 999999999) : intV (Lib.itoa x) = (x, 0) := by
  rcases Int.lt_or_le x 0 with hx | hx
  · obtain ⟨u, rfl, hu⟩ : ∃ u : Nat, x = -(u : Int) ∧ 1 ≤ u := ⟨x.natAbs, by omega, by omega⟩
    have hd : intD (Lib.itoa (-(u : Int))) = Lib.decDigits u := by rw [Lib.itoa_neg u hu]; rfl
    have hp : preB 45 (Lib.itoa (-(u : Int))) = true := by rw [Lib.itoa_neg u hu]; rfl
    have hz : Lib.decDigits u ≠ [48] := by
      intro e
      have := dec_numG u
      rw [e] at this
      have : (numG 0 [48] : Int) = 0 := by decide
      omega
    have hl := dec_len9 (u := u) (by omega)
    unfold intV
    rw [hd, hp, dec_who, dec_numG, if_neg (by simp [hz]), if_neg (by omega)]; simp
  · obtain ⟨u, rfl⟩ : ∃ u : Nat, x = (u : Int) := ⟨x.toNat, by omega⟩
    have hp : preB 45 (Lib.itoa (u : Int)) = false := by rw [Lib.itoa_nonneg]; exact dec_pre u
    have hd : intD (Lib.itoa (u : Int)) = Lib.decDigits u := by unfold intD; rw [hp, Lib.itoa_nonneg]; rfl
    have hl := dec_len9 (u := u) (by omega)
    unfold intV
    rw [hd, hp, dec_who, dec_numG, if_neg (by simp), if_neg (by omega)]; simp
end Go.Proofs.YthknjpmhomjobaaGreatDoor
