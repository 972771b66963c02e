/- What the calls of code answer that reckon: Free, Charge. -/
import Derived.Test.YthknjpmhomjobaaGreatDoorCodA
namespace Go.Proofs.YthknjpmhomjobaaGreatDoor
open Go.RowKit
set_option linter.unusedVariables false

theorem ret_p {a b : Int} {p : Int × Int} (h : p = (a, b)) : Ending.returned (.tuple #[.int .i64 a, .int .i64 b]) = .returned (.tuple #[.int .i64 p.1, .int .i64 p.2]) := by rw [h]
theorem chargeV_free {s k a f y n d p q : Int} (hf : freeV s k a f n d = (p, q)) (hq : q ≠ 0) : chargeV s k a f y n d = (0, q) := by unfold chargeV; rw [hf, if_pos hq]
theorem chargeV_amt {s k a f y n d p : Int} (hf : freeV s k a f n d = (p, 0)) (hy : amtB y = false) : chargeV s k a f y n d = (0, 10) := by unfold chargeV; rw [hf, if_neg (by simp), if_pos hy]
theorem chargeV_none {s k a f y n d p : Int} (hf : freeV s k a f n d = (p, 0)) (hy : amtB y = true) (hk : k = 4) : chargeV s k a f y n d = (0, 0) := by unfold chargeV; rw [hf, if_neg (by simp), if_neg (by simp [hy]), if_pos hk]
theorem chargeV_over {s k a f y n d p : Int} (hf : freeV s k a f n d = (p, 0)) (hy : amtB y = true) (hk : ¬ k = 4) (hs : amtB (y - p) = false) : chargeV s k a f y n d = (0, 10) := by unfold chargeV; rw [hf, if_neg (by simp), if_neg (by simp [hy]), if_neg hk, if_pos hs]
theorem chargeV_ok {s k a f y n d p : Int} (hf : freeV s k a f n d = (p, 0)) (hy : amtB y = true) (hk : ¬ k = 4) (hs : amtB (y - p) = true) : chargeV s k a f y n d = (max (y - p) 0, 0) := by unfold chargeV; rw [hf, if_neg (by simp), if_neg (by simp [hy]), if_neg hk, if_neg (by simp [hs])]
theorem freeV_amt {s k a f n d p : Int} (h : freeV s k a f n d = (p, 0)) : -999999000 ≤ p ∧ p ≤ 999999000 := by
  by_cases hk : chkC s k a f = 0
  · by_cases h2 : n < 0 ∨ d < n ∨ d < 1 ∨ 1048576 < d
    · rw [freeV_range hk h2] at h
      cases h
    · rw [freeV_ok hk (by omega) (by omega) (by omega) (by omega)] at h
      obtain ⟨_, _, hfit⟩ := chkC_zero hk
      obtain ⟨k1, k4, a0, a9, _, _, _⟩ := fitB_bd hfit
      obtain ⟨p0, p1⟩ := part_bd (a := a) (n := n) (d := d) a0 (by omega) (by omega) (by omega)
      have h := congrArg Prod.fst h
      simp only at h
      split at h <;> omega
  · rw [freeV_bad hk] at h
    exact absurd (congrArg Prod.snd h) hk
end Go.Proofs.YthknjpmhomjobaaGreatDoor
