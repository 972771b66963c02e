/- Plain facts about the functions that the laws' own goes makes. -/
import Derived.Test.YtcldknmhmbpboaaPcN
namespace Go.Proofs.Ytcldknmhmbpboaa
open Go.RowKit Go.Sort
set_option linter.unusedVariables false
set_option linter.unusedSimpArgs false
namespace Lf
/-- a function with a corner at 10, and one that is 7 -/
def f1 : Lf := two 0 0 0 10 0 3
def s7 : Lf := one 0 7 0
def s1 : Lf := one 0 1 1
theorem f1_chk : f1.chk = 0 := by decide +kernel
theorem s7_chk : s7.chk = 0 := by decide +kernel
theorem s1_chk : s1.chk = 0 := by decide +kernel
theorem f1_val (x : Int) : f1.val x = if 10 ≤ x then 3 * (x - 10) else 0 := by
  show (if (10 : Int) ≤ x then 0 + (x - 10) * 3 else if (0 : Int) ≤ x then 0 + (x - 0) * 0 else 0) = _
  split
  · omega
  · split <;> omega
theorem f1_Ri (i : Nat) : f1.R i = 0 ∨ f1.R i = 3 := by
  show (if i = 0 then (0 : Int) else 3) = 0 ∨ (if i = 0 then (0 : Int) else 3) = 3
  split <;> simp
theorem f1_R (x : Int) : f1.R (f1.idx x) = 0 ∨ f1.R (f1.idx x) = 3 := f1_Ri _
theorem s7_val {x : Int} (h : 0 ≤ x) : s7.val x = 7 := by
  show (if (0 : Int) ≤ x then 7 + (x - 0) * 0 else 0) = 7
  rw [if_pos h]; omega
theorem s1_val {x : Int} (h : 0 ≤ x) : s1.val x = 1 + x := by
  show (if (0 : Int) ≤ x then 1 + (x - 0) * 1 else 0) = 1 + x
  rw [if_pos h]; omega
theorem h1 {x : Int} (h : 0 ≤ x) : pkH f1 s7 1 x = if 13 ≤ x then 7 else if 10 ≤ x then 3 * (x - 10) else 0 := by
  unfold pkH pick
  rw [if_pos rfl, f1_val, s7_val h]
  split <;> split <;> omega
theorem ln_two (f : Lf) (i : Nat) (x : Int) : f.ln i (x + 1) = f.ln i x + f.R i := by
  rw [ln_from f i x (x + 1), show x + 1 - x = 1 by omega, Int.one_mul]
/-- the lesser one of both ends with the piece at 13 -/
theorem least_last {s : Lf} (H : Rep s 10000000001 (pkH f1 s7 1)) (G : ∀ i, i < s.n → Gs f1 s7 (s.F i) (s.V i) (s.R i)) : 3 ≤ s.n ∧ s.F (s.n - 1) = 13 ∧ s.V (s.n - 1) = 7 ∧ s.R (s.n - 1) = 0 := by
  have O := H.ord
  have n1 := O.n1
  have e0 := O.f0
  have hl : s.lst (s.n - 1) = 10000000000 := lst_out (by omega)
  have fb := O.fb (s.n - 1) (by omega)
  have L : ∀ x : Int, s.F (s.n - 1) ≤ x → x ≤ 10000000000 → s.ln (s.n - 1) x = pkH f1 s7 1 x := fun x p1 p2 => H.line (by omega) p1 (by rw [hl]; exact p2)
  -- above 13 each piece is 7
  have K : ∀ i, i < s.n → 13 ≤ s.F i → s.V i = 7 ∧ s.R i = 0 := fun i hi h13 => by
    have v := H.V_is hi
    rw [h1 (by omega), if_pos h13] at v
    refine ⟨v, ?_⟩
    rcases G i hi with ⟨a, b⟩ | ⟨a, b⟩
    · rw [f1_val, if_pos (by omega)] at a; omega
    · exact b
  have g13 : 13 ≤ s.F (s.n - 1) := by
    rcases Int.lt_or_le (s.F (s.n - 1)) 13 with h | h
    · have a := L 12 (by omega) (by omega)
      have b := L 13 (by omega) (by omega)
      have c := L 14 (by omega) (by omega)
      rw [h1 (by omega), if_neg (by omega), if_pos (by omega)] at a
      rw [h1 (by omega), if_pos (by omega)] at b c
      have d := ln_two s (s.n - 1) 12
      have e := ln_two s (s.n - 1) 13
      simp only [show (12 : Int) + 1 = 13 from rfl, show (13 : Int) + 1 = 14 from rfl] at d e
      omega
    · exact h
  have n2 : 2 ≤ s.n := by
    rcases Nat.lt_or_ge s.n 2 with h | h
    · have : s.n - 1 = 0 := by omega
      rw [this] at g13; omega
    · exact h
  obtain ⟨k1, k2⟩ := K (s.n - 1) (by omega) g13
  -- the piece ahead of the last one
  obtain ⟨p, hp⟩ : ∃ p, s.n = p + 2 := ⟨s.n - 2, by omega⟩
  have hp1 : s.n - 1 = p + 1 := by omega
  rw [hp1] at g13 k1 k2 fb L ⊢
  have up := O.up p (by omega)
  have fp := O.fb p (by omega)
  have hlp : s.lst p = s.F (p + 1) - 1 := lst_in (by omega)
  have P : ∀ x : Int, s.F p ≤ x → x ≤ s.F (p + 1) - 1 → s.ln p x = pkH f1 s7 1 x := fun x p1 p2 => H.line (by omega) p1 (by rw [hlp]; exact p2)
  have lt13 : s.F p < 13 := by
    rcases Int.lt_or_le (s.F p) 13 with h | h
    · exact h
    · exfalso
      obtain ⟨m1, m2⟩ := K p (by omega) h
      refine H.mg p (by omega) ⟨by omega, ?_⟩
      unfold ln
      rw [m1, m2, k1]; omega
  have f13 : s.F (p + 1) = 13 := by
    rcases Int.lt_or_le 13 (s.F (p + 1)) with h | h
    · exfalso
      have a := P 12 (by omega) (by omega)
      have b := P 13 (by omega) (by omega)
      rw [h1 (by omega), if_neg (by omega), if_pos (by omega)] at a
      rw [h1 (by omega), if_pos (by omega)] at b
      have d := ln_two s p 12
      simp only [show (12 : Int) + 1 = 13 from rfl] at d
      rcases G p (by omega) with ⟨_, r⟩ | ⟨_, r⟩
      · rcases f1_R (s.F p) with q | q <;> omega
      · have r' : s.R p = 0 := r
        omega
    · omega
  refine ⟨?_, f13, k1, k2⟩
  rcases Nat.eq_zero_or_pos p with h | h
  · exfalso
    subst h
    have a := P 0 (by omega) (by omega)
    have b := P 1 (by omega) (by omega)
    have c := P 12 (by omega) (by omega)
    rw [h1 (by omega), if_neg (by omega), if_neg (by omega)] at a b
    rw [h1 (by omega), if_neg (by omega), if_pos (by omega)] at c
    have d := ln_two s 0 0
    simp only [show (0 : Int) + 1 = 1 from rfl] at d
    have e := ln_from s 0 0 12
    have r0 : s.R 0 = 0 := by omega
    rw [r0] at e
    omega
  · omega
/-- one less the other -/
def h2 (x : Int) : Int := smH f1 s1 (-1) x
theorem h2_val {x : Int} (h : 0 ≤ x) : h2 x = (if 10 ≤ x then 3 * (x - 10) else 0) - (1 + x) := by
  unfold h2 smH
  rw [f1_val, s1_val h]; omega
theorem add_chk {s : Lf} (H : Rep s 10000000001 (smH f1 s1 (-1))) (G : ∀ i, i < s.n → Gr f1 s1 (-1) (s.R i)) (hn : s.n ≤ 256) : s.chk = 0 := by
  refine H.chk_ok (fun i hi => ?_) (fun x h0 hT => ?_) hn
  · obtain ⟨x, _, _, e⟩ := G i hi
    have e2 : s1.R (s1.idx x) = 1 := rfl
    rw [e, e2]
    rcases f1_R x with q | q <;> omega
  · have := h2_val h0
    show _ ≤ h2 x ∧ h2 x ≤ _
    rw [this]; split <;> omega
theorem add_falls {s : Lf} (H : Rep s 10000000001 (smH f1 s1 (-1))) : s.falB s.n = true := by
  have O := H.ord
  have n1 := O.n1
  have e0 := O.f0
  have v0 := H.V_is (i := 0) (by omega)
  rw [e0, show smH f1 s1 (-1) 0 = h2 0 from rfl, h2_val (by omega), if_neg (by omega)] at v0
  have lb := O.lst_bd (i := 0) (by omega)
  rcases Int.lt_or_le (s.F 0) (s.lst 0) with h | h
  · refine fal_stop (i := 0) (by omega) (.inl ⟨?_, h⟩)
    have a := H.line (i := 0) (by omega) (x := 1) (by omega) (by omega)
    rw [show smH f1 s1 (-1) 1 = h2 1 from rfl, h2_val (by omega), if_neg (by omega)] at a
    have d := ln_two s 0 0
    have e : s.ln 0 0 = s.V 0 := by rw [← e0]; exact ln_self s 0
    simp only [show (0 : Int) + 1 = 1 from rfl] at d
    omega
  · have h1 : 1 < s.n := by
      rcases Nat.lt_or_ge 1 s.n with h' | h'
      · exact h'
      · rw [lst_out (by omega)] at h; omega
    have hl : s.lst 0 = s.F 1 - 1 := lst_in (by omega)
    have hF : s.F 1 = 1 := by omega
    have v1 := H.V_is (i := 1) h1
    rw [hF, show smH f1 s1 (-1) 1 = h2 1 from rfl, h2_val (by omega), if_neg (by omega)] at v1
    refine fal_stop (i := 1) h1 (.inr ⟨by omega, ?_⟩)
    have e : s.ln 0 0 = s.V 0 := by rw [← e0]; exact ln_self s 0
    show s.V 1 < s.ln 0 (s.F 1 - 1)
    rw [hF, show (1 : Int) - 1 = 0 from rfl]
    omega
theorem f1_falls : f1.falB f1.n = false := by decide +kernel
theorem f1_idx9 : f1.idx 9 = 0 := by decide +kernel
theorem f1_idx10 : f1.idx 10 = 1 := by decide +kernel
end Lf
end Go.Proofs.Ytcldknmhmbpboaa
