/- Plain facts about fractions: which of two is less, told by products; lowest terms. No program in sight. -/
import Derived.Test.YthknjpmhomjobaaGreatDoorPlain
namespace Go.Proofs.YthknjpmhomjobaaGreatDoor
open Go.RowKit

/-- below, above or alike -/
def cmpI (a b : Int) : Int := if a < b then -1 else if b < a then 1 else 0
theorem cmpI_lt {a b : Int} (h : a < b) : cmpI a b = -1 := by simp [cmpI, h]
theorem cmpI_gt {a b : Int} (h : b < a) : cmpI a b = 1 := by
  have : ¬ a < b := by omega
  simp [cmpI, h, this]
theorem cmpI_eq (a : Int) : cmpI a a = 0 := by simp [cmpI]
theorem cmpI_cases (a b : Int) : (a < b ∧ cmpI a b = -1) ∨ (a = b ∧ cmpI a b = 0) ∨ (b < a ∧ cmpI a b = 1) := by
  rcases Int.lt_trichotomy a b with h | h | h
  · exact .inl ⟨h, cmpI_lt h⟩
  · subst h; exact .inr (.inl ⟨rfl, cmpI_eq a⟩)
  · exact .inr (.inr ⟨h, cmpI_gt h⟩)
theorem cmp_high {a b : Nat} (h : a / 18446744073709551616 ≠ b / 18446744073709551616) : cmpI ((a / 18446744073709551616 : Nat) : Int) ((b / 18446744073709551616 : Nat) : Int) = cmpI a b := by
  unfold cmpI
  split <;> split <;> (try split) <;> (try split) <;> first | rfl | (exfalso; omega)
theorem cmp_low {a b : Nat} (h : a / 18446744073709551616 = b / 18446744073709551616) : cmpI ((a % 18446744073709551616 : Nat) : Int) ((b % 18446744073709551616 : Nat) : Int) = cmpI a b := by
  unfold cmpI
  split <;> split <;> (try split) <;> (try split) <;> first | rfl | (exfalso; omega)
theorem cmpI_neg (a b : Int) : cmpI (-a) (-b) = -cmpI a b := by
  unfold cmpI
  split <;> split <;> (try split) <;> (try split) <;> first | rfl | (exfalso; omega)
theorem cmpI_swap (a b : Int) : cmpI b a = -cmpI a b := by
  unfold cmpI
  split <;> split <;> (try split) <;> (try split) <;> first | rfl | (exfalso; omega)

/-- n divided by d against m divided by c -/
def cmpF (n d m c : Int) : Int := cmpI (n * c) (m * d)
theorem cmpF_np {n d m c : Int} (hn : n < 0) (hm : 0 ≤ m) (hd : 0 < d) (hc : 0 < c) : cmpF n d m c = -1 := by
  have a := Int.mul_neg_of_neg_of_pos hn hc
  have b := Int.mul_nonneg hm (Int.le_of_lt hd)
  exact cmpI_lt (by omega)
theorem cmpF_pn {n d m c : Int} (hn : 0 ≤ n) (hm : m < 0) (hd : 0 < d) (hc : 0 < c) : cmpF n d m c = 1 := by
  have a := Int.mul_nonneg hn (Int.le_of_lt hc)
  have b := Int.mul_neg_of_neg_of_pos hm hd
  exact cmpI_gt (by omega)
theorem cmpF_pp {n m : Int} {d c : Nat} (hn : 0 ≤ n) (hm : 0 ≤ m) : cmpF n d m c = cmpI ((n.natAbs * c : Nat) : Int) ((m.natAbs * d : Nat) : Int) := by
  unfold cmpF
  rw [Int.natCast_mul, Int.natCast_mul, Int.natAbs_of_nonneg hn, Int.natAbs_of_nonneg hm]
theorem cmpF_nn {n m : Int} {d c : Nat} (hn : n < 0) (hm : m < 0) : cmpF n d m c = -cmpI ((n.natAbs * c : Nat) : Int) ((m.natAbs * d : Nat) : Int) := by
  unfold cmpF
  rw [← cmpI_neg, Int.natCast_mul, Int.natCast_mul, Int.ofNat_natAbs_of_nonpos (Int.le_of_lt hn), Int.ofNat_natAbs_of_nonpos (Int.le_of_lt hm), Int.neg_mul, Int.neg_mul, Int.neg_neg, Int.neg_neg]

/-- what divides both sides of a fraction most -/
def both (n d : Int) : Int := (Nat.gcd n.natAbs d.natAbs : Nat)
theorem both_pos {n d : Int} (hd : 0 < d) : 0 < both n d := by
  have : 0 < Nat.gcd n.natAbs d.natAbs := Nat.gcd_pos_of_pos_right _ (by omega)
  unfold both
  omega
theorem both_le {n d : Int} (hd : 0 < d) : both n d ≤ d := by
  have : Nat.gcd n.natAbs d.natAbs ≤ d.natAbs := Nat.gcd_le_right _ (by omega)
  unfold both
  omega
theorem both_left (n d : Int) : both n d ∣ n := Int.natAbs_dvd_natAbs.1 (show (both n d).natAbs ∣ n.natAbs from Nat.gcd_dvd_left _ _)
theorem both_right (n d : Int) : both n d ∣ d := Int.natAbs_dvd_natAbs.1 (show (both n d).natAbs ∣ d.natAbs from Nat.gcd_dvd_right _ _)
theorem low_pos {n d : Int} (hd : 0 < d) : 1 ≤ d / both n d := by
  have hb := both_pos (n := n) hd
  have he := Int.ediv_mul_cancel (both_right n d)
  rcases Int.lt_or_le (d / both n d) 1 with h | h
  · have := Int.mul_nonpos_of_nonpos_of_nonneg (show d / both n d ≤ 0 by omega) (Int.le_of_lt hb)
    omega
  · exact h
/-- a fraction and its lowest terms are alike -/
theorem low_same {n d : Int} (_hd : 0 < d) : cmpF (n / both n d) (d / both n d) n d = 0 := by
  have h1 := Int.ediv_mul_cancel (both_left n d)
  have h2 := Int.ediv_mul_cancel (both_right n d)
  unfold cmpF
  generalize n / both n d = a at *
  generalize d / both n d = b at *
  generalize both n d = g at *
  subst h1 h2
  have : a * (b * g) = a * g * b := by rw [Int.mul_assoc, Int.mul_comm g b]
  rw [this]
  exact cmpI_eq _
theorem low_coprime {n d : Int} (hd : 0 < d) : Nat.gcd (n / both n d).natAbs (d / both n d).natAbs = 1 := by
  have hg : 0 < Nat.gcd n.natAbs d.natAbs := Nat.gcd_pos_of_pos_right _ (by omega)
  have e1 : (n / both n d).natAbs = n.natAbs / Nat.gcd n.natAbs d.natAbs := by
    have h := Int.ediv_mul_cancel (both_left n d)
    have h' : (n / both n d).natAbs * Nat.gcd n.natAbs d.natAbs = n.natAbs := by
      conv => rhs; rw [← h]
      rw [Int.natAbs_mul]; rfl
    exact (Nat.div_eq_of_eq_mul_left hg h'.symm).symm
  have e2 : (d / both n d).natAbs = d.natAbs / Nat.gcd n.natAbs d.natAbs := by
    have h := Int.ediv_mul_cancel (both_right n d)
    have h' : (d / both n d).natAbs * Nat.gcd n.natAbs d.natAbs = d.natAbs := by
      conv => rhs; rw [← h]
      rw [Int.natAbs_mul]; rfl
    exact (Nat.div_eq_of_eq_mul_left hg h'.symm).symm
  rw [e1, e2]
  exact Nat.coprime_div_gcd_div_gcd hg
/-- lowest terms tell whether two fractions are alike -/
theorem low_iff {n d m c : Int} (hd : 0 < d) (hc : 0 < c) : cmpF n d m c = 0 ↔ (n / both n d = m / both m c ∧ d / both n d = c / both m c) := by
  have h1 := Int.ediv_mul_cancel (both_left n d)
  have h2 := Int.ediv_mul_cancel (both_right n d)
  have h3 := Int.ediv_mul_cancel (both_left m c)
  have h4 := Int.ediv_mul_cancel (both_right m c)
  have p1 := both_pos (n := n) hd
  have p2 := both_pos (n := m) hc
  have q1 := low_coprime (n := n) hd
  have q2 := low_coprime (n := m) hc
  have l1 := low_pos (n := n) hd
  have l2 := low_pos (n := m) hc
  have hz : cmpF n d m c = 0 ↔ n * c = m * d := by
    unfold cmpF
    rcases cmpI_cases (n * c) (m * d) with ⟨h, e⟩ | ⟨h, e⟩ | ⟨h, e⟩ <;> rw [e] <;> omega
  rw [hz]
  generalize n / both n d = n' at *
  generalize d / both n d = d' at *
  generalize m / both m c = m' at *
  generalize c / both m c = c' at *
  generalize both n d = g at *
  generalize both m c = k at *
  subst h1 h2 h3 h4
  constructor
  · intro h
    have hgk : g * k ≠ 0 := Int.mul_ne_zero (by omega) (by omega)
    have h' : n' * c' = m' * d' := by
      have e : (n' * c') * (g * k) = (m' * d') * (g * k) := by
        have a1 : (n' * c') * (g * k) = n' * g * (c' * k) := by
          rw [Int.mul_assoc, Int.mul_assoc, ← Int.mul_assoc c' g k, Int.mul_comm c' g, Int.mul_assoc]
        have a2 : (m' * d') * (g * k) = m' * k * (d' * g) := by
          rw [Int.mul_comm g k, Int.mul_assoc, Int.mul_assoc, ← Int.mul_assoc d' k g, Int.mul_comm d' k, Int.mul_assoc]
        rw [a1, a2, h]
      exact Int.eq_of_mul_eq_mul_right hgk e
    have hn : n'.natAbs * c'.natAbs = m'.natAbs * d'.natAbs := by
      rw [← Int.natAbs_mul, ← Int.natAbs_mul, h']
    have t1 : d'.natAbs ∣ c'.natAbs := Nat.Coprime.dvd_of_dvd_mul_left (Nat.Coprime.symm q1) ⟨m'.natAbs, by rw [hn, Nat.mul_comm]⟩
    have t2 : c'.natAbs ∣ d'.natAbs := Nat.Coprime.dvd_of_dvd_mul_left (Nat.Coprime.symm q2) ⟨n'.natAbs, by rw [← hn, Nat.mul_comm]⟩
    have t3 := Nat.dvd_antisymm t1 t2
    have t4 : d' = c' := by omega
    subst t4
    exact ⟨Int.eq_of_mul_eq_mul_right (by omega) h', rfl⟩
  · rintro ⟨rfl, rfl⟩
    rw [Int.mul_assoc, Int.mul_assoc, ← Int.mul_assoc g, Int.mul_comm g d', ← Int.mul_assoc k, Int.mul_comm k d', Int.mul_assoc, Int.mul_assoc, Int.mul_comm g k]
/-- what is less than what is less than a third is less than that -/
theorem cmpF_trans {n d m c p q : Int} (hd : 0 < d) (hc : 0 < c) (hq : 0 < q) (h1 : cmpF n d m c < 0) (h2 : cmpF m c p q < 0) : cmpF n d p q < 0 := by
  have e1 : n * c < m * d := by
    unfold cmpF at h1
    rcases cmpI_cases (n * c) (m * d) with ⟨h, e⟩ | ⟨h, e⟩ | ⟨h, e⟩ <;> omega
  have e2 : m * q < p * c := by
    unfold cmpF at h2
    rcases cmpI_cases (m * q) (p * c) with ⟨h, e⟩ | ⟨h, e⟩ | ⟨h, e⟩ <;> omega
  have a1 := Int.mul_lt_mul_of_pos_right e1 hq
  have a2 := Int.mul_lt_mul_of_pos_right e2 hd
  have s : m * d * q = m * q * d := by rw [Int.mul_assoc, Int.mul_comm d q, Int.mul_assoc]
  have s1 : n * c * q = n * q * c := by rw [Int.mul_assoc, Int.mul_comm c q, Int.mul_assoc]
  have s2 : p * c * d = p * d * c := by rw [Int.mul_assoc, Int.mul_comm c d, Int.mul_assoc]
  have a3 : n * q * c < p * d * c := by omega
  have a4 : n * q < p * d := Int.lt_of_mul_lt_mul_right a3 (by omega)
  unfold cmpF
  rw [cmpI_lt a4]
  omega
end Go.Proofs.YthknjpmhomjobaaGreatDoor
