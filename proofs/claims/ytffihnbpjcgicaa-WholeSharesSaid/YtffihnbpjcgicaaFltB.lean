/- Plain facts about whole numbers as doubles: order, sums, differences, and back to numbers: no program in sight. -/
import Derived.Test.YtffihnbpjcgicaaFlt
namespace Go.Proofs.Ytffihnbpjcgicaa
open Ieee

def IsD (d : Datum) (n : Int) : Prop := ∃ (s : Bool) (m : Nat) (e : Int), d = .number s m e ∧ (e ≤ 0 → m = n.natAbs * 2 ^ (-e).toNat) ∧ (0 ≤ e → n.natAbs = m * 2 ^ e.toNat) ∧ (n ≠ 0 → s = decide (n < 0))
theorem is_d {b : Nat} {n : Int} (h : Is b n) : IsD (double.read b) n := h
theorem isd_opp {d : Datum} {n : Int} (h : IsD d n) : IsD d.opposite (-n) := by
  obtain ⟨s, m, e, rfl, h1, h2, h3⟩ := h
  refine ⟨!s, m, e, rfl, by rw [Int.natAbs_neg]; exact h1, by rw [Int.natAbs_neg]; exact h2, fun hn => ?_⟩
  rw [h3 (by omega)]
  by_cases hlt : n < 0
  · rw [decide_eq_true hlt, decide_eq_false (by omega)]; rfl
  · rw [decide_eq_false hlt, decide_eq_true (by omega)]; rfl
theorem two_pow_toNat {a b c : Nat} (h : a + b = c) : 2 ^ a * 2 ^ b = 2 ^ c := by rw [← Nat.pow_add, h]
theorem pos_cast (t : Nat) : (0 : Int) < ((2 ^ t : Nat) : Int) := by have := two_pos t; omega
theorem signed_scale {s : Bool} {m : Nat} {e base n : Int} (h1 : e ≤ 0 → m = n.natAbs * 2 ^ (-e).toNat) (h2 : 0 ≤ e → n.natAbs = m * 2 ^ e.toNat) (h3 : n ≠ 0 → s = decide (n < 0)) (hb : base ≤ e) :
    signed s m (e - base).toNat * ((2 ^ base.toNat : Nat) : Int) = n * ((2 ^ (-base).toNat : Nat) : Int) := by
  have hm : m * 2 ^ (e - base).toNat * 2 ^ base.toNat = n.natAbs * 2 ^ (-base).toNat := by
    by_cases he : e ≤ 0
    · rw [h1 he, show base.toNat = 0 by omega, Nat.pow_zero, Nat.mul_one, Nat.mul_assoc, two_pow_toNat (show (-e).toNat + (e - base).toNat = (-base).toNat by omega)]
    · rw [h2 (by omega)]
      by_cases hb0 : base ≤ 0
      · rw [show base.toNat = 0 by omega, Nat.pow_zero, Nat.mul_one, Nat.mul_assoc, two_pow_toNat (show e.toNat + (-base).toNat = (e - base).toNat by omega)]
      · rw [show (-base).toNat = 0 by omega, Nat.pow_zero, Nat.mul_one, Nat.mul_assoc, two_pow_toNat (show (e - base).toNat + base.toNat = e.toNat by omega)]
  unfold signed
  rw [Nat.shiftLeft_eq]
  generalize m * 2 ^ (e - base).toNat = u at *
  have hmi : (u : Int) * ((2 ^ base.toNat : Nat) : Int) = (n.natAbs : Int) * ((2 ^ (-base).toNat : Nat) : Int) := by exact_mod_cast hm
  generalize ((2 ^ base.toNat : Nat) : Int) = Q at *
  generalize ((2 ^ (-base).toNat : Nat) : Int) = P at *
  by_cases hn : n = 0
  · subst hn
    simp only [Int.natAbs_zero, Int.ofNat_zero, Int.zero_mul] at hmi ⊢
    split
    · rw [Int.neg_mul, hmi]; rfl
    · exact hmi
  · rw [h3 hn]
    by_cases hlt : n < 0
    · rw [decide_eq_true hlt, if_pos rfl, Int.neg_mul, hmi, ← Int.neg_mul]
      congr 1
      omega
    · rw [decide_eq_false hlt, if_neg (by simp), hmi]
      congr 1
      omega
theorem cmp_scale {u v a b Q P : Int} (hQ : 0 < Q) (hP : 0 < P) (hu : u * Q = a * P) (hv : v * Q = b * P) : compare u v = compare a b := by
  rcases Int.lt_trichotomy a b with h | h | h
  · have h1 : a * P < b * P := Int.mul_lt_mul_of_pos_right h hP
    rw [← hu, ← hv] at h1
    rw [Int.compare_eq_lt.2 h, Int.compare_eq_lt.2 (Int.lt_of_mul_lt_mul_right h1 (Int.le_of_lt hQ))]
  · subst h
    have h1 : u = v := Int.eq_of_mul_eq_mul_right (by omega) (hu.trans hv.symm)
    subst h1
    simp
  · have h1 : b * P < a * P := Int.mul_lt_mul_of_pos_right h hP
    rw [← hu, ← hv] at h1
    rw [Int.compare_eq_gt.2 h, Int.compare_eq_gt.2 (Int.lt_of_mul_lt_mul_right h1 (Int.le_of_lt hQ))]
/-- how two whole numbers stand to each other as doubles is how they do -/
theorem order_is {x y : Nat} {a b : Int} (hx : Is x a) (hy : Is y b) : double.order x y = some (compare a b) := by
  obtain ⟨s, m, i, rx, p1, p2, p3⟩ := hx
  obtain ⟨t, k, j, ry, q1, q2, q3⟩ := hy
  unfold Format.order
  rw [rx, ry]
  show some (compare (signed s m (i - min i j).toNat) (signed t k (j - min i j).toNat)) = _
  congr 1
  exact cmp_scale (pos_cast _) (pos_cast _) (signed_scale p1 p2 p3 (by omega)) (signed_scale q1 q2 q3 (by omega))
/-- what is known of a sum's double -/
def SumP (c n : Int) : Prop := (c.natAbs ≤ 9007199254740992 → n = c) ∧ (9007199254740992 < c.natAbs → (n < 0 ↔ c < 0) ∧ ((c.natAbs = 9007199254740993 ∧ n.natAbs = 9007199254740992) ∨ 9007199254740992 < n.natAbs))
theorem sum_d {d1 d2 : Datum} {a b : Int} (h1 : IsD d1 a) (h2 : IsD d2 b) (ha : a.natAbs ≤ 9007199254740992) (hb : b.natAbs ≤ 9007199254740992) :
    ∃ r n, (d1.sum d2).map double.write = some r ∧ Is r n ∧ SumP (a + b) n := by
  obtain ⟨s, m, i, rfl, p1, p2, p3⟩ := h1
  obtain ⟨t, k, j, rfl, q1, q2, q3⟩ := h2
  have e1 := signed_scale (base := min i j) p1 p2 p3 (by omega)
  have e2 := signed_scale (base := min i j) q1 q2 q3 (by omega)
  show ∃ r n, some (double.nearest (if signed s m (i - min i j).toNat + signed t k (j - min i j).toNat = 0 then s && t else decide (signed s m (i - min i j).toNat + signed t k (j - min i j).toNat < 0)) (signed s m (i - min i j).toNat + signed t k (j - min i j).toNat).natAbs (min i j)) = some r ∧ _
  have e3 : (signed s m (i - min i j).toNat + signed t k (j - min i j).toNat) * ((2 ^ (min i j).toNat : Nat) : Int) = (a + b) * ((2 ^ (-min i j).toNat : Nat) : Int) := by
    rw [Int.add_mul, Int.add_mul, e1, e2]
  generalize signed s m (i - min i j).toNat + signed t k (j - min i j).toNat = tot at *
  generalize min i j = base at *
  clear e1 e2 p1 p2 p3 q1 q2 q3
  have hc : (a + b).natAbs ≤ 18014398509481984 := by omega
  generalize a + b = c at *
  have hP := pos_cast (-base).toNat
  have hQ := pos_cast base.toNat
  by_cases h0 : tot = 0
  · have hc0 : c = 0 := by
      rw [h0, Int.zero_mul] at e3
      rcases Int.mul_eq_zero.1 e3.symm with h | h
      · exact h
      · omega
    subst h0 hc0
    refine ⟨_, 0, rfl, ?_, fun _ => rfl, fun h => by simp at h⟩
    rw [if_pos rfl]
    unfold Format.nearest
    rw [if_pos (by simp)]
    exact is_zero _
  · have hcs : (tot < 0 ↔ c < 0) := by
      constructor
      · intro h
        have h1 := Int.mul_neg_of_neg_of_pos h hQ
        rw [e3] at h1
        rcases Int.lt_or_le c 0 with h2 | h2
        · exact h2
        · have := Int.mul_nonneg h2 (Int.le_of_lt hP); omega
      · intro h
        have h1 := Int.mul_neg_of_neg_of_pos h hP
        rw [← e3] at h1
        rcases Int.lt_or_le tot 0 with h2 | h2
        · exact h2
        · have := Int.mul_nonneg h2 (Int.le_of_lt hQ); omega
    have hc0 : c ≠ 0 := by
      intro h
      rw [h, Int.zero_mul] at e3
      rcases Int.mul_eq_zero.1 e3 with h' | h' <;> omega
    have e4 : tot.natAbs * 2 ^ base.toNat = c.natAbs * 2 ^ (-base).toNat := by
      have := congrArg Int.natAbs e3
      rw [Int.natAbs_mul, Int.natAbs_mul, Int.natAbs_natCast, Int.natAbs_natCast] at this
      exact this
    have e5 : double.nearest (decide (tot < 0)) tot.natAbs base = double.nearest (decide (tot < 0)) c.natAbs 0 := by
      by_cases hb0 : base ≤ 0
      · rw [show base.toNat = 0 by omega, Nat.pow_zero, Nat.mul_one] at e4
        rw [e4, nearest_shift]
        congr 1
        omega
      · rw [show (-base).toNat = 0 by omega, Nat.pow_zero, Nat.mul_one] at e4
        rw [← e4, nearest_shift]
        congr 1
        omega
    obtain ⟨r, hr, h3, h4⟩ := near_is (decide (tot < 0)) c.natAbs c rfl (by omega) (by simp [hcs]) hc
    refine ⟨_, r, rfl, ?_, h3, h4⟩
    rw [if_neg h0, e5]
    exact hr
theorem add_is {x y : Nat} {a b : Int} (hx : Is x a) (hy : Is y b) (ha : a.natAbs ≤ 9007199254740992) (hb : b.natAbs ≤ 9007199254740992) : ∃ r n, double.add x y = some r ∧ Is r n ∧ SumP (a + b) n := sum_d (is_d hx) (is_d hy) ha hb
theorem sub_is {x y : Nat} {a b : Int} (hx : Is x a) (hy : Is y b) (ha : a.natAbs ≤ 9007199254740992) (hb : b.natAbs ≤ 9007199254740992) : ∃ r n, double.sub x y = some r ∧ Is r n ∧ SumP (a - b) n := by
  have := sum_d (is_d hx) (isd_opp (is_d hy)) ha (by rw [Int.natAbs_neg]; exact hb)
  rwa [← Int.sub_eq_add_neg] at this
/-- without what is behind the point: what it was -/
theorem integral_is {b : Nat} {n : Int} (h : Is b n) : ∃ s, (double.read b).integral .zero = .number s n.natAbs 0 ∧ (n ≠ 0 → s = decide (n < 0)) := by
  obtain ⟨s, m, e, r, h1, h2, h3⟩ := h
  refine ⟨s, ?_, h3⟩
  rw [r]
  show Datum.number s (Toward.zero.cut s (m <<< e.toNat) (-e).toNat) 0 = _
  congr 1
  rw [Nat.shiftLeft_eq]
  by_cases he : e ≤ 0
  · rw [show e.toNat = 0 by omega, Nat.pow_zero, Nat.mul_one, h1 he]
    exact cut_whole .zero s _ _
  · rw [show (-e).toNat = 0 by omega, h2 (by omega)]
    have := cut_whole .zero s (m * 2 ^ e.toNat) 0
    rwa [Nat.pow_zero, Nat.mul_one] at this
theorem toint_is {b : Nat} {n : Int} (h : Is b n) : (double.read b).toInt .zero = some n := by
  obtain ⟨s, h1, h2⟩ := integral_is h
  unfold Datum.toInt
  rw [h1]
  show some (signed s n.natAbs 0) = some n
  congr 1
  unfold signed
  simp only [Nat.shiftLeft_zero]
  by_cases hn : n = 0
  · subst hn; split <;> rfl
  · rw [h2 hn]
    by_cases hlt : n < 0
    · rw [decide_eq_true hlt, if_pos rfl]; omega
    · rw [decide_eq_false hlt, if_neg (by simp)]; omega
theorem near_zero (s : Bool) (p : Int) : double.nearest s 0 p = double.word s 0 := by
  unfold Format.nearest
  rw [if_pos rfl]
theorem whole_is (n : Int) (s : Bool) (hs : n ≠ 0 → s = decide (n < 0)) (h : n.natAbs ≤ 9007199254740992) : Is (double.nearest s n.natAbs 0) n := by
  by_cases hn : n = 0
  · subst hn
    show Is (double.nearest s 0 0) 0
    rw [near_zero]
    exact is_zero s
  · obtain ⟨r, h1, h2, _⟩ := near_is s n.natAbs n rfl (by omega) (hs hn) (by omega)
    rw [h2 h] at h1
    exact h1
theorem trunc_is {b : Nat} {n : Int} (h : Is b n) (hn : n.natAbs ≤ 9007199254740992) : Is (double.write ((double.read b).integral .zero)) n := by
  obtain ⟨s, h1, h2⟩ := integral_is h
  rw [h1]
  exact whole_is n s h2 hn
theorem of_is (n : Int) (h : n.natAbs ≤ 9007199254740992) : Is (floatOfInt .f64 n) n := whole_is n _ (fun _ => rfl) h
theorem most_is : Is 4845873199050653696 9007199254740992 := ⟨false, 4503599627370496, 1, rfl, fun h => by omega, fun _ => rfl, fun _ => rfl⟩
theorem least_is : Is 14069245235905429504 (-9007199254740992) := ⟨true, 4503599627370496, 1, rfl, fun h => by omega, fun _ => rfl, fun _ => rfl⟩
end Go.Proofs.Ytffihnbpjcgicaa
