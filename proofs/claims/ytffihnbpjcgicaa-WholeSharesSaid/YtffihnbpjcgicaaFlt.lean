/- Plain facts about whole numbers as doubles: which words they are, how they stand to each other, what they come to together, and what is left without what is behind the point: no program in sight. -/
import Derived.Laws.ComplexArith
import Derived.Laws.Cover3
namespace Go.Proofs.Ytffihnbpjcgicaa
open Ieee

/-- a word that is a whole number -/
def Is (b : Nat) (n : Int) : Prop := ∃ (s : Bool) (m : Nat) (e : Int), double.read b = .number s m e ∧ (e ≤ 0 → m = n.natAbs * 2 ^ (-e).toNat) ∧ (0 ≤ e → n.natAbs = m * 2 ^ e.toNat) ∧ (n ≠ 0 → s = decide (n < 0))

theorem two_pos (t : Nat) : 0 < 2 ^ t := Nat.two_pow_pos t
theorem log2_mul {m : Nat} (hm : 0 < m) (t : Nat) : (m * 2 ^ t).log2 = m.log2 + t := by
  have h0 : m * 2 ^ t ≠ 0 := Nat.ne_of_gt (Nat.mul_pos hm (two_pos t))
  have hl : m.log2 = m.log2 := rfl
  rw [Nat.log2_eq_iff (by omega)] at hl
  rw [Nat.log2_eq_iff h0]
  constructor
  · rw [Nat.pow_add]; exact Nat.mul_le_mul_right _ hl.1
  · rw [show m.log2 + t + 1 = m.log2 + 1 + t by omega, Nat.pow_add]; exact Nat.mul_lt_mul_of_pos_right hl.2 (two_pos t)
theorem gap_eq (d l : Nat) : 1 <<< min d l = 2 ^ min d l := by rw [Nat.one_shiftLeft]
theorem cut_whole (way : Toward) (s : Bool) (m d : Nat) : way.cut s (m * 2 ^ d) d = m := by
  rcases Nat.eq_zero_or_pos m with rfl | hm
  · cases way <;> simp [Toward.cut]
  · have hl := log2_mul hm d
    have hg : min d ((m * 2 ^ d).log2 + 2) = d := by omega
    unfold Toward.cut
    simp only [hg, Nat.one_shiftLeft]
    rw [Nat.mul_div_cancel _ (two_pos d), Nat.mul_mod_left]
    have := two_pos d
    cases way <;> simp <;> omega
theorem cut_scale (s : Bool) {m : Nat} (hm : 0 < m) (t d : Nat) : Toward.even.cut s (m * 2 ^ t) (d + t) = Toward.even.cut s m d := by
  unfold Toward.cut
  simp only [gap_eq, log2_mul hm]
  rw [show min (d + t) (m.log2 + t + 2) = min d (m.log2 + 2) + t by omega, Nat.pow_add]
  generalize 2 ^ min d (m.log2 + 2) = g
  have ht := two_pos t
  generalize 2 ^ t = u at *
  rw [Nat.mul_div_mul_right _ _ ht, Nat.mul_mod_mul_right]
  have e1 : (g * u < 2 * (m % g * u)) ↔ g < 2 * (m % g) := by
    rw [← Nat.mul_assoc]; exact Nat.mul_lt_mul_right ht
  have e2 : (g * u = 2 * (m % g * u)) ↔ g = 2 * (m % g) := by
    rw [← Nat.mul_assoc]; exact ⟨fun h => Nat.eq_of_mul_eq_mul_right ht h, fun h => by rw [← h]⟩
  simp only [e1, Bool.beq_eq_decide_eq, e2]
/-- a number told by another place is the same word -/
theorem nearest_shift (s : Bool) (m t : Nat) (p : Int) : double.nearest s (m * 2 ^ t) p = double.nearest s m (p + t) := by
  unfold Format.nearest
  rcases Nat.eq_zero_or_pos m with rfl | hm
  · simp
  · have h0 : m * 2 ^ t ≠ 0 := Nat.ne_of_gt (Nat.mul_pos hm (two_pos t))
    rw [if_neg h0, if_neg (by omega)]
    simp only [log2_mul hm]
    rw [show p + ((m.log2 + t : Nat) : Int) - (double.fractionBits : Nat) = p + (t : Int) + (m.log2 : Int) - (double.fractionBits : Nat) by omega]
    generalize max (p + (t : Int) + (m.log2 : Int) - (double.fractionBits : Nat)) double.leastPlace = last
    have key : Toward.even.cut s ((m * 2 ^ t) <<< (p - last).toNat) (last - p).toNat = Toward.even.cut s (m <<< (p + (t : Int) - last).toNat) (last - (p + (t : Int))).toNat := by
      simp only [Nat.shiftLeft_eq]
      by_cases h1 : last ≤ p
      · rw [show (last - p).toNat = 0 by omega, show (last - (p + (t : Int))).toNat = 0 by omega, show (p + (t : Int) - last).toNat = t + (p - last).toNat by omega, Nat.pow_add, ← Nat.mul_assoc]
      · by_cases h2 : p + (t : Int) ≤ last
        · rw [show (p - last).toNat = 0 by omega, show (p + (t : Int) - last).toNat = 0 by omega, show (last - p).toNat = (last - (p + (t : Int))).toNat + t by omega]
          simp only [Nat.pow_zero, Nat.mul_one]
          exact cut_scale s hm t _
        · rw [show (p - last).toNat = 0 by omega, show (last - (p + (t : Int))).toNat = 0 by omega]
          have e : t = (p + (t : Int) - last).toNat + (last - p).toNat := by omega
          have h3 := cut_whole .even s (m * 2 ^ (p + (t : Int) - last).toNat) (last - p).toNat
          have h4 := cut_whole .even s (m * 2 ^ (p + (t : Int) - last).toNat) 0
          simp only [Nat.pow_zero, Nat.mul_one] at h4 ⊢
          rw [h4, ← h3, Nat.mul_assoc, ← Nat.pow_add, ← e]
    rw [key]
theorem read_word (s : Bool) (rung : Nat) (h1 : 4503599627370496 ≤ rung) (h2 : rung < 9218868437227405312) :
    double.read (double.word s rung) = .number s (4503599627370496 + rung % 4503599627370496) (-1074 + ((rung / 4503599627370496 - 1 : Nat) : Int)) := by
  have e1 : double.signWeight = 9223372036854775808 := rfl
  have e2 : double.binade = 4503599627370496 := rfl
  have e3 : double.infRung = 9218868437227405312 := rfl
  have e4 : double.leastPlace = -1074 := rfl
  unfold Format.read Format.word
  simp only [e1, e2, e3, e4]
  cases s
  · simp only [Bool.false_eq_true, if_false]
    rw [show rung % 9223372036854775808 = rung by omega, if_neg (by omega), if_pos h2, show (rung / 9223372036854775808 % 2 == 1) = false by simp; omega]
  · simp only [if_true]
    rw [show (9223372036854775808 + rung) % 9223372036854775808 = rung by omega, if_neg (by omega), if_pos h2, show ((9223372036854775808 + rung) / 9223372036854775808 % 2 == 1) = true by simp; omega]
theorem read_zero (s : Bool) : double.read (double.word s 0) = .number s 0 (-1074) := by
  cases s <;> rfl
/-- the word of a whole number -/
def wd (n : Int) : Nat := double.nearest (decide (n < 0)) n.natAbs 0
theorem zero_any (t : Nat) : (0 : Nat) = (0 : Int).natAbs * 2 ^ t := by simp
theorem is_norm (s : Bool) (x k rung : Nat) (n : Int) (hr : rung = x * 4503599627370496 + k) (h1 : 4503599627370496 ≤ k) (h2 : k < 9007199254740992) (hx : x ≤ 1100)
    (ha : (x : Int) - 1074 ≤ 0 → k = n.natAbs * 2 ^ (-((x : Int) - 1074)).toNat) (hb : 0 ≤ (x : Int) - 1074 → n.natAbs = k * 2 ^ ((x : Int) - 1074).toNat) (hs : n ≠ 0 → s = decide (n < 0)) : Is (double.word s (min rung 9218868437227405312)) n := by
  have hm : min rung 9218868437227405312 = rung := Nat.min_eq_left (by omega)
  rw [hm]
  refine ⟨s, k, (x : Int) - 1074, ?_, ha, hb, hs⟩
  rw [read_word s rung (by omega) (by omega)]
  have q1 : 4503599627370496 + rung % 4503599627370496 = k := by omega
  have q2 : (-1074 : Int) + ((rung / 4503599627370496 - 1 : Nat) : Int) = (x : Int) - 1074 := by omega
  rw [q1, q2]
theorem is_zero (s : Bool) : Is (double.word s 0) 0 := ⟨s, 0, -1074, read_zero s, fun _ => zero_any _, fun h => by omega, fun h => absurd rfl h⟩
/-- what a whole number up to 2^54 is rounded to, as a double -/
theorem near_is (s : Bool) (N : Nat) (n : Int) (hn : n.natAbs = N) (h0 : 0 < N) (hs : s = decide (n < 0)) (h : N ≤ 18014398509481984) :
    ∃ r : Int, Is (double.nearest s N 0) r ∧ (N ≤ 9007199254740992 → r = n) ∧ (9007199254740992 < N → (r < 0 ↔ n < 0) ∧ ((N = 9007199254740993 ∧ r.natAbs = 9007199254740992) ∨ 9007199254740992 < r.natAbs)) := by
  have hl : N.log2 = N.log2 := rfl
  rw [Nat.log2_eq_iff (by omega)] at hl
  have e2 : double.binade = 4503599627370496 := rfl
  have e3 : double.infRung = 9218868437227405312 := rfl
  have e4 : double.leastPlace = -1074 := rfl
  have e5 : double.fractionBits = 52 := rfl
  have hL : N.log2 ≤ 54 := by
    have : N.log2 < 55 := (Nat.log2_lt (by omega)).2 (by omega)
    omega
  have ev : double.nearest s N 0 = double.word s (min (((max ((N.log2 : Int) - 52) (-1074)) - -1074).toNat * 4503599627370496 + Toward.even.cut s (N <<< (0 - (max ((N.log2 : Int) - 52) (-1074))).toNat) ((max ((N.log2 : Int) - 52) (-1074)) - 0).toNat) 9218868437227405312) := by
    unfold Format.nearest
    rw [if_neg (by omega)]
    simp only [e2, e3, e4, e5, Int.zero_add]
    rfl
  rw [show max ((N.log2 : Int) - 52) (-1074) = (N.log2 : Int) - 52 by omega] at ev
  rw [ev, Nat.shiftLeft_eq]
  clear ev
  generalize N.log2 = L at *
  by_cases h1 : N < 9007199254740992
  · have hL2 : L ≤ 52 := by
      rcases Nat.lt_or_ge L 53 with h | h
      · omega
      · have : 2 ^ 53 ≤ 2 ^ L := Nat.pow_le_pow_right (by omega) h
        omega
    have hc := cut_whole .even s (N * 2 ^ (52 - L)) 0
    simp only [Nat.pow_zero, Nat.mul_one] at hc
    have k1 : 4503599627370496 ≤ N * 2 ^ (52 - L) := by
      have : 2 ^ L * 2 ^ (52 - L) ≤ N * 2 ^ (52 - L) := Nat.mul_le_mul_right _ hl.1
      rw [← Nat.pow_add, show L + (52 - L) = 52 by omega] at this
      omega
    have k2 : N * 2 ^ (52 - L) < 9007199254740992 := by
      have : N * 2 ^ (52 - L) < 2 ^ (L + 1) * 2 ^ (52 - L) := Nat.mul_lt_mul_of_pos_right hl.2 (two_pos _)
      rw [← Nat.pow_add, show L + 1 + (52 - L) = 53 by omega] at this
      omega
    rw [show (0 - ((L : Int) - 52)).toNat = 52 - L by omega, show ((L : Int) - 52 - 0).toNat = 0 by omega, show ((L : Int) - 52 - -1074).toNat = L + 1022 by omega, hc]
    have hN : L = 52 → N * 2 ^ (52 - L) = N := fun e => by subst e; simp
    have hD : (-((L : Int) - 52)).toNat = 52 - L := by omega
    rw [← hD] at k1 k2 hN ⊢
    generalize hk : N * 2 ^ (-((L : Int) - 52)).toNat = k at *
    refine ⟨n, ?_, fun _ => rfl, fun h => by omega⟩
    have hx : ((L + 1022 : Nat) : Int) - 1074 = (L : Int) - 52 := by omega
    refine is_norm s (L + 1022) k _ n rfl k1 k2 (by omega) (fun _ => by rw [hx, hn]; exact hk.symm) (fun he => ?_) (fun _ => hs)
    have he2 : L = 52 := by omega
    rw [hx, hn, hN he2]
    subst he2
    simp
  · by_cases h2 : N < 18014398509481984
    · have hL2 : L = 53 := by
        rcases Nat.lt_trichotomy L 53 with h | h | h
        · have : 2 ^ (L + 1) ≤ 2 ^ 53 := Nat.pow_le_pow_right (by omega) (by omega)
          omega
        · exact h
        · have : 2 ^ 54 ≤ 2 ^ L := Nat.pow_le_pow_right (by omega) (by omega)
          omega
      subst hL2
      clear hl hL
      have hc : ∃ K, Toward.even.cut s N 1 = K ∧ 4503599627370496 ≤ K ∧ K ≤ 9007199254740992 ∧ (N = 9007199254740992 ∨ N = 9007199254740993 → K = 4503599627370496) ∧ (9007199254740994 ≤ N → 4503599627370497 ≤ K) := by
        refine ⟨_, rfl, ?_⟩
        have hlog : N.log2 = 53 := (Nat.log2_eq_iff (by omega)).2 ⟨by omega, by omega⟩
        unfold Toward.cut
        rw [hlog]
        have h12 : (1 : Nat) <<< min 1 (53 + 2) = 2 := by decide
        simp only [h12]
        have b1 : (decide (2 < 2 * (N % 2)) || (2 == 2 * (N % 2)) && (N / 2 % 2 == 1)).toNat = if N % 2 = 1 ∧ N / 2 % 2 = 1 then 1 else 0 := by
          have h01 : N % 2 = 0 ∨ N % 2 = 1 := by omega
          have h02 : N / 2 % 2 = 0 ∨ N / 2 % 2 = 1 := by omega
          rcases h01 with h | h <;> rcases h02 with h' | h' <;> simp [h, h']
        rw [b1]
        split <;> omega
      obtain ⟨K, hK, hK1, hK2, hK3, hK4⟩ := hc
      have hz : N * 2 ^ (0 - (((53 : Nat) : Int) - 52)).toNat = N := by simp
      rw [hz, show ((((53 : Nat) : Int) - 52) - 0).toNat = 1 by omega, show ((((53 : Nat) : Int) - 52) - -1074).toNat = 1075 by omega, hK]
      have hsn : ∀ r : Int, r.natAbs = 2 * K → (r < 0 ↔ n < 0) → Is (double.word s (min (1075 * 4503599627370496 + K) 9218868437227405312)) r := fun r hr1 hr2 => by
        by_cases hKe : K < 9007199254740992
        · exact is_norm s 1075 K _ r rfl hK1 hKe (by omega) (fun he => by omega) (fun _ => by rw [hr1, show (((1075 : Nat) : Int) - 1074).toNat = 1 by omega]; omega) (fun _ => by rw [hs]; simp [hr2])
        · exact is_norm s 1076 4503599627370496 _ r (by omega) (by omega) (by omega) (by omega) (fun he => by omega) (fun _ => by rw [hr1, show (((1076 : Nat) : Int) - 1074).toNat = 2 by omega]; omega) (fun _ => by rw [hs]; simp [hr2])
      refine ⟨if n < 0 then -(2 * K : Int) else 2 * K, hsn _ (by split <;> omega) (by split <;> omega), fun hle => ?_, fun hgt => ⟨by split <;> omega, ?_⟩⟩
      · have : N = 9007199254740992 := by omega
        have := hK3 (.inl this)
        split <;> omega
      · by_cases h3 : N = 9007199254740993
        · have := hK3 (.inr h3)
          exact .inl ⟨h3, by split <;> omega⟩
        · have := hK4 (by omega)
          exact .inr (by split <;> omega)
    · have hN : N = 18014398509481984 := by omega
      have hL2 : L = 54 := by
        rcases Nat.lt_trichotomy L 54 with h | h | h
        · have : 2 ^ (L + 1) ≤ 2 ^ 54 := Nat.pow_le_pow_right (by omega) (by omega)
          omega
        · exact h
        · omega
      subst hL2 hN
      have hc := cut_whole .even s 4503599627370496 2
      have hz : (18014398509481984 : Nat) * 2 ^ (0 - (((54 : Nat) : Int) - 52)).toNat = 4503599627370496 * 2 ^ 2 := by
        rw [show (0 - (((54 : Nat) : Int) - 52)).toNat = 0 by omega]
      rw [hz, show ((((54 : Nat) : Int) - 52) - 0).toNat = 2 by omega, show ((((54 : Nat) : Int) - 52) - -1074).toNat = 1076 by omega, hc]
      exact ⟨n, is_norm s 1076 4503599627370496 _ n rfl (by omega) (by omega) (by omega) (fun he => by omega) (fun _ => by rw [hn, show (((1076 : Nat) : Int) - 1074).toNat = 2 by omega]) (fun _ => hs), fun h => by omega, fun _ => ⟨Iff.rfl, .inr (by omega)⟩⟩
end Go.Proofs.Ytffihnbpjcgicaa
