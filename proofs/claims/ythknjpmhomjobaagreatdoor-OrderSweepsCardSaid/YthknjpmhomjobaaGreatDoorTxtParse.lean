/- What a number's text reads as. No walk. -/
import Derived.Test.YthknjpmhomjobaaGreatDoorParseC
import Derived.Test.YthknjpmhomjobaaGreatDoorText
namespace Go.Proofs.YthknjpmhomjobaaGreatDoor
open Go.RowKit
set_option linter.unusedVariables false
set_option linter.unusedSimpArgs false

def val : Int → List UInt8 → Int
  | x, [] => x
  | x, c :: r => val (x * 10 + ((c.toNat : Int) - 48)) r
theorem val_append : ∀ (x : Int) (l m : List UInt8), val x (l ++ m) = val (val x l) m
  | _, [], _ => rfl
  | x, c :: r, m => by
    simp only [List.cons_append, val]
    exact val_append _ r m
theorem val_mono : ∀ (l : List UInt8) (x : Int), digitsB l = true → 0 ≤ x → x ≤ val x l
  | [], x, _, _ => Int.le_refl _
  | c :: r, x, hd, h0 => by
    obtain ⟨hc, hr⟩ := digits_cons hd
    obtain ⟨b1, b2⟩ := isDig_yes hc
    have := val_mono r (x * 10 + ((c.toNat : Int) - 48)) hr (by omega)
    simp only [val]
    omega
theorem numGo_val : ∀ (l : List UInt8) (x : Int), digitsB l = true → 0 ≤ x → numGo x l = val x l ∨ (100000000000 < numGo x l ∧ 100000000000 < val x l)
  | [], x, _, _ => .inl rfl
  | c :: r, x, hd, h0 => by
    obtain ⟨hc, hr⟩ := digits_cons hd
    obtain ⟨b1, b2⟩ := isDig_yes hc
    simp only [numGo]
    split
    · rename_i hx
      have := val_mono (c :: r) x hd h0
      exact .inr ⟨hx, by omega⟩
    · simp only [val]
      exact numGo_val r _ hr (by omega)
theorem dig_byte {k : Nat} (h : k < 10) : (UInt8.ofNat (48 + k)).toNat = 48 + k := by rw [UInt8.toNat_ofNat']; omega
theorem dig_is {k : Nat} (h : k < 10) : isDig (UInt8.ofNat (48 + k)) = true := by
  have := dig_byte h
  simp only [isDig, decide_eq_true_eq]
  omega
theorem dd_split {u : Nat} (h : ¬ u < 10) : Lib.decDigits u = Lib.decDigits (u / 10) ++ [UInt8.ofNat (48 + u % 10)] := by rw [Lib.decDigits, dif_neg h]
theorem dd_all (u : Nat) : digitsB (Lib.decDigits u) = true ∧ val 0 (Lib.decDigits u) = u ∧ ∃ c l, Lib.decDigits u = c :: l ∧ (1 ≤ u → c ≠ 48) := by
  induction u using Nat.strongRecOn with
  | ind u ih =>
    by_cases h : u < 10
    · rw [Lib.decDigits_one h]
      refine ⟨by show (isDig (UInt8.ofNat (48 + u)) && true) = true; rw [dig_is h]; rfl, ?_, _, _, rfl, fun h1 e => ?_⟩
      · simp only [val, dig_byte h]; omega
      · have := congrArg UInt8.toNat e
        rw [dig_byte h] at this
        simp at this
        omega
    · obtain ⟨h1, h2, c, l, h3, h4⟩ := ih (u / 10) (by omega)
      rw [dd_split h]
      refine ⟨?_, ?_, c, l ++ [UInt8.ofNat (48 + u % 10)], by rw [h3]; rfl, fun _ => h4 (by omega)⟩
      · unfold digitsB at *
        rw [List.all_append, h1]
        show (true && (isDig (UInt8.ofNat (48 + u % 10)) && true)) = true
        rw [dig_is (show u % 10 < 10 by omega)]
        rfl
      · rw [val_append, h2]
        simp only [val, dig_byte (show u % 10 < 10 by omega)]
        omega
theorem dd_whole (u : Nat) : wholeB (Lib.decDigits u) = true := by
  obtain ⟨h1, _, c, l, h3, h4⟩ := dd_all u
  unfold wholeB
  rw [h1]
  by_cases hu : 1 ≤ u
  · rw [h3]
    have := h4 hu
    simp [this]
  · obtain rfl : u = 0 := by omega
    rw [Lib.decDigits_one (by omega)]
    rfl
theorem nd_le : ∀ (k u : Nat), u < 10 ^ (k + 1) → Lib.nDigits u ≤ k + 1
  | 0, u, h => by rw [Lib.nDigits_small (by simpa using h)]; omega
  | k + 1, u, h => by
    by_cases hu : u < 10
    · rw [Lib.nDigits_small hu]; omega
    · rw [Lib.nDigits_big hu]
      have := nd_le k (u / 10) (by rw [Nat.div_lt_iff_lt_mul (by omega), ← Nat.pow_succ]; exact h)
      omega
theorem tail_facts (a : Nat) : centsB (tailB a) = true ∧ numGo 0 (tailB a) = (a % 100 : Nat) ∧ (tailB a).length = 2 := by
  have h1 : a % 100 / 10 < 10 := by omega
  have h2 : a % 10 < 10 := by omega
  refine ⟨?_, ?_, rfl⟩
  · show (true && (isDig (UInt8.ofNat (48 + a % 100 / 10)) && (isDig (UInt8.ofNat (48 + a % 10)) && true))) = true
    rw [dig_is h1, dig_is h2]
    rfl
  · have n1 : ¬ (100000000000 : Int) < 0 := by omega
    have n2 : ¬ (100000000000 : Int) < 0 * 10 + (((48 + a % 100 / 10 : Nat) : Int) - 48) := by omega
    simp only [numGo, tailB, dig_byte h1, dig_byte h2]
    rw [if_neg n1, if_neg n2]
    omega
theorem index_point : ∀ (l m : List UInt8), digitsB l = true → Lib.indexByte (l ++ 46 :: m) 46 = (l.length : Int)
  | [], m, _ => by simp [Lib.indexByte]
  | c :: r, m, hd => by
    obtain ⟨hc, hr⟩ := digits_cons hd
    obtain ⟨b1, b2⟩ := isDig_yes hc
    have hne : (c == 46) = false := by
      rw [beq_eq_false_iff_ne]
      intro e
      subst e
      simp at b1
    have hn : (((r.length : Int)) == -1) = false := by rw [beq_eq_false_iff_ne]; omega
    simp only [List.cons_append, Lib.indexByte]
    rw [index_point r m hr, hne, hn]
    simp
theorem cut_txt (a : Nat) (b : Bool) (ha : a ≤ 9223372036854775808) :
    pCut (Lib.decDigits (a / 100) ++ 46 :: tailB a) b = pTail (Lib.nDigits (a / 100) + 3) b (Lib.decDigits (a / 100)) (tailB a) true := by
  obtain ⟨h1, _⟩ := dd_all (a / 100)
  have hi := index_point (Lib.decDigits (a / 100)) (tailB a) h1
  have hne : ¬ Lib.indexByte (Lib.decDigits (a / 100) ++ 46 :: tailB a) 46 = -1 := by rw [hi]; omega
  unfold pCut
  rw [if_neg hne, hi, Int.toNat_natCast, List.take_left, List.drop_append]
  have e1 : (Lib.decDigits (a / 100)).drop ((Lib.decDigits (a / 100)).length + 1) = [] := by simp
  have e2 : (46 :: tailB a).drop ((Lib.decDigits (a / 100)).length + 1 - (Lib.decDigits (a / 100)).length) = tailB a := by
    rw [show (Lib.decDigits (a / 100)).length + 1 - (Lib.decDigits (a / 100)).length = 1 by omega]; rfl
  rw [e1, e2, List.nil_append, List.length_append, List.length_cons, (tail_facts a).2.2, Lib.decDigits_length]
/-- what a number without its sign reads as -/
theorem tail_txt (a : Nat) (b : Bool) (ha : a ≤ 9223372036854775808) (hb : b = true → 1 ≤ a) :
    pTail (Lib.nDigits (a / 100) + 3) b (Lib.decDigits (a / 100)) (tailB a) true = if amtB a = true then (if b = true then -(a : Int) else a, 0) else (0, 10) := by
  obtain ⟨h1, h2, _⟩ := dd_all (a / 100)
  obtain ⟨t1, t2, _⟩ := tail_facts a
  have hl := nd_le 16 (a / 100) (by omega)
  have hsz : ¬ 20 < Lib.nDigits (a / 100) + 3 := by omega
  unfold pTail
  rw [dd_whole, t1, t2]
  have hv := numGo_val _ 0 h1 (by omega)
  rw [h2] at hv
  generalize numGo 0 (Lib.decDigits (a / 100)) = v at *
  have c1 : (decide (20 < Lib.nDigits (a / 100) + 3) || !true || (true && !true)) = false := by simp [hsz]
  rw [c1]
  simp only [Bool.false_eq_true, if_false]
  clear h1 h2 t1 t2 c1 hl hsz
  have flip : ∀ z : Int, amtB (-z) = amtB z := fun z => by
    simp only [amtB]
    congr 1
    simp
    omega
  rcases hv with hv | ⟨hv1, hv2⟩
  · subst hv
    by_cases hm : ((a / 100 : Nat) : Int) ≤ 100000000000
    · have : amtB ((a / 100 : Nat) : Int) = true := by
        simp only [amtB]
        simp
        omega
      rw [if_pos this]
      have e : ((a / 100 : Nat) : Int) * 100 + ((a % 100 : Nat) : Int) = a := by omega
      rw [e]
      have c2 : (b && decide ((a : Int) = 0)) = false := by
        cases b
        · rfl
        · have := hb rfl
          simp; omega
      rw [c2]
      cases b
      · simp
      · simp [flip]
    · have : amtB ((a / 100 : Nat) : Int) = false := by
        simp only [amtB]
        simp
        omega
      rw [this]
      have h3 : amtB (a : Int) = false := by
        simp only [amtB]
        simp
        omega
      have c2 : ¬ ((a / 100 : Nat) : Int) = 0 := by omega
      rw [h3]
      cases b
      · simp only [Bool.false_and, Bool.false_eq_true, if_false, this]
      · simp only [Bool.false_eq_true, if_false, if_true, flip, this]
        simp
        omega
  · have : amtB v = false := by
      simp only [amtB]
      simp
      omega
    rw [this]
    have h3 : amtB (a : Int) = false := by
      simp only [amtB]
      simp
      omega
    rw [h3]
    cases b
    · simp [this]
    · simp only [Bool.false_eq_true, if_false, if_true, flip, this]
      simp
      omega
theorem parse_txt (x : Int) (h : -9223372036854775808 ≤ x) (h' : x ≤ 9223372036854775807) : parseP (txt x) = if amtB x = true then (x, 0) else (0, 10) := by
  have ha : x.natAbs ≤ 9223372036854775808 := by omega
  by_cases hx : x < 0
  · have e : txt x = 45 :: (Lib.decDigits (x.natAbs / 100) ++ 46 :: tailB x.natAbs) := by simp [txt, hx]
    have hp : Lib.hasPrefix (txt x) [45] = true := by rw [e]; simp [Lib.hasPrefix]
    have ht : Lib.trimPrefix (txt x) [45] = Lib.decDigits (x.natAbs / 100) ++ 46 :: tailB x.natAbs := by
      unfold Lib.trimPrefix
      rw [hp, e]
      rfl
    unfold parseP
    rw [hp, ht, cut_txt _ _ ha, tail_txt _ _ ha (fun _ => by omega)]
    have e2 : (x.natAbs : Int) = -x := by omega
    have fl : amtB (-x) = amtB x := by
      simp only [amtB]
      congr 1
      simp
      omega
    rw [e2, fl]
    simp
  · have e : txt x = Lib.decDigits (x.natAbs / 100) ++ 46 :: tailB x.natAbs := by simp [txt, hx]
    obtain ⟨h1, _, c, l, h3, _⟩ := dd_all (x.natAbs / 100)
    have hc : (45 : UInt8) ≠ c := by
      rw [h3] at h1
      have := isDig_yes (digits_cons h1).1
      intro e2
      subst e2
      simp at this
    have hp : Lib.hasPrefix (txt x) [45] = false := by
      rw [e, h3]
      have hb : ((45 : UInt8) == c) = false := by rw [beq_eq_false_iff_ne]; exact hc
      show ((45 : UInt8) == c && _) = false
      rw [hb]
      rfl
    have ht : Lib.trimPrefix (txt x) [45] = Lib.decDigits (x.natAbs / 100) ++ 46 :: tailB x.natAbs := by
      unfold Lib.trimPrefix
      rw [hp, e]
      rfl
    unfold parseP
    rw [hp, ht, cut_txt _ _ ha, tail_txt _ _ ha (fun e => by cases e)]
    have e2 : (x.natAbs : Int) = x := by omega
    rw [e2]
    simp
end Go.Proofs.YthknjpmhomjobaaGreatDoor
