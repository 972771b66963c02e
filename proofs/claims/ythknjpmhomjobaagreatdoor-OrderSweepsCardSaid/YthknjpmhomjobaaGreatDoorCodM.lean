/- Codes there and back: what is written is read, and what is read is written so: no program in sight. -/
import Derived.Test.YthknjpmhomjobaaGreatDoorCodT
namespace Go.Proofs.YthknjpmhomjobaaGreatDoor
open Go.RowKit
set_option linter.unusedVariables false
set_option linter.unusedSimpArgs false

theorem dig_byteQ {k : Nat} (h : k < 10) : (UInt8.ofNat (48 + k)).toNat = 48 + k := by rw [UInt8.toNat_ofNat']; omega
theorem dig_isQ {k : Nat} (h : k < 10) : isDg (UInt8.ofNat (48 + k)) = true := by
  unfold isDg; rw [dig_byteQ h]; simp; omega
theorem dd_splitQ {u : Nat} (h : ¬ u < 10) : Lib.decDigits u = Lib.decDigits (u / 10) ++ [UInt8.ofNat (48 + u % 10)] := by rw [Lib.decDigits, dif_neg h]
theorem dd_one {u : Nat} (h : u < 10) : Lib.decDigits u = [UInt8.ofNat (48 + u)] := by rw [Lib.decDigits, dif_pos h]
theorem dd_allQ (u : Nat) : (Lib.decDigits u).all isDg = true ∧ numG 0 (Lib.decDigits u) = u ∧ ∃ c l, Lib.decDigits u = c :: l ∧ (1 ≤ u → c ≠ 48) := by
  induction u using Nat.strongRecOn with
  | _ u ih =>
    by_cases h : u < 10
    · rw [dd_one h]
      refine ⟨by simp only [List.all_cons, List.all_nil, dig_isQ h]; rfl, ?_, _, _, rfl, ?_⟩
      · simp only [numG]; rw [dig_byteQ h]; omega
      · intro h1 e
        have := congrArg UInt8.toNat e
        rw [dig_byteQ h] at this
        simp at this
        omega
    · obtain ⟨i1, i2, c, l, e, i3⟩ := ih (u / 10) (by omega)
      rw [dd_splitQ h]
      refine ⟨?_, ?_, c, l ++ [UInt8.ofNat (48 + u % 10)], by rw [e]; rfl, fun _ => i3 (by omega)⟩
      · rw [List.all_append, i1]; simp only [List.all_cons, List.all_nil, dig_isQ (show u % 10 < 10 by omega)]; rfl
      · rw [numG_append, i2]
        simp only [numG]; rw [dig_byteQ (by omega)]; omega
/-- digits, a 0 ahead of no other one, are the numeral of their number -/
theorem dd_back : ∀ (k : Nat) (l : List UInt8), l.length = k → l ≠ [] → l.all isDg = true → (l.length ≤ 1 ∨ l.head? ≠ some 48) → Lib.decDigits (numG 0 l).toNat = l := by
  intro k
  induction k with
  | zero => intro l h hn; exact absurd (List.length_eq_zero_iff.1 h) hn
  | succ k ih =>
    intro l hl hn ha hz
    rcases List.eq_nil_or_concat l with rfl | ⟨r, c, rfl⟩
    · exact absurd rfl hn
    rw [List.concat_eq_append] at hl ha hz ⊢
    rw [List.all_append] at ha
    simp only [Bool.and_eq_true, List.all_cons, List.all_nil, Bool.and_true] at ha
    obtain ⟨c1, c2⟩ := isDg_yes ha.2
    rw [numG_append]
    simp only [numG]
    have hc : UInt8.ofNat (48 + (c.toNat - 48)) = c := by
      apply UInt8.toNat_inj.1
      rw [dig_byteQ (by omega)]
      omega
    cases r with
    | nil =>
      simp only [numG, List.nil_append]
      rw [show (0 * 10 + ((c.toNat : Int) - 48)).toNat = c.toNat - 48 by omega, dd_one (by omega), hc]
    | cons d r =>
      have hd : d ≠ 48 := by
        rcases hz with hz | hz
        · simp at hz
        · intro e; apply hz; simp [e]
      have ih2 := ih (d :: r) (by simpa using hl) (by simp) ha.1 (.inr (by simpa using hd))
      have hpos : 1 ≤ numG 0 (d :: r) := by
        have ha2 := ha.1
        simp only [List.all_cons, Bool.and_eq_true] at ha2
        obtain ⟨d1, d2⟩ := isDg_yes ha2.1
        have hd3 : d.toNat ≠ 48 := fun e => hd (UInt8.toNat_inj.1 e)
        simp only [numG]
        have := (numG_bd r (0 * 10 + ((d.toNat : Int) - 48)) ha2.2 (by omega)).1
        have hp : (0 : Int) < 10 ^ r.length := Int.pow_pos (by omega)
        have hm := Int.mul_le_mul_of_nonneg_right (show (1 : Int) ≤ 0 * 10 + ((d.toNat : Int) - 48) by omega) (Int.le_of_lt hp)
        omega
      generalize numG 0 (d :: r) = N at *
      have e1 : (N * 10 + ((c.toNat : Int) - 48)).toNat = N.toNat * 10 + (c.toNat - 48) := by omega
      rw [e1, dd_splitQ (by omega)]
      have e2 : (N.toNat * 10 + (c.toNat - 48)) / 10 = N.toNat := by omega
      have e3 : (N.toNat * 10 + (c.toNat - 48)) % 10 = c.toNat - 48 := by omega
      rw [e2, e3, ih2, hc]
theorem itoa_nn {n : Int} (h : 0 ≤ n) : Lib.itoa n = Lib.decDigits n.toNat := by unfold Lib.itoa; rw [if_neg (by omega)]
theorem nd_six {u : Nat} (hu : u < 1000000) : Lib.nDigits u ≤ 6 := by
  by_cases q1 : u < 10
  · rw [Lib.nDigits_small q1]; omega
  rw [Lib.nDigits_big (by omega)]
  by_cases q2 : u / 10 < 10
  · rw [Lib.nDigits_small q2]; omega
  rw [Lib.nDigits_big (by omega)]
  by_cases q3 : u / 10 / 10 < 10
  · rw [Lib.nDigits_small q3]; omega
  rw [Lib.nDigits_big (by omega)]
  by_cases q4 : u / 10 / 10 / 10 < 10
  · rw [Lib.nDigits_small q4]; omega
  rw [Lib.nDigits_big (by omega)]
  by_cases q5 : u / 10 / 10 / 10 / 10 < 10
  · rw [Lib.nDigits_small q5]; omega
  rw [Lib.nDigits_big (by omega)]
  by_cases q6 : u / 10 / 10 / 10 / 10 / 10 < 10
  · rw [Lib.nDigits_small q6]; omega
  · exfalso; omega
/-- a number from 0 to 999999 as it is written is such a number, and it -/
theorem num_itoa {n : Int} (h : 0 ≤ n) (h' : n ≤ 999999) : numB (Lib.itoa n) = true ∧ numG 0 (Lib.itoa n) = n := by
  rw [itoa_nn h]
  obtain ⟨a1, a2, c, l, e, a3⟩ := dd_allQ n.toNat
  have hl : (Lib.decDigits n.toNat).length ≤ 6 := by rw [Lib.decDigits_length]; exact nd_six (by omega)
  refine ⟨?_, by omega⟩
  unfold numB
  rw [a1, decide_eq_true hl]
  have h1 : (Lib.decDigits n.toNat).isEmpty = false := by rw [e]; rfl
  rw [h1]
  by_cases hz : n.toNat < 10
  · rw [dd_one hz]; simp
  · have : ((Lib.decDigits n.toNat).head? == some 48) = false := by rw [e]; simpa using a3 (by omega)
    rw [this]; simp
theorem itoa_num {l : List UInt8} (h : numB l = true) : Lib.itoa (numG 0 l) = l := by
  obtain ⟨h1, h2, h3, h4⟩ := numB_yes h
  rw [itoa_nn (num_six h4 h2).1]
  exact dd_back _ l rfl h1 h4 h3
theorem numV_of {k : Int} {l : List UInt8} (h : numB l = true) : numV k l = (k, numG 0 l, true) := by unfold numV; rw [if_pos h]
theorem numV_yes {k : Int} {l : List UInt8} {a b : Int} (h : numV k l = (a, b, true)) : a = k ∧ b = numG 0 l ∧ numB l = true := by
  unfold numV at h
  split at h
  · rename_i hb
    simp only [Prod.mk.injEq] at h
    exact ⟨h.1.symm, h.2.1.symm, hb⟩
  · simp at h
/-- each byte of a numeral is a digit -/
theorem itoa_all {n : Int} (h : 0 ≤ n) : (Lib.itoa n).all isDg = true := by rw [itoa_nn h]; exact (dd_allQ _).1
theorem itoa_ne {n : Int} (h : 0 ≤ n) : Lib.itoa n ≠ [] := by
  rw [itoa_nn h]
  obtain ⟨_, _, c, l, e, _⟩ := dd_allQ n.toNat
  rw [e]; simp
theorem sufB_app (c d : UInt8) (l : List UInt8) : sufB c (l ++ [d]) = (d == c) := by
  unfold sufB; rw [List.getLast?_append]; simp
theorem sufB_yes {c : UInt8} {l : List UInt8} (h : sufB c l = true) : l = l.dropLast ++ [c] := by
  unfold sufB at h
  rcases List.eq_nil_or_concat l with rfl | ⟨r, d, rfl⟩
  · simp at h
  · rw [List.concat_eq_append] at h ⊢
    rw [List.getLast?_append] at h
    simp at h
    rw [h]; simp
theorem preB_cons (c d : UInt8) (l : List UInt8) : preB c (d :: l) = (d == c) := by unfold preB; simp
theorem preB_yes {c : UInt8} {l : List UInt8} (h : preB c l = true) : l = c :: l.tail := by
  unfold preB at h
  cases l with
  | nil => simp at h
  | cons d r => simp at h; rw [h]; rfl
/-- a list of digits ends and begins in no letter -/
theorem all_last {c : UInt8} {l : List UInt8} (h : l.all isDg = true) (hc : isDg c = false) : sufB c l = false := by
  cases hs : sufB c l
  · rfl
  · rw [sufB_yes hs, List.all_append] at h
    simp [hc] at h
theorem all_head {c : UInt8} {l : List UInt8} (h : l.all isDg = true) (hc : isDg c = false) : preB c l = false := by
  cases hs : preB c l
  · rfl
  · rw [preB_yes hs] at h
    simp [hc] at h
theorem sufB_cons {c d : UInt8} {l : List UInt8} (h : l ≠ []) : sufB c (d :: l) = sufB c l := by
  unfold sufB
  cases l with
  | nil => exact absurd rfl h
  | cons e r => rfl
/-- what a kind is written as is read as it -/
theorem knd_back {k a f : Int} (h : fitB k a f = true) : kndV (kndT k a f) = (k, if k = 3 then f else a / 1000, true) := by
  rcases fitB_yes h with ⟨rfl, a0, a9, am, rfl⟩ | ⟨rfl, a0, a9, am, rfl⟩ | ⟨rfl, rfl, f0, f7⟩ | ⟨rfl, rfl, rfl⟩
  · obtain ⟨n1, n2⟩ := num_itoa (n := a / 1000) (by omega) (by omega)
    show kndV (Lib.itoa (a / 1000) ++ [76]) = _
    unfold kndV
    rw [sufB_app, if_pos (by decide), List.dropLast_concat]
    rw [numV_of n1, n2]
    simp
  · obtain ⟨n1, n2⟩ := num_itoa (n := a / 1000) (by omega) (by omega)
    show kndV (75 :: Lib.itoa (a / 1000)) = _
    unfold kndV
    rw [sufB_cons (itoa_ne (by omega)), all_last (itoa_all (by omega)) (by decide), if_neg (by simp), preB_cons, if_pos (by decide)]
    rw [List.tail_cons, numV_of n1, n2]
    simp
  · obtain ⟨n1, n2⟩ := num_itoa (n := f) (by omega) (by omega)
    show kndV (68 :: Lib.itoa f) = _
    unfold kndV
    rw [sufB_cons (itoa_ne (by omega)), all_last (itoa_all (by omega)) (by decide), if_neg (by simp), preB_cons, if_neg (by decide), preB_cons, if_pos (by decide)]
    rw [List.tail_cons, numV_of n1, n2]
    simp
  · decide
/-- what a text is read as is written so -/
theorem knd_forth {l : List UInt8} {k n : Int} (h : kndV l = (k, n, true)) : (k = 1 ∨ k = 2 ∨ k = 3 ∨ k = 4) ∧ kndT k (if k = 3 then 0 else n * 1000) (if k = 3 then n else 0) = l := by
  unfold kndV at h
  split at h
  · rename_i hs
    obtain ⟨rfl, rfl, hb⟩ := numV_yes h
    refine ⟨.inl rfl, ?_⟩
    show Lib.itoa (numG 0 l.dropLast * 1000 / 1000) ++ [76] = l
    rw [Int.mul_ediv_cancel _ (by omega), itoa_num hb, ← sufB_yes hs]
  · split at h
    · rename_i hs
      obtain ⟨rfl, rfl, hb⟩ := numV_yes h
      refine ⟨.inr (.inl rfl), ?_⟩
      show 75 :: Lib.itoa (numG 0 l.tail * 1000 / 1000) = l
      rw [Int.mul_ediv_cancel _ (by omega), itoa_num hb, ← preB_yes hs]
    · split at h
      · rename_i hs
        obtain ⟨rfl, rfl, hb⟩ := numV_yes h
        refine ⟨.inr (.inr (.inl rfl)), ?_⟩
        show 68 :: Lib.itoa (numG 0 l.tail) = l
        rw [itoa_num hb, ← preB_yes hs]
      · simp only [Prod.mk.injEq, beq_iff_eq] at h
        obtain ⟨rfl, rfl, rfl⟩ := h
        exact ⟨.inr (.inr (.inr rfl)), rfl⟩
/-- the first and the last byte of a kind that is written -/
theorem knd_ends {k a f : Int} (h : fitB k a f = true) : sufB 88 (kndT k a f) = false ∧ kndT k a f ≠ [] ∧ ∃ c r, kndT k a f = c :: r ∧ ¬ (80 ≤ (c.toNat : Int) ∧ (c.toNat : Int) ≤ 86) := by
  have hd : ∀ c : UInt8, isDg c = true → ¬ (80 ≤ (c.toNat : Int) ∧ (c.toNat : Int) ≤ 86) := fun c hc => by have := isDg_yes hc; omega
  rcases fitB_yes h with ⟨rfl, a0, a9, am, rfl⟩ | ⟨rfl, a0, a9, am, rfl⟩ | ⟨rfl, rfl, f0, f7⟩ | ⟨rfl, rfl, rfl⟩
  · show sufB 88 (Lib.itoa (a / 1000) ++ [76]) = false ∧ Lib.itoa (a / 1000) ++ [76] ≠ [] ∧ ∃ c r, Lib.itoa (a / 1000) ++ [76] = c :: r ∧ _
    have ha := itoa_all (n := a / 1000) (by omega)
    have hn := itoa_ne (n := a / 1000) (by omega)
    refine ⟨by rw [sufB_app]; decide, by simp, ?_⟩
    cases hi : Lib.itoa (a / 1000) with
    | nil => exact absurd hi hn
    | cons c r =>
      rw [hi] at ha
      simp only [List.all_cons, Bool.and_eq_true] at ha
      exact ⟨c, r ++ [76], rfl, hd c ha.1⟩
  · show sufB 88 (75 :: Lib.itoa (a / 1000)) = false ∧ 75 :: Lib.itoa (a / 1000) ≠ [] ∧ ∃ c r, 75 :: Lib.itoa (a / 1000) = c :: r ∧ _
    exact ⟨by rw [sufB_cons (itoa_ne (by omega)), all_last (itoa_all (by omega)) (by decide)], by simp, 75, _, rfl, by decide⟩
  · show sufB 88 (68 :: Lib.itoa f) = false ∧ 68 :: Lib.itoa f ≠ [] ∧ ∃ c r, 68 :: Lib.itoa f = c :: r ∧ _
    exact ⟨by rw [sufB_cons (itoa_ne (by omega)), all_last (itoa_all (by omega)) (by decide)], by simp, 68, _, rfl, by decide⟩
  · exact ⟨by decide, by decide, 78, [84], rfl, by decide⟩
end Go.Proofs.YthknjpmhomjobaaGreatDoor
