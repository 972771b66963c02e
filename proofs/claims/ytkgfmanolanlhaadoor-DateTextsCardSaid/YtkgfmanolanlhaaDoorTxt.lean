/- A day's text: ten bytes, four digits, two and two; how a text is cut at its '-' and read, piece by piece: no program in sight. -/
import Derived.Lib.ItoaNum
import Derived.Lib.Split
import Derived.Lib.ParseIntB
import Derived.Lib.Repeat
import Derived.Lib.Join
import Derived.Lib.IndexBytes
namespace Go.Proofs.YtkgfmanolanlhaaDoor
set_option linter.unusedVariables false
set_option linter.unusedSimpArgs false

/-- is a byte a digit, and which -/
def isD (b : UInt8) : Bool := decide (48 ≤ b.toNat) && decide (b.toNat ≤ 57)
def dv (b : UInt8) : Int := (b.toNat : Int) - 48
def dg (k : Nat) : UInt8 := UInt8.ofNat (48 + k)
theorem isD_iff {b : UInt8} : isD b = true ↔ 48 ≤ b.toNat ∧ b.toNat ≤ 57 := by unfold isD; simp
theorem dg_nat {k : Nat} (h : k ≤ 9) : (dg k).toNat = 48 + k := by unfold dg; simp; omega
theorem isD_dg {k : Nat} (h : k ≤ 9) : isD (dg k) = true := by rw [isD_iff, dg_nat h]; omega
theorem dv_dg {k : Nat} (h : k ≤ 9) : dv (dg k) = k := by unfold dv; rw [dg_nat h]; omega
theorem dg_dv {b : UInt8} {k : Nat} (h : isD b = true) (e : (b.toNat : Int) - 48 = k) : dg k = b := by
  rw [isD_iff] at h
  apply UInt8.toNat_inj.1
  rw [dg_nat (by omega)]; omega

/-- the digits of a day's text -/
def d4 (y : Nat) : List UInt8 := [dg (y / 1000), dg (y / 100 % 10), dg (y / 10 % 10), dg (y % 10)]
def d2 (m : Nat) : List UInt8 := [dg (m / 10), dg (m % 10)]
/-- a day's text -/
def txtD (y m d : Int) : List UInt8 := d4 y.toNat ++ 45 :: (d2 m.toNat ++ 45 :: d2 d.toNat)
theorem itoa_four {y : Int} (h : 1000 ≤ y) (h' : y ≤ 9999) : Lib.itoa y = d4 y.toNat := by
  unfold Lib.itoa
  rw [if_neg (by omega), Lib.decDigits, dif_neg (by omega), Lib.decDigits, dif_neg (by omega), Lib.decDigits, dif_neg (by omega), Lib.decDigits, dif_pos (by omega)]
  unfold d4 dg
  simp only [List.cons_append, List.nil_append, Nat.div_div_eq_div_mul]
theorem itoa_len4 {y : Int} (h : 1000 ≤ y) (h' : y ≤ 9999) : (Lib.itoa y).length = 4 := by rw [itoa_four h h']; rfl
/-- a number of one or two digits, and how many zeros stand ahead of it -/
def zs (m : Int) : Nat := if m < 10 then 1 else 0
theorem itoa_len2 {m : Int} (h : 0 ≤ m) (h' : m ≤ 99) : ((Lib.itoa m).length : Int) = 2 - zs m := by
  unfold Lib.itoa zs
  rw [if_neg (show ¬ m < 0 by omega), Lib.decDigits_length]
  by_cases q : m < 10
  · rw [if_pos q, Lib.nDigits_small (by omega)]; rfl
  · rw [if_neg q, Lib.nDigits_big (by omega), Lib.nDigits_small (by omega)]; rfl
theorem itoa_two {m : Int} (h : 0 ≤ m) (h' : m ≤ 99) : Lib.repeatL [48] (zs m) ++ Lib.itoa m = d2 m.toNat := by
  unfold Lib.itoa zs
  rw [if_neg (show ¬ m < 0 by omega)]
  by_cases q : m < 10
  · rw [if_pos q, Lib.decDigits_one (by omega)]
    unfold d2 dg
    have e1 : m.toNat / 10 = 0 := by omega
    have e2 : m.toNat % 10 = m.toNat := by omega
    rw [e1, e2]
    rfl
  · rw [if_neg q, Lib.decDigits_two (by omega) (by omega)]
    rfl
theorem join_day (a b c : List UInt8) : Lib.join [a, b, c] [45] = a ++ 45 :: (b ++ 45 :: c) := by
  rw [Lib.join_cons]; simp [Lib.joinTail]

/-- has a text a day's form -/
def formB : List UInt8 → Bool
  | [a, b, c, d, e, f, g, h, i, j] => isD a && isD b && isD c && isD d && (e == 45) && isD f && isD g && (h == 45) && isD i && isD j
  | _ => false
def vY : List UInt8 → Int
  | a :: b :: c :: d :: _ => dv a * 1000 + dv b * 100 + dv c * 10 + dv d
  | _ => 0
def vM : List UInt8 → Int
  | _ :: _ :: _ :: _ :: _ :: a :: b :: _ => dv a * 10 + dv b
  | _ => 0
def vD : List UInt8 → Int
  | _ :: _ :: _ :: _ :: _ :: _ :: _ :: _ :: a :: b :: _ => dv a * 10 + dv b
  | _ => 0
theorem form_ten {l : List UInt8} (h : formB l = true) : ∃ a b c d f g i j, l = [a, b, c, d, 45, f, g, 45, i, j] ∧ isD a = true ∧ isD b = true ∧ isD c = true ∧ isD d = true ∧ isD f = true ∧ isD g = true ∧ isD i = true ∧ isD j = true := by
  unfold formB at h
  split at h
  · simp only [Bool.and_eq_true, beq_iff_eq] at h
    obtain ⟨⟨⟨⟨⟨⟨⟨⟨⟨ha, hb⟩, hc⟩, hd⟩, rfl⟩, hf⟩, hg⟩, rfl⟩, hi⟩, hj⟩ := h
    exact ⟨_, _, _, _, _, _, _, _, rfl, ha, hb, hc, hd, hf, hg, hi, hj⟩
  · cases h
theorem form_txt {y m d : Int} (h : 0 ≤ y ∧ y ≤ 9999) (h1 : 0 ≤ m ∧ m ≤ 99) (h2 : 0 ≤ d ∧ d ≤ 99) : formB (txtD y m d) = true ∧ vY (txtD y m d) = y ∧ vM (txtD y m d) = m ∧ vD (txtD y m d) = d := by
  unfold txtD d4 d2
  simp only [List.cons_append, List.nil_append]
  refine ⟨?_, ?_, ?_, ?_⟩
  · simp only [formB]
    rw [isD_dg (by omega), isD_dg (by omega), isD_dg (by omega), isD_dg (by omega), isD_dg (by omega), isD_dg (by omega), isD_dg (by omega), isD_dg (by omega)]
    rfl
  · simp only [vY]
    rw [dv_dg (by omega), dv_dg (by omega), dv_dg (by omega), dv_dg (by omega)]
    omega
  · simp only [vM]
    rw [dv_dg (by omega), dv_dg (by omega)]
    omega
  · simp only [vD]
    rw [dv_dg (by omega), dv_dg (by omega)]
    omega
theorem txt_form {l : List UInt8} (h : formB l = true) : txtD (vY l) (vM l) (vD l) = l ∧ 0 ≤ vY l ∧ vY l ≤ 9999 ∧ 0 ≤ vM l ∧ vM l ≤ 99 ∧ 0 ≤ vD l ∧ vD l ≤ 99 := by
  obtain ⟨a, b, c, d, f, g, i, j, rfl, ha, hb, hc, hd, hf, hg, hi, hj⟩ := form_ten h
  have ka := isD_iff.1 ha
  have kb := isD_iff.1 hb
  have kc := isD_iff.1 hc
  have kd := isD_iff.1 hd
  have kf := isD_iff.1 hf
  have kg := isD_iff.1 hg
  have ki := isD_iff.1 hi
  have kj := isD_iff.1 hj
  simp only [vY, vM, vD, dv]
  refine ⟨?_, by omega, by omega, by omega, by omega, by omega, by omega⟩
  unfold txtD d4 d2
  simp only [List.cons_append, List.nil_append]
  rw [dg_dv ha (by omega), dg_dv hb (by omega), dg_dv hc (by omega), dg_dv hd (by omega), dg_dv hf (by omega), dg_dv hg (by omega), dg_dv hi (by omega), dg_dv hj (by omega)]

/-- what a piece is read as -/
def rd (l : List UInt8) (n : Nat) : Option Nat := match Lib.parseUintB 16 l with
  | .ok u => if l.length = n then some u else none
  | _ => none
theorem rd_some {l : List UInt8} {n u : Nat} (h : rd l n = some u) : Lib.parseUintB 16 l = .ok u ∧ l.length = n := by
  unfold rd at h
  split at h
  · rename_i v hv
    split at h
    · rw [Option.some.inj h] at hv
      exact ⟨hv, by assumption⟩
    · cases h
  · cases h
theorem rd_none {l : List UInt8} {n : Nat} (h : rd l n = none) : (∃ u, Lib.parseUintB 16 l = .ok u ∧ l.length ≠ n) ∨ Lib.parseUintB 16 l = .syntax ∨ Lib.parseUintB 16 l = .range := by
  unfold rd at h
  cases hp : Lib.parseUintB 16 l with
  | ok u =>
    rw [hp] at h
    simp only at h
    split at h
    · cases h
    · exact .inl ⟨u, rfl, by assumption⟩
  | «syntax» => exact .inr (.inl rfl)
  | range => exact .inr (.inr rfl)
theorem puM_ok {M : Nat} : ∀ {l : List UInt8} {acc u : Nat}, Lib.parseUintM M acc l = .ok u → ∀ b ∈ l, isD b = true
  | [], _, _, _, b, hb => by cases hb
  | c :: r, acc, u, h, b, hb => by
    unfold Lib.parseUintM at h
    split at h
    · split at h
      · cases h
      · split at h
        · cases h
        · rcases List.mem_cons.1 hb with rfl | hb
          · rw [isD_iff]; assumption
          · exact puM_ok h b hb
    · cases h
theorem puM_step {M acc : Nat} {c : UInt8} {r : List UInt8} (h : isD c = true) (ha : acc ≤ 9999) (hM : acc * 10 + (c.toNat - 48) ≤ M) : Lib.parseUintM M acc (c :: r) = Lib.parseUintM M (acc * 10 + (c.toNat - 48)) r := by
  have k := isD_iff.1 h
  rw [Lib.parseUintM, if_pos (by omega), if_neg (by omega), if_neg (by omega)]
theorem puM_end {M acc : Nat} : Lib.parseUintM M acc [] = .ok acc := rfl
theorem rd_4 {a b c d : UInt8} (ha : isD a = true) (hb : isD b = true) (hc : isD c = true) (hd : isD d = true) : rd [a, b, c, d] 4 = some ((dv a * 1000 + dv b * 100 + dv c * 10 + dv d).toNat) := by
  have ka := isD_iff.1 ha
  have kb := isD_iff.1 hb
  have kc := isD_iff.1 hc
  have kd := isD_iff.1 hd
  have e : Lib.parseUintB 16 [a, b, c, d] = .ok ((((0 * 10 + (a.toNat - 48)) * 10 + (b.toNat - 48)) * 10 + (c.toNat - 48)) * 10 + (d.toNat - 48)) := by
    unfold Lib.parseUintB
    rw [if_neg (by simp), puM_step ha (by omega) (by omega), puM_step hb (by omega) (by omega), puM_step hc (by omega) (by omega), puM_step hd (by omega) (by omega), puM_end]
  unfold rd
  rw [e]
  simp only [List.length_cons, List.length_nil, if_pos, dv]
  congr 1
  omega
theorem rd_2 {a b : UInt8} (ha : isD a = true) (hb : isD b = true) : rd [a, b] 2 = some ((dv a * 10 + dv b).toNat) := by
  have ka := isD_iff.1 ha
  have kb := isD_iff.1 hb
  have e : Lib.parseUintB 16 [a, b] = .ok ((0 * 10 + (a.toNat - 48)) * 10 + (b.toNat - 48)) := by
    unfold Lib.parseUintB
    rw [if_neg (by simp), puM_step ha (by omega) (by omega), puM_step hb (by omega) (by omega), puM_end]
  unfold rd
  rw [e]
  simp only [List.length_cons, List.length_nil, if_pos, dv]
  congr 1
  omega
theorem rd_digits {l : List UInt8} {n u : Nat} (h : rd l n = some u) : l.length = n ∧ ∀ b ∈ l, isD b = true := by
  obtain ⟨h1, h2⟩ := rd_some h
  unfold Lib.parseUintB at h1
  split at h1
  · cases h1
  · exact ⟨h2, puM_ok h1⟩

/-- where a list is cut -/
theorem idx_cut : ∀ {l : List UInt8} {c : UInt8} {i : Nat}, Lib.indexByte l c = i → l = l.take i ++ c :: l.drop (i + 1)
  | [], c, i, h => by
    have h' : (-1 : Int) = i := h
    omega
  | b :: l, c, i, h => by
    unfold Lib.indexByte at h
    split at h
    · have : i = 0 := by omega
      subst this
      rename_i q
      simp [beq_iff_eq.1 q]
    · split at h
      · omega
      · have g := Lib.indexByte_ge l c
        have g' : Lib.indexByte l c ≠ -1 := by simpa using ‹¬ (Lib.indexByte l c == -1) = true›
        have hi : Lib.indexByte l c = ((i - 1 : Nat) : Int) := by omega
        have := idx_cut hi
        obtain ⟨k, rfl⟩ : ∃ k, i = k + 1 := ⟨i - 1, by omega⟩
        rw [show k + 1 - 1 = k by omega] at this
        rw [List.take_succ_cons, List.drop_succ_cons, List.cons_append, ← this]
theorem index_cut {l : List UInt8} {i : Nat} (h : Lib.index l [45] = i) : l = l.take i ++ 45 :: l.drop (i + 1) := idx_cut (by rw [← Lib.index_one]; exact h)
theorem index_nat (l : List UInt8) (h : (Lib.index l [45] == -1) = false) : Lib.index l [45] = ((Lib.index l [45]).toNat : Int) := by
  have := Lib.index_ge l [45]
  have h' : Lib.index l [45] ≠ -1 := by simpa using h
  omega
theorem splitK_join : ∀ (k : Nat) (l : List UInt8), l = Lib.join (Lib.splitK [45] 0 k l) [45]
  | 0, l => by simp [Lib.splitK, Lib.join, List.intercalate]
  | k + 1, l => by
    unfold Lib.splitK
    cases h : (Lib.index l [45] == -1) with
    | true => simp [Lib.join, List.intercalate]
    | false =>
      have hn := index_nat l h
      have hc := index_cut hn
      have ih := splitK_join k (l.drop ((Lib.index l [45]).toNat + 1))
      simp only [Nat.add_zero, List.length_cons, List.length_nil, Nat.zero_add, Bool.false_eq_true, if_false]
      generalize hr : Lib.splitK [45] 0 k (l.drop ((Lib.index l [45]).toNat + 1)) = R at ih ⊢
      have hR : R ≠ [] := by
        rw [← hr]
        cases k with
        | zero => simp [Lib.splitK]
        | succ k => unfold Lib.splitK; split <;> simp
      cases R with
      | nil => exact absurd rfl hR
      | cons x R' =>
        rw [Lib.join_cons] at ih ⊢
        simp only [Lib.joinTail, List.map_cons, List.flatten_cons, List.cons_append, List.nil_append] at ih ⊢
        rw [← ih]
        exact hc
/-- the pieces of a text that has a day's form -/
theorem split_form {l : List UInt8} (h : formB l = true) : ∃ p0 p1 p2, Lib.splitK [45] 0 2 l = [p0, p1, p2] ∧ rd p0 4 = some (vY l).toNat ∧ rd p1 2 = some (vM l).toNat ∧ rd p2 2 = some (vD l).toNat := by
  obtain ⟨a, b, c, d, f, g, i, j, rfl, ha, hb, hc, hd, hf, hg, hi, hj⟩ := form_ten h
  refine ⟨[a, b, c, d], [f, g], [i, j], ?_, rd_4 ha hb hc hd, rd_2 hf hg, rd_2 hi hj⟩
  have n : ∀ {x : UInt8}, isD x = true → (x == 45) = false := fun {x} hx => by
    have := isD_iff.1 hx
    cases q : x == 45 with
    | false => rfl
    | true =>
      have := beq_iff_eq.1 q
      subst this
      exact absurd hx (by decide)
  have i1 : Lib.indexByte [a, b, c, d, 45, f, g, 45, i, j] 45 = 4 := by simp [Lib.indexByte, n ha, n hb, n hc, n hd]
  have i2 : Lib.indexByte [f, g, 45, i, j] 45 = 2 := by simp [Lib.indexByte, n hf, n hg]
  rw [Lib.splitK, Lib.index_one, i1]
  simp only [show ((4 : Int) == -1) = false from rfl, Bool.false_eq_true, if_false, show (4 : Int).toNat = 4 from rfl, List.take_succ_cons, List.take_zero, List.drop_succ_cons, List.drop_zero, List.length_cons, List.length_nil, Nat.add_zero, Nat.zero_add, Nat.reduceAdd]
  rw [Lib.splitK, Lib.index_one, i2]
  simp [Lib.splitK]
/-- pieces that are read are those of a text that has a day's form -/
theorem form_split {l p0 p1 p2 : List UInt8} {x y z : Nat} (h : Lib.splitK [45] 0 2 l = [p0, p1, p2]) (h0 : rd p0 4 = some x) (h1 : rd p1 2 = some y) (h2 : rd p2 2 = some z) : formB l = true := by
  have e := splitK_join 2 l
  rw [h, join_day] at e
  obtain ⟨l0, a0⟩ := rd_digits h0
  obtain ⟨l1, a1⟩ := rd_digits h1
  obtain ⟨l2, a2⟩ := rd_digits h2
  match p0, l0, p1, l1, p2, l2 with
  | [a, b, c, d], _, [f, g], _, [i, j], _ =>
    rw [e]
    simp only [List.cons_append, List.nil_append, formB]
    rw [a0 a (by simp), a0 b (by simp), a0 c (by simp), a0 d (by simp), a1 f (by simp), a1 g (by simp), a2 i (by simp), a2 j (by simp)]
    rfl
theorem form_len {l : List UInt8} (h : formB l = true) : l.length = 10 := by
  obtain ⟨a, b, c, d, f, g, i, j, rfl, _⟩ := form_ten h
  rfl
end Go.Proofs.YtkgfmanolanlhaaDoor
