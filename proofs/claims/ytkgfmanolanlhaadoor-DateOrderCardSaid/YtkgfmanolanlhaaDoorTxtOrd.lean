/- A day's text has the day's order: no program in sight. -/
import Derived.Test.YtkgfmanolanlhaaDoorTxt
import Derived.Test.YtkgfmanolanlhaaDoorCal
import GoSem.Op.String
import Derived.Lib.MinMaxS
namespace Go.Proofs.YtkgfmanolanlhaaDoor
open Go
set_option linter.unusedVariables false
set_option linter.unusedSimpArgs false

theorem bl_dig {i j : Nat} (hi : i ≤ 9) (hj : j ≤ 9) (l l' : List UInt8) : Op.bytesLess (dg i :: l) (dg j :: l') = if i < j then true else if j < i then false else Op.bytesLess l l' := by
  have h1 : (dg i < dg j) ↔ i < j := by rw [UInt8.lt_iff_toNat_lt, dg_nat hi, dg_nat hj]; omega
  have h2 : (dg i = dg j) ↔ i = j := by rw [← UInt8.toNat_inj, dg_nat hi, dg_nat hj]; omega
  rw [Op.bytesLess]
  by_cases q : i < j
  · rw [if_pos q, decide_eq_true (h1.2 q)]; rfl
  · rw [if_neg q, decide_eq_false (fun h => q (h1.1 h)), Bool.false_or]
    by_cases r : j < i
    · rw [if_pos r, beq_eq_false_iff_ne.2 (fun h => by have := h2.1 h; omega)]; rfl
    · rw [if_neg r, beq_iff_eq.2 (h2.2 (by omega)), Bool.true_and]
theorem bl_sep (l l' : List UInt8) : Op.bytesLess (45 :: l) (45 :: l') = Op.bytesLess l l' := by
  rw [Op.bytesLess]
  simp
theorem bl_d2 {m m' : Nat} (h : m ≤ 99) (h' : m' ≤ 99) (l l' : List UInt8) : Op.bytesLess (d2 m ++ l) (d2 m' ++ l') = if m < m' then true else if m' < m then false else Op.bytesLess l l' := by
  unfold d2
  simp only [List.cons_append, List.nil_append]
  rw [bl_dig (by omega) (by omega), bl_dig (by omega) (by omega)]
  (repeat' split) <;> first | rfl | (exfalso; omega)
theorem bl_d4 {m m' : Nat} (h : m ≤ 9999) (h' : m' ≤ 9999) (l l' : List UInt8) : Op.bytesLess (d4 m ++ l) (d4 m' ++ l') = if m < m' then true else if m' < m then false else Op.bytesLess l l' := by
  unfold d4
  simp only [List.cons_append, List.nil_append]
  rw [bl_dig (by omega) (by omega), bl_dig (by omega) (by omega), bl_dig (by omega) (by omega), bl_dig (by omega) (by omega)]
  (repeat' split) <;> first | rfl | (exfalso; omega)
theorem bl_txt {y m d y' m' d' : Int} (h : dayB y m d = true) (h' : dayB y' m' d' = true) : Op.bytesLess (txtD y m d) (txtD y' m' d') = decide (cmp3 y m d y' m' d' < 0) := by
  obtain ⟨a1, a2, a3, a4, a5, a6⟩ := dayB_yes h
  obtain ⟨b1, b2, b3, b4, b5, b6⟩ := dayB_yes h'
  have a7 := (ml_bd y m).2
  have b7 := (ml_bd y' m').2
  unfold txtD
  rw [bl_d4 (by omega) (by omega), bl_sep, bl_d2 (by omega) (by omega), bl_sep]
  have e : Op.bytesLess (d2 d.toNat) (d2 d'.toNat) = if d.toNat < d'.toNat then true else if d'.toNat < d.toNat then false else false := by
    have := bl_d2 (m := d.toNat) (m' := d'.toNat) (by omega) (by omega) [] []
    rw [List.append_nil, List.append_nil] at this
    rw [this]; rfl
  rw [e]
  unfold cmp3
  (repeat' split) <;> first | rfl | (exfalso; omega)
theorem list_of (l : List UInt8) : (⟨l.toArray⟩ : ByteArray).toList = l := by rw [Lib.toList_data]
theorem cmp3_rev (y m d y' m' d' : Int) : cmp3 y' m' d' y m d = - cmp3 y m d y' m' d' := by
  unfold cmp3
  (repeat' split) <;> first | rfl | (exfalso; omega)
theorem cmp3_bd (y m d y' m' d' : Int) : -1 ≤ cmp3 y m d y' m' d' ∧ cmp3 y m d y' m' d' ≤ 1 := by
  unfold cmp3
  (repeat' split) <;> omega
theorem cmp3_zero {y m d y' m' d' : Int} : (cmp3 y m d y' m' d' == 0) = true ↔ y = y' ∧ m = m' ∧ d = d' := by
  unfold cmp3
  (repeat' split) <;> simp <;> omega
/-- the order is that of the numbers -/
theorem cmp3_num {y m d y' m' d' : Int} (h : dayB y m d = true) (h' : dayB y' m' d' = true) : decide (0 < num y' m' d' - num y m d) = decide (cmp3 y m d y' m' d' < 0) ∧ (num y' m' d' - num y m d == 0) = (cmp3 y m d y' m' d' == 0) := by
  rcases cmp3_cases y m d y' m' d' h h' with ⟨e, f⟩ | ⟨e, f⟩ | ⟨e, f⟩ <;> rw [e] <;> constructor <;> first | (simp; omega) | (rw [Bool.eq_iff_iff]; simp; omega)
end Go.Proofs.YtkgfmanolanlhaaDoor
