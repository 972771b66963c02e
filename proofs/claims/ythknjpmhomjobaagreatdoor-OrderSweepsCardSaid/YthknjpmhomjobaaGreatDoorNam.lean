/- Which words are names: word.Name, byte by byte. -/
import Derived.Test.YthknjpmhomjobaaGreatDoorRight
import Derived.RegionTactic
import Derived.WalkLawsBesides
import Derived.Lib.Hide
import Derived.Lib.Strings
import Derived.LoopTactic
namespace Go.Proofs.YthknjpmhomjobaaGreatDoor
open Go.RowKit
set_option linter.unusedVariables false
set_option linter.unusedSimpArgs false

def isDg (c : UInt8) : Bool := decide (48 ≤ (c.toNat : Int) ∧ (c.toNat : Int) ≤ 57)
theorem isDg_no {c : UInt8} (h : isDg c = false) : (c.toNat : Int) < 48 ∨ 57 < (c.toNat : Int) := by
  have : ¬ (48 ≤ (c.toNat : Int) ∧ (c.toNat : Int) ≤ 57) := by simpa only [isDg, decide_eq_false_iff_not] using h
  omega
theorem isDg_yes {c : UInt8} (h : isDg c = true) : 48 ≤ (c.toNat : Int) ∧ (c.toNat : Int) ≤ 57 := by simpa only [isDg, decide_eq_true_eq] using h
def smlB (c : UInt8) : Bool := decide (97 ≤ (c.toNat : Int) ∧ (c.toNat : Int) ≤ 122)
theorem smlB_yes {c : UInt8} (h : smlB c = true) : 97 ≤ (c.toNat : Int) ∧ (c.toNat : Int) ≤ 122 := by simpa only [smlB, decide_eq_true_eq] using h
theorem smlB_no {c : UInt8} (h : smlB c = false) : (c.toNat : Int) < 97 ∨ 122 < (c.toNat : Int) := by
  have : ¬ (97 ≤ (c.toNat : Int) ∧ (c.toNat : Int) ≤ 122) := by simpa only [smlB, decide_eq_false_iff_not] using h
  omega
theorem byte_eq {c d : UInt8} (h : (c.toNat : Int) = (d.toNat : Int)) : c = d := UInt8.toNat_inj.1 (by omega)
theorem u8_bd (b : UInt8) : 0 ≤ (b.toNat : Int) ∧ (b.toNat : Int) ≤ 255 := by have := b.toNat_lt; omega
theorem data_len (s : ByteArray) : s.data.toList.length = s.size := by simp
theorem toList_someQ (s : ByteArray) (h : 0 < s.size) : ¬ s.toList = [] ∧ s.toList.isEmpty = false := by
  have e : s.toList.length = s.size := by rw [Lib.toList_data]; simp
  cases hl : s.toList with
  | nil => rw [hl] at e; simp at e; omega
  | cons a l => simp
theorem toList_noneQ (s : ByteArray) (h : s.size = 0) : s.toList = [] := by
  have e : s.toList.length = s.size := by rw [Lib.toList_data]; simp
  exact List.length_eq_zero_iff.1 (by omega)
theorem head_ofQ (s : ByteArray) (h : 0 < s.size) : s.data.toList.head? = some s[0] := by
  rw [List.head?_eq_getElem?, List.getElem?_eq_getElem (by simpa using h)]; rfl
theorem byte_takeQ (s : ByteArray) (k : Nat) (h : k < s.size) : s.data.toList.take (k + 1) = s.data.toList.take k ++ [s[k]] := by
  rw [List.take_succ_eq_append_getElem (by simpa using h)]; rfl
theorem drop_atQ (s : ByteArray) (k : Nat) (h : k < s.size) : s.data.toList.drop k = s[k] :: s.data.toList.drop (k + 1) := by
  rw [List.drop_eq_getElem_cons (by simpa using h)]; rfl
theorem all_bad {p : UInt8 → Bool} {s : ByteArray} {k : Nat} (h : k < s.size) (hc : p s[k] = false) : s.data.toList.all p = false := by
  rw [List.all_eq_false]
  refine ⟨s[k], ?_, by simp [hc]⟩
  have : s.data.toList[k]? = some s[k] := by
    rw [List.getElem?_eq_getElem (by simpa using h)]; rfl
  exact List.mem_of_getElem? this
theorem all_take {p : UInt8 → Bool} {s : ByteArray} {k : Nat} (h : k < s.size) (ha : (s.data.toList.take k).all p = true) : (s.data.toList.take (k + 1)).all p = p s[k] := by
  rw [byte_takeQ s k h, List.all_append, ha]
  simp
theorem take_all (s : ByteArray) : s.data.toList.take s.size = s.data.toList := List.take_of_length_le (by simp)
theorem cons_of (s : ByteArray) (h : 0 < s.size) : s.data.toList = s[0] :: s.data.toList.tail := by
  have := drop_atQ s 0 h
  simpa using this
theorem digit_b (b : UInt8) (v : Bool) (h : isDg b = v) (w : World) : Calls Tryz.prog 78 #[.int .u8 (b.toNat : Int)] w fun e w' => e = .returned (.bool v) ∧ w = w' := by
  obtain ⟨u0, u9⟩ := u8_bd b
  have he : isDg b = decide (48 ≤ (b.toNat : Int) ∧ (b.toNat : Int) ≤ 57) := rfl
  rw [he] at h
  subst h
  generalize (b.toNat : Int) = c at *
  by_cases h1 : 48 ≤ c
  · by_cases h2 : c ≤ 57
    · rw [decide_eq_true (by omega)]
      go_enter Tryz.func78, Tryz.ntmps78
      go_wp2
      go_ret
      exact ⟨rfl, rfl⟩
    · rw [decide_eq_false (by omega)]
      go_enter Tryz.func78, Tryz.ntmps78
      go_wp2
      go_ret
      exact ⟨rfl, rfl⟩
  · rw [decide_eq_false (by omega)]
    go_enter Tryz.func78, Tryz.ntmps78
    go_wp2
    go_ret
    exact ⟨rfl, rfl⟩
/-- may a byte stand behind a name's first one? -/
def namB (c : UInt8) : Bool := smlB c || isDg c || decide ((c.toNat : Int) = 45)
/-- is it a name? -/
def nameB (l : List UInt8) : Bool := !l.isEmpty && decide (l.length ≤ 16) && (match l with | [] => false | c :: _ => smlB c) && l.all namB
theorem nameB_empty {s : ByteArray} (h : s.size = 0) : nameB s.data.toList = false := by
  rw [List.length_eq_zero_iff.1 (show s.data.toList.length = 0 by simp [h])]; rfl
theorem nameB_long {s : ByteArray} (h : 16 < s.size) : nameB s.data.toList = false := by
  have hl := data_len s
  unfold nameB
  rw [hl, decide_eq_false (by omega)]
  simp
theorem nameB_of {s : ByteArray} (h0 : 0 < s.size) (h : s.size ≤ 16) : nameB s.data.toList = (smlB s[0] && s.data.toList.all namB) := by
  have hl := data_len s
  have hc := cons_of s h0
  unfold nameB
  rw [hl, decide_eq_true h]
  have h1 : s.data.toList.isEmpty = false := by rw [hc]; rfl
  have h2 : (match s.data.toList with | [] => false | c :: _ => smlB c) = smlB s[0] := by rw [hc]
  rw [h1, h2]
  simp
end Go.Proofs.YthknjpmhomjobaaGreatDoor
