/- What the calls of code answer that read: numbered, scheme, kindOf. -/
import Derived.Test.YthknjpmhomjobaaGreatDoorCodT
import Derived.Test.YthknjpmhomjobaaGreatDoorCodB
import Derived.Test.YthknjpmhomjobaaGreatDoorShelf
import Derived.LoopTactic
namespace Go.Proofs.YthknjpmhomjobaaGreatDoor
open Go.RowKit
set_option linter.unusedVariables false
set_option linter.unusedSimpArgs false

def NumP (k : Int) (l : List UInt8) (w : World) (e : Ending) (w' : World) : Prop := e = .returned (.tuple #[.int .i64 (numV k l).1, .int .i64 (numV k l).2.1, .bool (numV k l).2.2]) ∧ w = w'
theorem numP_no {k : Int} {l : List UInt8} {w : World} (h : numB l = false) : NumP k l w (.returned (.tuple #[.int .i64 0, .int .i64 0, .bool false])) w := by
  have : numV k l = (0, 0, false) := by unfold numV; rw [if_neg (by simp [h])]
  exact ⟨by rw [this], rfl⟩
theorem numP_yes {k : Int} {l : List UInt8} {w : World} {n : Int} (h : numB l = true) (hn : n = numG 0 l) : NumP k l w (.returned (.tuple #[.int .i64 k, .int .i64 n, .bool true])) w := by
  have : numV k l = (k, numG 0 l, true) := by unfold numV; rw [if_pos h]
  exact ⟨by rw [this, hn], rfl⟩
theorem numB_of {s : ByteArray} (h0 : 0 < s.size) (h6 : s.size ≤ 6) (hz : s.size = 1 ∨ s[0].toNat ≠ 48) : numB s.data.toList = s.data.toList.all isDg := by
  have hl := data_len s
  have hh := head_ofQ s h0
  have he : s.data.toList.isEmpty = false := by
    cases hd : s.data.toList with
    | nil => rw [hd] at hl; simp at hl; omega
    | cons a l => rfl
  unfold numB
  rw [hl, hh, he, decide_eq_true h6]
  rcases hz with hz | hz
  · rw [hz]; simp
  · have : ¬ s[0] = 48 := fun e => hz (by rw [e]; rfl)
    have : (some s[0] == some 48) = false := by simpa using this
    rw [this]; simp
theorem numB_long {s : ByteArray} (h6 : 6 < s.size) : numB s.data.toList = false := by
  have hl := data_len s
  unfold numB
  rw [hl, decide_eq_false (by omega)]
  simp
theorem numB_empty {s : ByteArray} (h : s.size = 0) : numB s.data.toList = false := by
  have hl := data_len s
  have : s.data.toList = [] := List.length_eq_zero_iff.1 (by omega)
  rw [this]
  rfl
theorem numB_zero {s : ByteArray} (h1 : 1 < s.size) (hz : s[0].toNat = 48) : numB s.data.toList = false := by
  have hl := data_len s
  have hh := head_ofQ s (by omega)
  have e : s[0] = 48 := UInt8.toNat_inj.1 hz
  unfold numB
  rw [hl, hh, e, decide_eq_true h1]
  simp
def SchP (l : List UInt8) (w : World) (e : Ending) (w' : World) : Prop := e = .returned (.tuple #[.int .i64 (schV l).1, .string ⟨(schV l).2.toArray⟩]) ∧ w = w'
theorem ix_no (c : UInt8) (h : ¬ (80 ≤ (c.toNat : Int) ∧ (c.toNat : Int) ≤ 86)) : Lib.indexByte [80, 81, 82, 83, 84, 85, 86] c = -1 := by
  have h2 : c ≠ 80 ∧ c ≠ 81 ∧ c ≠ 82 ∧ c ≠ 83 ∧ c ≠ 84 ∧ c ≠ 85 ∧ c ≠ 86 := by
    refine ⟨?_, ?_, ?_, ?_, ?_, ?_, ?_⟩ <;> (intro e; apply h; rw [e]; decide)
  obtain ⟨a0, a1, a2, a3, a4, a5, a6⟩ := h2
  simp [Lib.indexByte, Ne.symm a0, Ne.symm a1, Ne.symm a2, Ne.symm a3, Ne.symm a4, Ne.symm a5, Ne.symm a6]
theorem ix_yes (c : UInt8) (h : 80 ≤ (c.toNat : Int)) (h' : (c.toNat : Int) ≤ 86) : Lib.indexByte [80, 81, 82, 83, 84, 85, 86] c = (c.toNat : Int) - 80 := by
  have h2 : c = 80 ∨ c = 81 ∨ c = 82 ∨ c = 83 ∨ c = 84 ∨ c = 85 ∨ c = 86 := by
    have : ∀ n : UInt8, c.toNat = n.toNat → c = n := fun n e => UInt8.toNat_inj.1 e
    rcases (show c.toNat = 80 ∨ c.toNat = 81 ∨ c.toNat = 82 ∨ c.toNat = 83 ∨ c.toNat = 84 ∨ c.toNat = 85 ∨ c.toNat = 86 by omega) with q | q | q | q | q | q | q
    · exact .inl (this 80 q)
    · exact .inr (.inl (this 81 q))
    · exact .inr (.inr (.inl (this 82 q)))
    · exact .inr (.inr (.inr (.inl (this 83 q))))
    · exact .inr (.inr (.inr (.inr (.inl (this 84 q)))))
    · exact .inr (.inr (.inr (.inr (.inr (.inl (this 85 q))))))
    · exact .inr (.inr (.inr (.inr (.inr (.inr (this 86 q))))))
  rcases h2 with rfl | rfl | rfl | rfl | rfl | rfl | rfl <;> decide
theorem ext_tail (s : ByteArray) (h : 0 < s.size) : s.extract 1 s.size = ⟨s.data.toList.tail.toArray⟩ := by
  apply ByteArray.ext
  apply Array.ext'
  rw [ByteArray.data_extract]
  simp
  exact List.take_of_length_le (by simp)
theorem data_self (s : ByteArray) : (⟨s.data.toList.toArray⟩ : ByteArray) = s := by
  apply ByteArray.ext
  simp
theorem schP_mk {l : List UInt8} {w : World} {n : Int} {t : ByteArray} (h : schV l = (n, t.data.toList)) : SchP l w (.returned (.tuple #[.int .i64 n, .string t])) w := by
  refine ⟨?_, rfl⟩
  rw [h]
end Go.Proofs.YthknjpmhomjobaaGreatDoor
