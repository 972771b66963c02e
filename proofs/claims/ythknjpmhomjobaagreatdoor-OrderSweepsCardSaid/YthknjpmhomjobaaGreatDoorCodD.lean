/- What the calls of code answer that read: kindOf, Parse. -/
import Derived.Test.YthknjpmhomjobaaGreatDoorCodC
namespace Go.Proofs.YthknjpmhomjobaaGreatDoor
open Go.RowKit
set_option linter.unusedVariables false
set_option linter.unusedSimpArgs false

theorem has_suf (c : UInt8) (l : List UInt8) : Lib.hasSuffix l [c] = sufB c l := by
  unfold Lib.hasSuffix sufB
  rcases List.eq_nil_or_concat l with rfl | ⟨r, d, rfl⟩
  · rfl
  · rw [List.concat_eq_append, List.getLast?_append]
    simp only [List.isSuffixOf, List.reverse_append, List.reverse_cons, List.reverse_nil, List.nil_append, List.singleton_append, List.isPrefixOf, List.cons_append]
    rw [Bool.eq_iff_iff]
    simp
    exact eq_comm
theorem trim_suf (c : UInt8) (l : List UInt8) : Lib.trimSuffix l [c] = if sufB c l = true then l.dropLast else l := by
  unfold Lib.trimSuffix
  rw [has_suf]
  split
  · simp [List.dropLast_eq_take]
  · rfl
theorem has_pre (c : UInt8) (l : List UInt8) : Lib.hasPrefix l [c] = preB c l := by
  unfold Lib.hasPrefix preB
  cases l with
  | nil => rfl
  | cons d r =>
    rw [Bool.eq_iff_iff]
    simp [List.isPrefixOf]
    exact eq_comm
theorem trim_pre (c : UInt8) (l : List UInt8) : Lib.trimPrefix l [c] = if preB c l = true then l.tail else l := by
  unfold Lib.trimPrefix
  rw [has_pre]
  split
  · simp
  · rfl
/-- a text without what was cut off -/
def Sh (T s : ByteArray) (l : List UInt8) : Prop := T.data.toList = l ∧ T.size ≤ s.size
theorem trimP_le (s p : List UInt8) : (Lib.trimPrefix s p).length ≤ s.length := by
  unfold Lib.trimPrefix
  split
  · simp
  · exact Nat.le_refl _
theorem cutP_any (c : UInt8) (s : ByteArray) (b : Bool) (hb : preB c s.data.toList = b) :
    ∃ T : ByteArray, Sh T s (if b = true then s.data.toList.tail else s.data.toList) ∧ ∀ w : World, Calls Tryz.prog 53 #[.string s, .string ⟨#[c]⟩] w fun e w' => e = .returned (.tuple #[.string T, .bool b]) ∧ w = w' := by
  refine ⟨⟨(Lib.trimPrefix s.data.toList [c]).toArray⟩, ⟨by rw [trim_pre, hb], ?_⟩, fun w => ?_⟩
  · have := trimP_le s.data.toList [c]
    rw [← data_len s]
    exact this
  · refine (Tryz.strings_CutPrefix s ⟨#[c]⟩ w).mono ?_
    rintro e w' ⟨rfl, rfl⟩
    refine ⟨?_, rfl⟩
    rw [show (⟨#[c]⟩ : ByteArray).data.toList = [c] from rfl, has_pre, hb]
def KndP (l : List UInt8) (w : World) (e : Ending) (w' : World) : Prop := e = .returned (.tuple #[.int .i64 (kndV l).1, .int .i64 (kndV l).2.1, .bool (kndV l).2.2]) ∧ w = w'
theorem kndP_mk {l : List UInt8} {w : World} {a b : Int} {c : Bool} (h : kndV l = (a, b, c)) : KndP l w (.returned (.tuple #[.int .i64 a, .int .i64 b, .bool c])) w := by
  refine ⟨?_, rfl⟩
  rw [h]
theorem kndV_L {l : List UInt8} (h : sufB 76 l = true) : kndV l = numV 1 l.dropLast := by unfold kndV; rw [if_pos h]
theorem kndV_K {l : List UInt8} (h : sufB 76 l = false) (h2 : preB 75 l = true) : kndV l = numV 2 l.tail := by unfold kndV; rw [if_neg (by simp [h]), if_pos h2]
theorem kndV_D {l : List UInt8} (h : sufB 76 l = false) (h2 : preB 75 l = false) (h3 : preB 68 l = true) : kndV l = numV 3 l.tail := by unfold kndV; rw [if_neg (by simp [h]), if_neg (by simp [h2]), if_pos h3]
theorem kndV_N {l : List UInt8} (h : sufB 76 l = false) (h2 : preB 75 l = false) (h3 : preB 68 l = false) : kndV l = (4, 0, l == [78, 84]) := by unfold kndV; rw [if_neg (by simp [h]), if_neg (by simp [h2]), if_neg (by simp [h3])]
end Go.Proofs.YthknjpmhomjobaaGreatDoor
