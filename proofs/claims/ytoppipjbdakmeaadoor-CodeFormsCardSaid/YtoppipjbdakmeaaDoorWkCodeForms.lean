/- CodeForms: the whole walk. -/
import Derived.Test.YtoppipjbdakmeaaDoorForm00a
import Derived.Test.YtoppipjbdakmeaaDoorForm00c
import Derived.Test.YtoppipjbdakmeaaDoorForm00e
import Derived.Test.YtoppipjbdakmeaaDoorForm01a
import Derived.Test.YtoppipjbdakmeaaDoorForm01c
import Derived.Test.YtoppipjbdakmeaaDoorForm01e
import Derived.Test.YtoppipjbdakmeaaDoorForm10a
import Derived.Test.YtoppipjbdakmeaaDoorForm10c
import Derived.Test.YtoppipjbdakmeaaDoorForm10e
import Derived.Test.YtoppipjbdakmeaaDoorForm11a
import Derived.Test.YtoppipjbdakmeaaDoorForm11c
import Derived.Test.YtoppipjbdakmeaaDoorForm11e
namespace Go.Proofs.YtoppipjbdakmeaaDoor
open Go.RowKit
set_option linter.unusedVariables false
set_option linter.unusedSimpArgs false

theorem five (t : ByteArray) : Hid (t.size = 0) ∨ 6 < t.size ∨ Hid (t.size = 1) ∨ (∃ (h : 0 < t.size), t.size ≤ 6 ∧ 1 < t.size ∧ Hid (t[0] = 48)) ∨ (∃ (h : 0 < t.size), t.size ≤ 6 ∧ 1 < t.size ∧ Hid (t[0] ≠ 48)) := by
  by_cases h0 : t.size = 0
  · exact .inl (Lib.hid h0)
  by_cases h7 : 6 < t.size
  · exact .inr (.inl h7)
  by_cases h1 : t.size = 1
  · exact .inr (.inr (.inl (Lib.hid h1)))
  by_cases h48 : t[0] = 48
  · exact .inr (.inr (.inr (.inl ⟨by omega, by omega, by omega, Lib.hid h48⟩)))
  · exact .inr (.inr (.inr (.inr ⟨by omega, by omega, by omega, Lib.hid h48⟩)))
set_option maxHeartbeats 4000000 in
set_option maxRecDepth 100000 in
theorem forms_out (s kd : Int) (t : ByteArray) (w : World) (D : Tab w) (hs : t.size ≤ 9223372036854775807) (h : 30 < t.size ∨ (t.size ≤ 30 ∧ s < 0) ∨ (t.size ≤ 30 ∧ 0 ≤ s ∧ 9 < s) ∨ (t.size ≤ 30 ∧ 0 ≤ s ∧ s ≤ 9 ∧ kd < 0) ∨ (t.size ≤ 30 ∧ 0 ≤ s ∧ s ≤ 9 ∧ 0 ≤ kd ∧ 3 < kd)) :
    Calls Tryd.prog 4 #[.int .i64 s, .int .i64 kd, .string t] w fun e w' => e = .returned (.bool true) ∧ Below w.heap.size w w' := by
  have C0 := fun w D => codes_any w D
  rcases h with h | ⟨h0, h⟩ | ⟨h0, h1, h⟩ | ⟨h0, h1, h2, h⟩ | ⟨h0, h1, h2, h3, h⟩
  · have t1 : decide ((30 : Int) < t.size) = true := by simp; omega
    clear h
    go_enter Tryd.func4, Tryd.ntmps4
    go_wp2_with (fail)
    refine (C0 _ D).mono ?_
    rintro e w1 ⟨rfl, B1⟩
    go_wp2
    go_ret
    exact ⟨rfl, B1⟩
  · have t1 : decide ((30 : Int) < t.size) = false := by simp; omega
    have t2 : decide (s < 0) = true := by simpa using h
    clear h
    go_enter Tryd.func4, Tryd.ntmps4
    go_wp2_with (fail)
    refine (C0 _ D).mono ?_
    rintro e w1 ⟨rfl, B1⟩
    go_wp2
    go_ret
    exact ⟨rfl, B1⟩
  · have t1 : decide ((30 : Int) < t.size) = false := by simp; omega
    have t2 : decide (s < 0) = false := by simpa using h1
    have t3 : decide (9 < s) = true := by simpa using h
    clear h h1
    go_enter Tryd.func4, Tryd.ntmps4
    go_wp2_with (fail)
    refine (C0 _ D).mono ?_
    rintro e w1 ⟨rfl, B1⟩
    go_wp2
    go_ret
    exact ⟨rfl, B1⟩
  · have t1 : decide ((30 : Int) < t.size) = false := by simp; omega
    have t2 : decide (s < 0) = false := by simpa using h1
    have t3 : decide (9 < s) = false := by simpa using h2
    have t4 : decide (kd < 0) = true := by simpa using h
    clear h h1 h2
    go_enter Tryd.func4, Tryd.ntmps4
    go_wp2_with (fail)
    refine (C0 _ D).mono ?_
    rintro e w1 ⟨rfl, B1⟩
    go_wp2
    go_ret
    exact ⟨rfl, B1⟩
  · have t1 : decide ((30 : Int) < t.size) = false := by simp; omega
    have t2 : decide (s < 0) = false := by simpa using h1
    have t3 : decide (9 < s) = false := by simpa using h2
    have t4 : decide (kd < 0) = false := by simpa using h3
    have t5 : decide (3 < kd) = true := by simpa using h
    clear h h1 h2 h3
    go_enter Tryd.func4, Tryd.ntmps4
    go_wp2_with (fail)
    refine (C0 _ D).mono ?_
    rintro e w1 ⟨rfl, B1⟩
    go_wp2
    go_ret
    exact ⟨rfl, B1⟩
theorem wCodeForms (s kd : Int) (t : ByteArray) (w : World) (D : Tab w) (bs : -9223372036854775808 ≤ s ∧ s ≤ 9223372036854775807) (bk : -9223372036854775808 ≤ kd ∧ kd ≤ 9223372036854775807) (hs : t.size ≤ 9223372036854775807) :
    Calls Tryd.prog 4 #[.int .i64 s, .int .i64 kd, .string t] w fun e w' => e = .returned (.bool true) ∧ Below w.heap.size w w' := by
  by_cases hin : t.size ≤ 30 ∧ 0 ≤ s ∧ s ≤ 9 ∧ 0 ≤ kd ∧ kd ≤ 3
  · obtain ⟨hz, s0, s9, k0, k3⟩ := hin
    have hB : ∃ B : ByteArray, (∀ W, (Instr.index 44 (.agg #[.string (t ++ ⟨#[76]⟩), .string (⟨#[75]⟩ ++ t), .string (⟨#[68]⟩ ++ t), .string ⟨#[78, 84]⟩]) (.int .i64 kd)).run Tryd.prog W = .ok (.string B) W) ∧ B.data.toList = bodyF kd t.data.toList ∧ B.size ≤ 31 := by
      rcases (show kd = 0 ∨ kd = 1 ∨ kd = 2 ∨ kd = 3 by omega) with rfl | rfl | rfl | rfl
      · exact ⟨_, fun W => (arr4 _ _ _ _ W).1, by simp [bodyF, ByteArray.data_append], by rw [ByteArray.size_append]; show t.size + 1 ≤ 31; omega⟩
      · exact ⟨_, fun W => (arr4 _ _ _ _ W).2.1, by simp [bodyF, ByteArray.data_append], by rw [ByteArray.size_append]; show 1 + t.size ≤ 31; omega⟩
      · exact ⟨_, fun W => (arr4 _ _ _ _ W).2.2.1, by simp [bodyF, ByteArray.data_append], by rw [ByteArray.size_append]; show 1 + t.size ≤ 31; omega⟩
      · exact ⟨_, fun W => (arr4 _ _ _ _ W).2.2.2, by simp [bodyF], by decide⟩
    obtain ⟨B, hix, hBd, hBz⟩ := hB
    by_cases h0 : s = 0
    · subst h0
      cases hx : ((t.size : Int) % 2 == 1)
      · rcases five t with h | h | h | ⟨h1, h2, h3, h⟩ | ⟨h1, h2, h3, h⟩
        · exact forms_00a kd t B w D k0 k3 hz hx hix hBd hBz h
        · exact forms_00b kd t B w D k0 k3 hz hx hix hBd hBz h
        · exact forms_00c kd t B w D k0 k3 hz hx hix hBd hBz h
        · exact forms_00d kd t B w D k0 k3 hz hx hix hBd hBz h1 h2 h3 h
        · exact forms_00e kd t B w D k0 k3 hz hx hix hBd hBz h1 h2 h3 h
      · rcases five t with h | h | h | ⟨h1, h2, h3, h⟩ | ⟨h1, h2, h3, h⟩
        · exact forms_01a kd t B w D k0 k3 hz hx hix hBd hBz h
        · exact forms_01b kd t B w D k0 k3 hz hx hix hBd hBz h
        · exact forms_01c kd t B w D k0 k3 hz hx hix hBd hBz h
        · exact forms_01d kd t B w D k0 k3 hz hx hix hBd hBz h1 h2 h3 h
        · exact forms_01e kd t B w D k0 k3 hz hx hix hBd hBz h1 h2 h3 h
    · cases hx : ((t.size : Int) % 2 == 1)
      · rcases five t with h | h | h | ⟨h1, h2, h3, h⟩ | ⟨h1, h2, h3, h⟩
        · exact forms_10a s kd t B w D (by omega) s9 _ (Lib.hid rfl) k0 k3 hz hx hix hBd hBz h
        · exact forms_10b s kd t B w D (by omega) s9 _ (Lib.hid rfl) k0 k3 hz hx hix hBd hBz h
        · exact forms_10c s kd t B w D (by omega) s9 _ (Lib.hid rfl) k0 k3 hz hx hix hBd hBz h
        · exact forms_10d s kd t B w D (by omega) s9 _ (Lib.hid rfl) k0 k3 hz hx hix hBd hBz h1 h2 h3 h
        · exact forms_10e s kd t B w D (by omega) s9 _ (Lib.hid rfl) k0 k3 hz hx hix hBd hBz h1 h2 h3 h
      · rcases five t with h | h | h | ⟨h1, h2, h3, h⟩ | ⟨h1, h2, h3, h⟩
        · exact forms_11a s kd t B w D (by omega) s9 _ (Lib.hid rfl) k0 k3 hz hx hix hBd hBz h
        · exact forms_11b s kd t B w D (by omega) s9 _ (Lib.hid rfl) k0 k3 hz hx hix hBd hBz h
        · exact forms_11c s kd t B w D (by omega) s9 _ (Lib.hid rfl) k0 k3 hz hx hix hBd hBz h
        · exact forms_11d s kd t B w D (by omega) s9 _ (Lib.hid rfl) k0 k3 hz hx hix hBd hBz h1 h2 h3 h
        · exact forms_11e s kd t B w D (by omega) s9 _ (Lib.hid rfl) k0 k3 hz hx hix hBd hBz h1 h2 h3 h
  · exact forms_out s kd t w D hs (by omega)
end Go.Proofs.YtoppipjbdakmeaaDoor
