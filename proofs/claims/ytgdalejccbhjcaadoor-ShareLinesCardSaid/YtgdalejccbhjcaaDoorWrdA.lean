/- What the calls of word answer that look at bytes: quotable, bare, ended, small, digit; the document's Shown and Plain; a text that is cloned; Quote. -/
import Derived.Test.YtgdalejccbhjcaaDoorWrd
import Derived.Test.YtgdalejccbhjcaaDoorCodC
namespace Go.Proofs.YtgdalejccbhjcaaDoor
open Go.RowKit
set_option linter.unusedVariables false
set_option linter.unusedSimpArgs false

theorem quotable_any (b : UInt8) (w : World) : Calls Tryd.prog 53 #[.int .u8 (b.toNat : Int)] w fun e w' => e = .returned (.bool (shwB b)) ∧ w = w' := by
  obtain ⟨u0, u9⟩ := u8_bd b
  have he : shwB b = decide (32 ≤ (b.toNat : Int) ∧ (b.toNat : Int) ≤ 126 ∧ (b.toNat : Int) ≠ 34) := rfl
  rw [he]
  generalize (b.toNat : Int) = c at *
  by_cases h1 : c < 32
  · rw [decide_eq_false (by omega)]
    have h1' : ¬ 32 ≤ c := by omega
    go_enter Tryd.func53, Tryd.ntmps53
    go_wp2
    go_ret
    exact ⟨rfl, rfl⟩
  have h1' : 32 ≤ c := by omega
  by_cases h2 : 126 < c
  · rw [decide_eq_false (by omega)]
    have h2' : ¬ c ≤ 126 := by omega
    go_enter Tryd.func53, Tryd.ntmps53
    go_wp2
    go_ret
    exact ⟨rfl, rfl⟩
  have h2' : c ≤ 126 := by omega
  by_cases h3 : c = 34
  · rw [decide_eq_false (by omega)]
    have t : (c != 34) = false := by simpa using h3
    clear h3 he
    go_enter Tryd.func53, Tryd.ntmps53
    go_wp2
    go_ret
    exact ⟨rfl, rfl⟩
  · rw [decide_eq_true (by omega)]
    have t : (c != 34) = true := by simpa using h3
    clear h3 he
    go_enter Tryd.func53, Tryd.ntmps53
    go_wp2
    go_ret
    exact ⟨rfl, rfl⟩
theorem bare_any (b : UInt8) (w : World) : Calls Tryd.prog 50 #[.int .u8 (b.toNat : Int)] w fun e w' => e = .returned (.bool (plnB b)) ∧ w = w' := by
  have qt := fun w => quotable_any b w
  obtain ⟨u0, u9⟩ := u8_bd b
  cases hs : shwB b
  · have hp : plnB b = false := by
      cases hq : plnB b
      · rfl
      · rw [pln_shw hq] at hs; cases hs
    rw [hp]
    rw [hs] at qt
    clear hs hp
    go_enter Tryd.func50, Tryd.ntmps50
    go_wp2_with (fail)
    refine (qt _).mono ?_
    rintro e w' ⟨rfl, rfl⟩
    go_wp2
    go_ret
    exact ⟨rfl, rfl⟩
  · rw [shw_pln hs]
    rw [hs] at qt
    clear hs
    generalize (b.toNat : Int) = c at *
    by_cases h1 : c = 32
    · have t : (c != 32) = false := by simpa using h1
      have e : (!decide (c = 32) && !decide (c = 35)) = false := by simp [h1]
      rw [e]
      clear h1 e
      go_enter Tryd.func50, Tryd.ntmps50
      go_wp2_with (fail)
      refine (qt _).mono ?_
      rintro e w' ⟨rfl, rfl⟩
      go_wp2
      go_ret
      exact ⟨rfl, rfl⟩
    have t : (c != 32) = true := by simpa using h1
    by_cases h2 : c = 35
    · have t2 : (c != 35) = false := by simpa using h2
      have e : (!decide (c = 32) && !decide (c = 35)) = false := by simp [h2]
      rw [e]
      clear h1 h2 e
      go_enter Tryd.func50, Tryd.ntmps50
      go_wp2_with (fail)
      refine (qt _).mono ?_
      rintro e w' ⟨rfl, rfl⟩
      go_wp2
      go_ret
      exact ⟨rfl, rfl⟩
    · have t2 : (c != 35) = true := by simpa using h2
      have e : (!decide (c = 32) && !decide (c = 35)) = true := by simp [h1, h2]
      rw [e]
      clear h1 h2 e
      go_enter Tryd.func50, Tryd.ntmps50
      go_wp2_with (fail)
      refine (qt _).mono ?_
      rintro e w' ⟨rfl, rfl⟩
      go_wp2
      go_ret
      exact ⟨rfl, rfl⟩
theorem quotable_b (b : UInt8) (v : Bool) (h : shwB b = v) (w : World) : Calls Tryd.prog 53 #[.int .u8 (b.toNat : Int)] w fun e w' => e = .returned (.bool v) ∧ w = w' := by
  subst h; exact quotable_any b w
theorem bare_b (b : UInt8) (v : Bool) (h : plnB b = v) (w : World) : Calls Tryd.prog 50 #[.int .u8 (b.toNat : Int)] w fun e w' => e = .returned (.bool v) ∧ w = w' := by
  subst h; exact bare_any b w
theorem clone_any (s : ByteArray) (w : World) (hs : s.size ≤ 281474976710656) : Calls Tryd.prog 52 #[.string s] w fun e w' => e = .returned (.string s) ∧ Below w.heap.size w w' := by
  have c := fun w => Tryd.stringslite_Clone s w hs
  go_enter Tryd.func52, Tryd.ntmps52
  go_wp2_with (fail)
  refine (c _).mono ?_
  rintro e w1 ⟨rfl, hb⟩
  go_wp2
  go_ret
  exact ⟨rfl, hb⟩
end Go.Proofs.YtgdalejccbhjcaaDoor
