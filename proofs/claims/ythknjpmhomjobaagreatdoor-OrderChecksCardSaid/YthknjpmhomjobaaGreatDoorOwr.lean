/- The law's own answer of what is wrong with an order. -/
import Derived.Test.YthknjpmhomjobaaGreatDoorOrdA
namespace Go.Proofs.YthknjpmhomjobaaGreatDoor
open Go.RowKit
set_option linter.unusedVariables false
set_option linter.unusedSimpArgs false
set_option maxHeartbeats 4000000 in
set_option maxRecDepth 100000 in
theorem owrong_any (i p a r t : Int) (w : World) (v : Int) (hv : chkO i p a r t = v) :
    Calls Tryz.prog 8 #[.agg #[.int .i64 i, .int .i64 p, .int .i64 a, .int .i64 r, .int .i64 t]] w fun e w' => e = .returned (.int .i64 v) ∧ Below w.heap.size w w' := by
  subst hv
  have K := bx_new w [.int .i64 i, .int .i64 p, .int .i64 a, .int .i64 r, .int .i64 t] 23
  have B1 := below_new w (.cells #[.int .i64 i, .int .i64 p, .int .i64 a, .int .i64 r, .int .i64 t] 23)
  have k0 := K.cell (i := 0) rfl
  have k1 := K.cell (i := 1) rfl
  have k2 := K.cell (i := 2) rfl
  have k3 := K.cell (i := 3) rfl
  have k4 := K.cell (i := 4) rfl
  clear K
  by_cases h1 : i < 1 ∨ 999999 < i ∨ p < 0 ∨ 999 < p
  · have HV : Hid (chkO i p a r t = 1) := Lib.hid (by unfold chkO; rw [if_pos h1])
    rcases (show i < 1 ∨ (1 ≤ i ∧ 999999 < i) ∨ (1 ≤ i ∧ i ≤ 999999 ∧ p < 0) ∨ (1 ≤ i ∧ i ≤ 999999 ∧ 0 ≤ p ∧ 999 < p) by omega) with h | ⟨h, h'⟩ | ⟨h, h', h''⟩ | ⟨h, h', h'', h'''⟩
    all_goals
      clear h1
      go_enter Tryz.func8, Tryz.ntmps8
      go_wp2
      go_ret
      exact ⟨ret_i HV.out.symm, B1⟩
  have hi1 : 1 ≤ i := by omega
  have hi2 : i ≤ 999999 := by omega
  have hp1 : 0 ≤ p := by omega
  have hp2 : p ≤ 999 := by omega
  by_cases h2 : (amtB a && amtB t) = false
  · have HV : Hid (chkO i p a r t = 10) := Lib.hid (by unfold chkO; rw [if_neg h1, if_pos h2])
    have h2' : ¬ ((-100000000000 ≤ a ∧ a ≤ 100000000000) ∧ (-100000000000 ≤ t ∧ t ≤ 100000000000)) := fun ⟨⟨e1, e2⟩, e3, e4⟩ => by rw [amtB_mk e1 e2, amtB_mk e3 e4] at h2; cases h2
    rcases (show 100000000000 < a ∨ (a ≤ 100000000000 ∧ a < -100000000000) ∨ (a ≤ 100000000000 ∧ -100000000000 ≤ a ∧ 100000000000 < t) ∨ (a ≤ 100000000000 ∧ -100000000000 ≤ a ∧ t ≤ 100000000000 ∧ t < -100000000000) by omega) with h | ⟨h, h'⟩ | ⟨h, h', h''⟩ | ⟨h, h', h'', h'''⟩
    all_goals
      clear h1 h2 h2'
      go_enter Tryz.func8, Tryz.ntmps8
      go_wp2
      go_ret
      exact ⟨ret_i HV.out.symm, B1⟩
  have h2t : (amtB a && amtB t) = true := by simpa using h2
  obtain ⟨ha1, ha2⟩ := amtB_yes (by simp at h2t; exact h2t.1 : amtB a = true)
  obtain ⟨ht1, ht2⟩ := amtB_yes (by simp at h2t; exact h2t.2 : amtB t = true)
  clear h2t
  by_cases h3 : a < 0 ∨ t < 0
  · have HV : Hid (chkO i p a r t = 1) := Lib.hid (by unfold chkO; rw [if_neg h1, if_neg h2, if_pos h3])
    rcases (show a < 0 ∨ (0 ≤ a ∧ t < 0) by omega) with h | ⟨h, h'⟩
    all_goals
      clear h1 h2 h3
      go_enter Tryz.func8, Tryz.ntmps8
      go_wp2
      go_ret
      exact ⟨ret_i HV.out.symm, B1⟩
  have ha3 : 0 ≤ a := by omega
  have ht3 : 0 ≤ t := by omega
  by_cases h4 : rateB r = false
  · have HV : Hid (chkO i p a r t = 50) := Lib.hid (by unfold chkO; rw [if_neg h1, if_neg h2, if_neg h3, if_pos h4])
    have h4' := rateB_no h4
    rcases (show r < 0 ∨ (0 ≤ r ∧ 10000 < r) by omega) with h | ⟨h, h'⟩
    all_goals
      clear h1 h2 h3 h4 h4'
      go_enter Tryz.func8, Tryz.ntmps8
      go_wp2
      go_ret
      exact ⟨ret_i HV.out.symm, B1⟩
  obtain ⟨hr1, hr2⟩ := rateB_yes (by simpa using h4 : rateB r = true)
  by_cases h5 : a = 0 ∧ r = 0
  · have HV : Hid (chkO i p a r t = 5) := Lib.hid (by unfold chkO; rw [if_neg h1, if_neg h2, if_neg h3, if_neg h4, if_pos h5])
    obtain ⟨rfl, rfl⟩ := h5
    clear h1 h2 h3 h4
    go_enter Tryz.func8, Tryz.ntmps8
    go_wp2
    go_ret
    exact ⟨ret_i HV.out.symm, B1⟩
  · have HV : Hid (chkO i p a r t = 0) := Lib.hid (by unfold chkO; rw [if_neg h1, if_neg h2, if_neg h3, if_neg h4, if_neg h5])
    rcases (show (a == 0) = false ∨ ((a == 0) = true ∧ (r == 0) = false) by
      by_cases h : a = 0
      · exact .inr ⟨by simp [h], by simp; omega⟩
      · exact .inl (by simp [h])) with h | ⟨h, h'⟩
    all_goals
      clear h1 h2 h3 h4 h5
      go_enter Tryz.func8, Tryz.ntmps8
      go_wp2
      go_ret
      exact ⟨ret_i HV.out.symm, B1⟩
end Go.Proofs.YthknjpmhomjobaaGreatDoor
