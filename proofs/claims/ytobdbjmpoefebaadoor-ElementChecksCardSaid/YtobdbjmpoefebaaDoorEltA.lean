/- What an element is worth: element.Value of any element. -/
import Derived.Test.YtobdbjmpoefebaaDoorFracA
import Derived.Test.YtobdbjmpoefebaaDoorMoneyA
namespace Go.Proofs.YtobdbjmpoefebaaDoor
open Go.RowKit
set_option linter.unusedVariables false
set_option linter.unusedSimpArgs false

/-- an element: its kind's name, its amount, its units -/
structure EB where
  N : ByteArray
  A : Int
  U : Int
def EB.v (e : EB) : Value := .agg #[.string e.N, .int .i64 e.A, .int .i64 e.U]
def oftB (u : Int) : Bool := decide (0 ≤ u ∧ u ≤ 100000)
theorem oftB_yes {x : Int} (h : oftB x = true) : 0 ≤ x ∧ x ≤ 100000 := by simpa [oftB] using h
theorem oftB_no {x : Int} (h : oftB x = false) : x < 0 ∨ 100000 < x := by
  have : ¬ (0 ≤ x ∧ x ≤ 100000) := by simpa [oftB] using h
  omega
theorem often_b (u : Int) (v : Bool) (h : oftB u = v) (w : World) : Calls Tryd.prog 57 #[.int .i64 u] w fun e w' => e = .returned (.bool v) ∧ w = w' := by
  subst h
  by_cases h0 : 0 ≤ u
  · by_cases h1 : u ≤ 100000
    · rw [show oftB u = true by simp [oftB, h0, h1]]
      go_enter Tryd.func57, Tryd.ntmps57
      go_wp2
      go_ret
      exact ⟨rfl, rfl⟩
    · rw [show oftB u = false by simp [oftB, h0, h1]]
      go_enter Tryd.func57, Tryd.ntmps57
      go_wp2
      go_ret
      exact ⟨rfl, rfl⟩
  · rw [show oftB u = false by simp [oftB, h0]]
    go_enter Tryd.func57, Tryd.ntmps57
    go_wp2
    go_ret
    exact ⟨rfl, rfl⟩
/-- an amount, so often, to the nearest -/
def hal (a u : Int) : Int := rnd (a * u) 100 4
def valE (a u : Int) : Int := if amtB a = false then 10 else if oftB u = false then 1 else if amtB (hal a u) = false then 10 else 0
def valV (a u : Int) : Int := if valE a u = 0 then hal a u else 0
theorem valE_ok {a u : Int} (h : valE a u = 0) : amtB a = true ∧ oftB u = true ∧ amtB (hal a u) = true := by
  unfold valE at h
  cases h1 : amtB a
  · rw [h1] at h; simp at h
  · cases h2 : oftB u
    · rw [h1, h2] at h; simp at h
    · cases h3 : amtB (hal a u)
      · rw [h1, h2, h3] at h; simp at h
      · exact ⟨rfl, rfl, rfl⟩
theorem valE_cases (a u : Int) : valE a u = 0 ∨ valE a u = 1 ∨ valE a u = 10 := by
  unfold valE
  split
  · exact .inr (.inr rfl)
  · split
    · exact .inr (.inl rfl)
    · split
      · exact .inr (.inr rfl)
      · exact .inl rfl
theorem valV_amt (a u : Int) : amtB (valV a u) = true := by
  unfold valV
  split
  · rename_i h
    exact (valE_ok h).2.2
  · rfl
set_option maxHeartbeats 1000000 in
theorem value_any (N : ByteArray) (a u : Int) (w : World) :
    Calls Tryd.prog 21 #[.agg #[.string N, .int .i64 a, .int .i64 u]] w fun e w' => e = .returned (.tuple #[.int .i64 (valV a u), .int .i64 (valE a u)]) ∧ Below w.heap.size w w' := by
  have hB := below_new w (.cells #[.string N, .int .i64 a, .int .i64 u] 45)
  cases h1 : amtB a
  · have e0 : valE a u = 10 := by unfold valE; rw [if_pos h1]
    have e1 : valV a u = 0 := by unfold valV; rw [e0]; rfl
    rw [e0, e1]
    have r1 := fun W => right_w a 2 false h1 (w.heap.size + 1) W
    clear h1 e0 e1
    go_enter Tryd.func21, Tryd.ntmps21
    go_wp2_with (fail)
    refine (r1 _ (by simp)).mono ?_
    rintro e w' ⟨rfl, rfl⟩
    go_wp2
    go_ret2
    exact ⟨rfl, hB.alloc hB.size _⟩
  · obtain ⟨a1, a2⟩ := amtB_yes h1
    have r1 := fun W => right_w a 2 true h1 (w.heap.size + 1) W
    cases h2 : oftB u
    · have e0 : valE a u = 1 := by unfold valE; rw [if_neg (by rw [h1]; decide), if_pos h2]
      have e1 : valV a u = 0 := by unfold valV; rw [e0]; rfl
      rw [e0, e1]
      have o1 := fun w => often_b u false h2 w
      clear h1 h2 e0 e1
      go_enter Tryd.func21, Tryd.ntmps21
      go_wp2_with (fail)
      refine (r1 _ (by simp)).mono ?_
      rintro e w' ⟨rfl, rfl⟩
      go_wp2_with (fail)
      refine (o1 _).mono ?_
      rintro e w' ⟨rfl, rfl⟩
      go_wp2
      go_ret2
      exact ⟨rfl, hB.alloc hB.size _⟩
    · obtain ⟨u1, u2⟩ := oftB_yes h2
      have o1 := fun w => often_b u true h2 w
      obtain ⟨p1, p2⟩ := mul_bd 100000 a1 a2 u1 u2
      have ro := fun w => round_ok (a * u) 100 4 w (by omega) (by omega) (by omega) (by omega) rfl
      cases h3 : amtB (hal a u)
      · have e0 : valE a u = 10 := by unfold valE; rw [if_neg (by rw [h1]; decide), if_neg (by rw [h2]; decide), if_pos h3]
        have e1 : valV a u = 0 := by unfold valV; rw [e0]; rfl
        rw [e0, e1]
        have r2 := fun W => right_w (hal a u) 2 false h3 (w.heap.size + 2) W
        unfold hal at r2
        clear h1 h2 h3 e0 e1
        generalize rnd (a * u) 100 4 = v at *
        go_enter Tryd.func21, Tryd.ntmps21
        go_wp2_with (fail)
        refine (r1 _ (by simp)).mono ?_
        rintro e w' ⟨rfl, rfl⟩
        go_wp2_with (fail)
        refine (o1 _).mono ?_
        rintro e w' ⟨rfl, rfl⟩
        go_wp2_with (fail)
        refine (ro _).mono ?_
        rintro e w' ⟨rfl, k, rfl⟩
        go_wp2_with (fail)
        refine (r2 _ (by simp)).mono ?_
        rintro e w' ⟨rfl, rfl⟩
        go_wp2
        go_ret2
        exact ⟨rfl, (below_drewN (hB.alloc hB.size _) k).alloc (below_drewN (hB.alloc hB.size _) k).size _⟩
      · have e0 : valE a u = 0 := by unfold valE; rw [if_neg (by rw [h1]; decide), if_neg (by rw [h2]; decide), if_neg (by rw [h3]; decide)]
        have e1 : valV a u = hal a u := by unfold valV; rw [e0]; rfl
        rw [e0, e1]
        have r2 := fun W => right_w (hal a u) 2 true h3 (w.heap.size + 2) W
        unfold hal at r2 ⊢
        clear h1 h2 h3 e0 e1
        generalize rnd (a * u) 100 4 = v at *
        go_enter Tryd.func21, Tryd.ntmps21
        go_wp2_with (fail)
        refine (r1 _ (by simp)).mono ?_
        rintro e w' ⟨rfl, rfl⟩
        go_wp2_with (fail)
        refine (o1 _).mono ?_
        rintro e w' ⟨rfl, rfl⟩
        go_wp2_with (fail)
        refine (ro _).mono ?_
        rintro e w' ⟨rfl, k, rfl⟩
        go_wp2_with (fail)
        refine (r2 _ (by simp)).mono ?_
        rintro e w' ⟨rfl, rfl⟩
        go_wp2
        go_ret2
        exact ⟨rfl, (below_drewN (hB.alloc hB.size _) k).alloc (below_drewN (hB.alloc hB.size _) k).size _⟩
end Go.Proofs.YtobdbjmpoefebaaDoor
