/- What the calls of code answer that look at a code: counted, fits, Check. -/
import Derived.Test.YtoppipjbdakmeaaDoorCod
import Derived.Test.YtoppipjbdakmeaaDoorAmtC
namespace Go.Proofs.YtoppipjbdakmeaaDoor
open Go.RowKit
set_option linter.unusedVariables false

theorem counted_any (a : Int) (w : World) (h : -9223372036854775808 ≤ a) (h' : a ≤ 9223372036854775807) : Calls Tryd.prog 75 #[.int .i64 a] w fun e w' => e = .returned (.bool (cntB a)) ∧ w = w' := by
  by_cases h1 : 0 ≤ a
  · by_cases h2 : a ≤ 999999000
    · have he : (a.tmod 1000 == 0) = cntB a := by
        unfold cntB
        rw [Int.tmod_eq_emod_of_nonneg h1, Bool.eq_iff_iff]
        simp [h1, h2]
      go_enter Tryd.func75, Tryd.ntmps75
      go_wp2
      go_ret
      exact ⟨ret_b (by rw [← he, Int.tmod_eq_emod_of_nonneg h1]), rfl⟩
    · have he : cntB a = false := by simp [cntB]; omega
      rw [he]
      clear he
      go_enter Tryd.func75, Tryd.ntmps75
      go_wp2
      go_ret
      exact ⟨rfl, rfl⟩
  · have he : cntB a = false := by simp [cntB]; omega
    rw [he]
    clear he
    go_enter Tryd.func75, Tryd.ntmps75
    go_wp2
    go_ret
    exact ⟨rfl, rfl⟩
set_option maxHeartbeats 1000000 in
theorem fits_any (s k a f : Int) (x : Bool) (w : World) (h : -9223372036854775808 ≤ a) (h' : a ≤ 9223372036854775807) :
    Calls Tryd.prog 52 #[.agg #[.int .i64 s, .int .i64 k, .int .i64 a, .int .i64 f, .bool x]] w fun e w' => e = .returned (.bool (fitB k a f)) ∧ Below w.heap.size w w' := by
  have hc := fun w => counted_any a w h h'
  by_cases k1 : k = 1
  · subst k1
    have he : fitB 1 a f = (cntB a && decide (f = 0)) := rfl
    cases hb : cntB a
    · rw [he, hb]
      rw [hb] at hc
      clear he hb
      go_enter Tryd.func52, Tryd.ntmps52
      go_wp2_with (fail)
      refine (hc _).mono ?_
      rintro e w' ⟨rfl, rfl⟩
      go_wp2
      go_ret
      exact ⟨rfl, (Below.refl _ _).alloc (Nat.le_refl _) _⟩
    · rw [hb] at hc he
      cases hf : (f == 0)
      · have he2 : fitB 1 a f = false := by rw [he]; simpa using hf
        rw [he2]
        clear he he2 hb
        go_enter Tryd.func52, Tryd.ntmps52
        go_wp2_with (fail)
        refine (hc _).mono ?_
        rintro e w' ⟨rfl, rfl⟩
        go_wp2
        go_ret
        exact ⟨rfl, (Below.refl _ _).alloc (Nat.le_refl _) _⟩
      · have he2 : fitB 1 a f = true := by rw [he]; simpa using hf
        rw [he2]
        clear he he2 hb
        go_enter Tryd.func52, Tryd.ntmps52
        go_wp2_with (fail)
        refine (hc _).mono ?_
        rintro e w' ⟨rfl, rfl⟩
        go_wp2
        go_ret
        exact ⟨rfl, (Below.refl _ _).alloc (Nat.le_refl _) _⟩
  have t1 : (k == 1) = false := by simpa using k1
  by_cases k2 : k = 2
  · subst k2
    have he : fitB 2 a f = (cntB a && decide (0 < a) && decide (f = 0)) := rfl
    cases hb : cntB a
    · rw [he, hb]
      rw [hb] at hc
      clear he hb
      go_enter Tryd.func52, Tryd.ntmps52
      go_wp2_with (fail)
      refine (hc _).mono ?_
      rintro e w' ⟨rfl, rfl⟩
      go_wp2
      go_ret
      exact ⟨rfl, (Below.refl _ _).alloc (Nat.le_refl _) _⟩
    · rw [hb] at hc he
      by_cases ha : 0 < a
      · cases hf : (f == 0)
        · have he2 : fitB 2 a f = false := by rw [he]; simp; intro _; simpa using hf
          rw [he2]
          clear he he2 hb
          go_enter Tryd.func52, Tryd.ntmps52
          go_wp2_with (fail)
          refine (hc _).mono ?_
          rintro e w' ⟨rfl, rfl⟩
          go_wp2
          go_ret
          exact ⟨rfl, (Below.refl _ _).alloc (Nat.le_refl _) _⟩
        · have he2 : fitB 2 a f = true := by rw [he]; simp [ha]; simpa using hf
          rw [he2]
          clear he he2 hb
          go_enter Tryd.func52, Tryd.ntmps52
          go_wp2_with (fail)
          refine (hc _).mono ?_
          rintro e w' ⟨rfl, rfl⟩
          go_wp2
          go_ret
          exact ⟨rfl, (Below.refl _ _).alloc (Nat.le_refl _) _⟩
      · have he2 : fitB 2 a f = false := by rw [he]; simp [ha]
        rw [he2]
        clear he he2 hb
        go_enter Tryd.func52, Tryd.ntmps52
        go_wp2_with (fail)
        refine (hc _).mono ?_
        rintro e w' ⟨rfl, rfl⟩
        go_wp2
        go_ret
        exact ⟨rfl, (Below.refl _ _).alloc (Nat.le_refl _) _⟩
  have t2 : (k == 2) = false := by simpa using k2
  by_cases k3 : k = 3
  · subst k3
    have he : fitB 3 a f = (decide (a = 0) && decide (0 ≤ f) && decide (f ≤ 7)) := rfl
    cases ha : (a == 0)
    · have he2 : fitB 3 a f = false := by rw [he]; simp; intro h; simp [h] at ha
      rw [he2]
      clear he he2
      go_enter Tryd.func52, Tryd.ntmps52
      go_wp2
      go_ret
      exact ⟨rfl, (Below.refl _ _).alloc (Nat.le_refl _) _⟩
    · have ha2 : a = 0 := by simpa using ha
      by_cases f0 : 0 ≤ f
      · by_cases f7 : f ≤ 7
        · have he2 : fitB 3 a f = true := by rw [he]; simp [ha2, f0, f7]
          rw [he2]
          clear he he2 ha2
          go_enter Tryd.func52, Tryd.ntmps52
          go_wp2
          go_ret
          exact ⟨rfl, (Below.refl _ _).alloc (Nat.le_refl _) _⟩
        · have he2 : fitB 3 a f = false := by rw [he]; simp [f7]
          rw [he2]
          clear he he2 ha2
          go_enter Tryd.func52, Tryd.ntmps52
          go_wp2
          go_ret
          exact ⟨rfl, (Below.refl _ _).alloc (Nat.le_refl _) _⟩
      · have he2 : fitB 3 a f = false := by rw [he]; simp [f0]
        rw [he2]
        clear he he2 ha2
        go_enter Tryd.func52, Tryd.ntmps52
        go_wp2
        go_ret
        exact ⟨rfl, (Below.refl _ _).alloc (Nat.le_refl _) _⟩
  have t3 : (k == 3) = false := by simpa using k3
  by_cases k4 : k = 4
  · subst k4
    have he : fitB 4 a f = (decide (a = 0) && decide (f = 0)) := rfl
    cases ha : (a == 0)
    · have he2 : fitB 4 a f = false := by rw [he]; simp; intro h; simp [h] at ha
      rw [he2]
      clear he he2
      go_enter Tryd.func52, Tryd.ntmps52
      go_wp2
      go_ret
      exact ⟨rfl, (Below.refl _ _).alloc (Nat.le_refl _) _⟩
    · have ha2 : a = 0 := by simpa using ha
      cases hf : (f == 0)
      · have he2 : fitB 4 a f = false := by rw [he]; simp [ha2]; simpa using hf
        rw [he2]
        clear he he2 ha2
        go_enter Tryd.func52, Tryd.ntmps52
        go_wp2
        go_ret
        exact ⟨rfl, (Below.refl _ _).alloc (Nat.le_refl _) _⟩
      · have he2 : fitB 4 a f = true := by rw [he]; simp [ha2]; simpa using hf
        rw [he2]
        clear he he2 ha2
        go_enter Tryd.func52, Tryd.ntmps52
        go_wp2
        go_ret
        exact ⟨rfl, (Below.refl _ _).alloc (Nat.le_refl _) _⟩
  have t4 : (k == 4) = false := by simpa using k4
  have he2 : fitB k a f = false := by simp [fitB, k1, k2, k3, k4]
  rw [he2]
  clear he2 k1 k2 k3 k4
  go_enter Tryd.func52, Tryd.ntmps52
  go_wp2
  go_ret
  exact ⟨rfl, (Below.refl _ _).alloc (Nat.le_refl _) _⟩

/-- a code in its place -/
def Cd (w : World) (b : Nat) (s k a f : Int) (x : Bool) : Prop := w.cell? ⟨b, 0, none⟩ = some (.int .i64 s) ∧ w.cell? ⟨b, 1, none⟩ = some (.int .i64 k) ∧ w.cell? ⟨b, 2, none⟩ = some (.int .i64 a) ∧ w.cell? ⟨b, 3, none⟩ = some (.int .i64 f) ∧ w.cell? ⟨b, 4, none⟩ = some (.bool x)
theorem cd_new (w : World) (s k a f : Int) (x : Bool) (t : TypeId) : Cd (w.alloc (.cells #[.int .i64 s, .int .i64 k, .int .i64 a, .int .i64 f, .bool x] t)) w.heap.size s k a f x := by
  refine ⟨?_, ?_, ?_, ?_, ?_⟩ <;> simp [World.cell?_alloc_new]
theorem Cd.below {w w' : World} {b B : Nat} {s k a f : Int} {x : Bool} (h : Cd w b s k a f x) (hb : Below B w w') (hB : b < B) : Cd w' b s k a f x := by
  obtain ⟨h0, h1, h2, h3, h4⟩ := h
  exact ⟨(hb.cell (p := ⟨b, 0, none⟩) hB).trans h0, (hb.cell (p := ⟨b, 1, none⟩) hB).trans h1, (hb.cell (p := ⟨b, 2, none⟩) hB).trans h2, (hb.cell (p := ⟨b, 3, none⟩) hB).trans h3, (hb.cell (p := ⟨b, 4, none⟩) hB).trans h4⟩
set_option maxHeartbeats 1000000 in
theorem check_any (s k a f : Int) (x : Bool) (w : World) (h : -9223372036854775808 ≤ a) (h' : a ≤ 9223372036854775807) :
    Calls Tryd.prog 20 #[.agg #[.int .i64 s, .int .i64 k, .int .i64 a, .int .i64 f, .bool x]] w fun e w' => e = .returned (.int .i64 (chkC s k a f)) ∧ Below w.heap.size w w' := by
  have hc := fun w => fits_any s k a f x w h h'
  have B0 : Below w.heap.size w (w.alloc (.cells #[.int .i64 s, .int .i64 k, .int .i64 a, .int .i64 f, .bool x] 47)) := (Below.refl _ _).alloc (Nat.le_refl _) _
  by_cases h0 : s < 0
  · have he : chkC s k a f = 81 := by unfold chkC; rw [if_pos (.inl h0)]
    rw [he]
    clear he
    go_enter Tryd.func20, Tryd.ntmps20
    go_wp2
    go_ret
    exact ⟨rfl, B0⟩
  by_cases h7 : 7 < s
  · have he : chkC s k a f = 81 := by unfold chkC; rw [if_pos (.inr h7)]
    rw [he]
    clear he
    go_enter Tryd.func20, Tryd.ntmps20
    go_wp2
    go_ret
    exact ⟨rfl, B0⟩
  have he : chkC s k a f = if fitB k a f = true then 0 else 80 := by unfold chkC; rw [if_neg (by omega)]
  cases hb : fitB k a f
  · rw [hb] at hc he
    rw [he]
    clear he hb
    go_enter Tryd.func20, Tryd.ntmps20
    go_wp2_with (fail)
    refine (hc _).mono ?_
    rintro e w1 ⟨rfl, hb1⟩
    have B1 := below_step B0 hb1 B0.size
    go_wp2
    go_ret
    exact ⟨rfl, B1⟩
  · rw [hb] at hc he
    rw [he]
    clear he hb
    go_enter Tryd.func20, Tryd.ntmps20
    go_wp2_with (fail)
    refine (hc _).mono ?_
    rintro e w1 ⟨rfl, hb1⟩
    have B1 := below_step B0 hb1 B0.size
    go_wp2
    go_ret
    exact ⟨rfl, B1⟩
theorem check_c (s k a f : Int) (x : Bool) (v : Int) (hv : chkC s k a f = v) (w : World) (h : -9223372036854775808 ≤ a) (h' : a ≤ 9223372036854775807) :
    Calls Tryd.prog 20 #[.agg #[.int .i64 s, .int .i64 k, .int .i64 a, .int .i64 f, .bool x]] w fun e w' => e = .returned (.int .i64 v) ∧ Below w.heap.size w w' := by
  subst hv
  exact check_any s k a f x w h h'
end Go.Proofs.YtoppipjbdakmeaaDoor
