/- Merged: Cod, CodA, CodB. -/
import Derived.Test.YtffihnbpjcgicaaDoorRight
import Derived.Test.YtffihnbpjcgicaaDoorAmtC
/- Tax codes: which may be, and what they free: no program in sight. -/
namespace Go.Proofs.YtffihnbpjcgicaaDoor
open Go.RowKit
set_option linter.unusedVariables false

/-- may a code's number count an amount? -/
def cntB (a : Int) : Bool := decide (0 ≤ a ∧ a ≤ 999999000 ∧ a % 1000 = 0)
theorem cntB_yes {a : Int} (h : cntB a = true) : 0 ≤ a ∧ a ≤ 999999000 ∧ a % 1000 = 0 := by simpa [cntB] using h
theorem cntB_mk {a : Int} (h : 0 ≤ a) (h1 : a ≤ 999999000) (h2 : a % 1000 = 0) : cntB a = true := by simp [cntB, h, h1, h2]
/-- is there such a kind, and has it such an amount and such a band? -/
def fitB (k a f : Int) : Bool :=
  if k = 1 then cntB a && decide (f = 0)
  else if k = 2 then cntB a && decide (0 < a) && decide (f = 0)
  else if k = 3 then decide (a = 0) && decide (0 ≤ f) && decide (f ≤ 7)
  else if k = 4 then decide (a = 0) && decide (f = 0)
  else false
/-- may a code be, and why not? -/
def chkC (s k a f : Int) : Int := if s < 0 ∨ 7 < s then 81 else if fitB k a f = true then 0 else 80
theorem chkC_ok {s k a f : Int} (h0 : 0 ≤ s) (h7 : s ≤ 7) (h : fitB k a f = true) : chkC s k a f = 0 := by
  unfold chkC; rw [if_neg (by omega), if_pos h]
theorem chkC_zero {s k a f : Int} (h : chkC s k a f = 0) : 0 ≤ s ∧ s ≤ 7 ∧ fitB k a f = true := by
  unfold chkC at h
  split at h
  · omega
  · split at h
    · exact ⟨by omega, by omega, by assumption⟩
    · omega
theorem chkC_cases (s k a f : Int) : chkC s k a f = 0 ∨ chkC s k a f = 80 ∨ chkC s k a f = 81 := by
  unfold chkC; split
  · exact .inr (.inr rfl)
  · split
    · exact .inl rfl
    · exact .inr (.inl rfl)
/-- of a code that may be: its amount and its band -/
theorem fitB_yes {k a f : Int} (h : fitB k a f = true) : (k = 1 ∧ 0 ≤ a ∧ a ≤ 999999000 ∧ a % 1000 = 0 ∧ f = 0) ∨ (k = 2 ∧ 0 < a ∧ a ≤ 999999000 ∧ a % 1000 = 0 ∧ f = 0) ∨ (k = 3 ∧ a = 0 ∧ 0 ≤ f ∧ f ≤ 7) ∨ (k = 4 ∧ a = 0 ∧ f = 0) := by
  unfold fitB at h
  split at h
  · rename_i e
    simp only [Bool.and_eq_true, decide_eq_true_eq] at h
    have := cntB_yes h.1
    exact .inl ⟨e, by omega, by omega, by omega, h.2⟩
  · split at h
    · rename_i e
      simp only [Bool.and_eq_true, decide_eq_true_eq] at h
      have := cntB_yes h.1.1
      exact .inr (.inl ⟨e, by omega, by omega, by omega, h.2⟩)
    · split at h
      · rename_i e
        simp only [Bool.and_eq_true, decide_eq_true_eq] at h
        exact .inr (.inr (.inl ⟨e, by omega, by omega, by omega⟩))
      · split at h
        · rename_i e
          simp only [Bool.and_eq_true, decide_eq_true_eq] at h
          exact .inr (.inr (.inr ⟨e, by omega, by omega⟩))
        · cases h
theorem fitB_bd {k a f : Int} (h : fitB k a f = true) : 1 ≤ k ∧ k ≤ 4 ∧ 0 ≤ a ∧ a ≤ 999999000 ∧ a % 1000 = 0 ∧ 0 ≤ f ∧ f ≤ 7 := by
  rcases fitB_yes h with h | h | h | h <;> omega
/-- how much is free, and why nothing is told -/
def freeV (s k a f n d : Int) : Int × Int :=
  if chkC s k a f ≠ 0 then (0, chkC s k a f)
  else if n < 0 ∨ d < n ∨ d < 1 ∨ 1048576 < d then (0, 1)
  else (if k = 2 then -(a * n / d) else a * n / d, 0)
theorem freeV_bad {s k a f n d : Int} (h : chkC s k a f ≠ 0) : freeV s k a f n d = (0, chkC s k a f) := by unfold freeV; rw [if_pos h]
theorem freeV_range {s k a f n d : Int} (h : chkC s k a f = 0) (h2 : n < 0 ∨ d < n ∨ d < 1 ∨ 1048576 < d) : freeV s k a f n d = (0, 1) := by unfold freeV; rw [if_neg (by omega), if_pos h2]
theorem freeV_ok {s k a f n d : Int} (h : chkC s k a f = 0) (h1 : 0 ≤ n) (h2 : n ≤ d) (h3 : 1 ≤ d) (h4 : d ≤ 1048576) : freeV s k a f n d = (if k = 2 then -(a * n / d) else a * n / d, 0) := by unfold freeV; rw [if_neg (by omega), if_neg (by omega)]
/-- a part of an amount is between nothing and the amount -/
theorem part_bd {a n d : Int} (ha : 0 ≤ a) (h1 : 0 ≤ n) (h2 : n ≤ d) (h3 : 1 ≤ d) : 0 ≤ a * n / d ∧ a * n / d ≤ a := by
  have h := Int.mul_nonneg ha h1
  refine ⟨Int.ediv_nonneg h (by omega), ?_⟩
  have := Int.mul_le_mul_of_nonneg_left h2 ha
  exact Int.ediv_le_of_le_mul (by omega) this
/-- how much is taxed, and why nothing is told -/
def chargeV (s k a f x n d : Int) : Int × Int :=
  if (freeV s k a f n d).2 ≠ 0 then (0, (freeV s k a f n d).2)
  else if amtB x = false then (0, 10)
  else if k = 4 then (0, 0)
  else if amtB (x - (freeV s k a f n d).1) = false then (0, 10)
  else (max (x - (freeV s k a f n d).1) 0, 0)
end Go.Proofs.YtffihnbpjcgicaaDoor

/- What the calls of code answer that look at a code: counted, fits, Check. -/
namespace Go.Proofs.YtffihnbpjcgicaaDoor
open Go.RowKit
set_option linter.unusedVariables false

theorem counted_any (a : Int) (w : World) (h : -9223372036854775808 ≤ a) (h' : a ≤ 9223372036854775807) : Calls Tryd.prog 146 #[.int .i64 a] w fun e w' => e = .returned (.bool (cntB a)) ∧ w = w' := by
  by_cases h1 : 0 ≤ a
  · by_cases h2 : a ≤ 999999000
    · have he : (a.tmod 1000 == 0) = cntB a := by
        unfold cntB
        rw [Int.tmod_eq_emod_of_nonneg h1, Bool.eq_iff_iff]
        simp [h1, h2]
      go_enter Tryd.func146, Tryd.ntmps146
      go_wp2
      go_ret
      exact ⟨ret_b (by rw [← he, Int.tmod_eq_emod_of_nonneg h1]), rfl⟩
    · have he : cntB a = false := by simp [cntB]; omega
      rw [he]
      clear he
      go_enter Tryd.func146, Tryd.ntmps146
      go_wp2
      go_ret
      exact ⟨rfl, rfl⟩
  · have he : cntB a = false := by simp [cntB]; omega
    rw [he]
    clear he
    go_enter Tryd.func146, Tryd.ntmps146
    go_wp2
    go_ret
    exact ⟨rfl, rfl⟩
set_option maxHeartbeats 1000000 in
theorem fits_any (s k a f : Int) (x : Bool) (w : World) (h : -9223372036854775808 ≤ a) (h' : a ≤ 9223372036854775807) :
    Calls Tryd.prog 106 #[.agg #[.int .i64 s, .int .i64 k, .int .i64 a, .int .i64 f, .bool x]] w fun e w' => e = .returned (.bool (fitB k a f)) ∧ Below w.heap.size w w' := by
  have hc := fun w => counted_any a w h h'
  by_cases k1 : k = 1
  · subst k1
    have he : fitB 1 a f = (cntB a && decide (f = 0)) := rfl
    cases hb : cntB a
    · rw [he, hb]
      rw [hb] at hc
      clear he hb
      go_enter Tryd.func106, Tryd.ntmps106
      go_wp2_with (fail)
      refine (hc _).mono ?_
      rintro e w' ⟨rfl, rfl⟩
      go_wp2
      go_ret
      exact ⟨rfl, (Below.refl _ _).alloc (Nat.le_refl _) _⟩
    · rw [hb] at hc he
      cases hf : (f == 0)
      · have he2 : fitB 1 a f = false := by rw [he]; simpa using hf
        rw [he2]
        clear he he2 hb
        go_enter Tryd.func106, Tryd.ntmps106
        go_wp2_with (fail)
        refine (hc _).mono ?_
        rintro e w' ⟨rfl, rfl⟩
        go_wp2
        go_ret
        exact ⟨rfl, (Below.refl _ _).alloc (Nat.le_refl _) _⟩
      · have he2 : fitB 1 a f = true := by rw [he]; simpa using hf
        rw [he2]
        clear he he2 hb
        go_enter Tryd.func106, Tryd.ntmps106
        go_wp2_with (fail)
        refine (hc _).mono ?_
        rintro e w' ⟨rfl, rfl⟩
        go_wp2
        go_ret
        exact ⟨rfl, (Below.refl _ _).alloc (Nat.le_refl _) _⟩
  have t1 : (k == 1) = false := by simpa using k1
  by_cases k2 : k = 2
  · subst k2
    have he : fitB 2 a f = (cntB a && decide (0 < a) && decide (f = 0)) := rfl
    cases hb : cntB a
    · rw [he, hb]
      rw [hb] at hc
      clear he hb
      go_enter Tryd.func106, Tryd.ntmps106
      go_wp2_with (fail)
      refine (hc _).mono ?_
      rintro e w' ⟨rfl, rfl⟩
      go_wp2
      go_ret
      exact ⟨rfl, (Below.refl _ _).alloc (Nat.le_refl _) _⟩
    · rw [hb] at hc he
      by_cases ha : 0 < a
      · cases hf : (f == 0)
        · have he2 : fitB 2 a f = false := by rw [he]; simp; intro _; simpa using hf
          rw [he2]
          clear he he2 hb
          go_enter Tryd.func106, Tryd.ntmps106
          go_wp2_with (fail)
          refine (hc _).mono ?_
          rintro e w' ⟨rfl, rfl⟩
          go_wp2
          go_ret
          exact ⟨rfl, (Below.refl _ _).alloc (Nat.le_refl _) _⟩
        · have he2 : fitB 2 a f = true := by rw [he]; simp [ha]; simpa using hf
          rw [he2]
          clear he he2 hb
          go_enter Tryd.func106, Tryd.ntmps106
          go_wp2_with (fail)
          refine (hc _).mono ?_
          rintro e w' ⟨rfl, rfl⟩
          go_wp2
          go_ret
          exact ⟨rfl, (Below.refl _ _).alloc (Nat.le_refl _) _⟩
      · have he2 : fitB 2 a f = false := by rw [he]; simp [ha]
        rw [he2]
        clear he he2 hb
        go_enter Tryd.func106, Tryd.ntmps106
        go_wp2_with (fail)
        refine (hc _).mono ?_
        rintro e w' ⟨rfl, rfl⟩
        go_wp2
        go_ret
        exact ⟨rfl, (Below.refl _ _).alloc (Nat.le_refl _) _⟩
  have t2 : (k == 2) = false := by simpa using k2
  by_cases k3 : k = 3
  · subst k3
    have he : fitB 3 a f = (decide (a = 0) && decide (0 ≤ f) && decide (f ≤ 7)) := rfl
    cases ha : (a == 0)
    · have he2 : fitB 3 a f = false := by rw [he]; simp; intro h; simp [h] at ha
      rw [he2]
      clear he he2
      go_enter Tryd.func106, Tryd.ntmps106
      go_wp2
      go_ret
      exact ⟨rfl, (Below.refl _ _).alloc (Nat.le_refl _) _⟩
    · have ha2 : a = 0 := by simpa using ha
      by_cases f0 : 0 ≤ f
      · by_cases f7 : f ≤ 7
        · have he2 : fitB 3 a f = true := by rw [he]; simp [ha2, f0, f7]
          rw [he2]
          clear he he2 ha2
          go_enter Tryd.func106, Tryd.ntmps106
          go_wp2
          go_ret
          exact ⟨rfl, (Below.refl _ _).alloc (Nat.le_refl _) _⟩
        · have he2 : fitB 3 a f = false := by rw [he]; simp [f7]
          rw [he2]
          clear he he2 ha2
          go_enter Tryd.func106, Tryd.ntmps106
          go_wp2
          go_ret
          exact ⟨rfl, (Below.refl _ _).alloc (Nat.le_refl _) _⟩
      · have he2 : fitB 3 a f = false := by rw [he]; simp [f0]
        rw [he2]
        clear he he2 ha2
        go_enter Tryd.func106, Tryd.ntmps106
        go_wp2
        go_ret
        exact ⟨rfl, (Below.refl _ _).alloc (Nat.le_refl _) _⟩
  have t3 : (k == 3) = false := by simpa using k3
  by_cases k4 : k = 4
  · subst k4
    have he : fitB 4 a f = (decide (a = 0) && decide (f = 0)) := rfl
    cases ha : (a == 0)
    · have he2 : fitB 4 a f = false := by rw [he]; simp; intro h; simp [h] at ha
      rw [he2]
      clear he he2
      go_enter Tryd.func106, Tryd.ntmps106
      go_wp2
      go_ret
      exact ⟨rfl, (Below.refl _ _).alloc (Nat.le_refl _) _⟩
    · have ha2 : a = 0 := by simpa using ha
      cases hf : (f == 0)
      · have he2 : fitB 4 a f = false := by rw [he]; simp [ha2]; simpa using hf
        rw [he2]
        clear he he2 ha2
        go_enter Tryd.func106, Tryd.ntmps106
        go_wp2
        go_ret
        exact ⟨rfl, (Below.refl _ _).alloc (Nat.le_refl _) _⟩
      · have he2 : fitB 4 a f = true := by rw [he]; simp [ha2]; simpa using hf
        rw [he2]
        clear he he2 ha2
        go_enter Tryd.func106, Tryd.ntmps106
        go_wp2
        go_ret
        exact ⟨rfl, (Below.refl _ _).alloc (Nat.le_refl _) _⟩
  have t4 : (k == 4) = false := by simpa using k4
  have he2 : fitB k a f = false := by simp [fitB, k1, k2, k3, k4]
  rw [he2]
  clear he2 k1 k2 k3 k4
  go_enter Tryd.func106, Tryd.ntmps106
  go_wp2
  go_ret
  exact ⟨rfl, (Below.refl _ _).alloc (Nat.le_refl _) _⟩

/-- a code in its place -/
def Cd (w : World) (b : Nat) (s k a f : Int) (x : Bool) : Prop := w.cell? ⟨b, 0, none⟩ = some (.int .i64 s) ∧ w.cell? ⟨b, 1, none⟩ = some (.int .i64 k) ∧ w.cell? ⟨b, 2, none⟩ = some (.int .i64 a) ∧ w.cell? ⟨b, 3, none⟩ = some (.int .i64 f) ∧ w.cell? ⟨b, 4, none⟩ = some (.bool x)
theorem cd_new (w : World) (s k a f : Int) (x : Bool) (t : TypeId) : Cd (w.alloc (.cells #[.int .i64 s, .int .i64 k, .int .i64 a, .int .i64 f, .bool x] t)) w.heap.size s k a f x := by
  refine ⟨?_, ?_, ?_, ?_, ?_⟩ <;> simp [World.cell?_alloc_new]
theorem Cd.below {w w' : World} {b B : Nat} {s k a f : Int} {x : Bool} (h : Cd w b s k a f x) (hb : Below B w w') (hB : b < B) : Cd w' b s k a f x := by
  obtain ⟨h0, h1, h2, h3, h4⟩ := h
  exact ⟨(hb.cell (p := ⟨b, 0, none⟩) hB).trans h0, (hb.cell (p := ⟨b, 1, none⟩) hB).trans h1, (hb.cell (p := ⟨b, 2, none⟩) hB).trans h2, (hb.cell (p := ⟨b, 3, none⟩) hB).trans h3, (hb.cell (p := ⟨b, 4, none⟩) hB).trans h4⟩
set_option maxHeartbeats 1000000 in
theorem check_any_CodA (s k a f : Int) (x : Bool) (w : World) (h : -9223372036854775808 ≤ a) (h' : a ≤ 9223372036854775807) :
    Calls Tryd.prog 74 #[.agg #[.int .i64 s, .int .i64 k, .int .i64 a, .int .i64 f, .bool x]] w fun e w' => e = .returned (.int .i64 (chkC s k a f)) ∧ Below w.heap.size w w' := by
  have hc := fun w => fits_any s k a f x w h h'
  have B0 : Below w.heap.size w (w.alloc (.cells #[.int .i64 s, .int .i64 k, .int .i64 a, .int .i64 f, .bool x] 83)) := (Below.refl _ _).alloc (Nat.le_refl _) _
  by_cases h0 : s < 0
  · have he : chkC s k a f = 81 := by unfold chkC; rw [if_pos (.inl h0)]
    rw [he]
    clear he
    go_enter Tryd.func74, Tryd.ntmps74
    go_wp2
    go_ret
    exact ⟨rfl, B0⟩
  by_cases h7 : 7 < s
  · have he : chkC s k a f = 81 := by unfold chkC; rw [if_pos (.inr h7)]
    rw [he]
    clear he
    go_enter Tryd.func74, Tryd.ntmps74
    go_wp2
    go_ret
    exact ⟨rfl, B0⟩
  have he : chkC s k a f = if fitB k a f = true then 0 else 80 := by unfold chkC; rw [if_neg (by omega)]
  cases hb : fitB k a f
  · rw [hb] at hc he
    rw [he]
    clear he hb
    go_enter Tryd.func74, Tryd.ntmps74
    go_wp2_with (fail)
    refine (hc _).mono ?_
    rintro e w1 ⟨rfl, hb1⟩
    have B1 := below_step B0 hb1 B0.size
    go_wp2
    go_ret
    exact ⟨rfl, B1⟩
  · rw [hb] at hc he
    rw [he]
    clear he hb
    go_enter Tryd.func74, Tryd.ntmps74
    go_wp2_with (fail)
    refine (hc _).mono ?_
    rintro e w1 ⟨rfl, hb1⟩
    have B1 := below_step B0 hb1 B0.size
    go_wp2
    go_ret
    exact ⟨rfl, B1⟩
theorem check_c (s k a f : Int) (x : Bool) (v : Int) (hv : chkC s k a f = v) (w : World) (h : -9223372036854775808 ≤ a) (h' : a ≤ 9223372036854775807) :
    Calls Tryd.prog 74 #[.agg #[.int .i64 s, .int .i64 k, .int .i64 a, .int .i64 f, .bool x]] w fun e w' => e = .returned (.int .i64 v) ∧ Below w.heap.size w w' := by
  subst hv
  exact check_any_CodA s k a f x w h h'
end Go.Proofs.YtffihnbpjcgicaaDoor

/- What the calls of code answer that reckon: Free, Charge. -/
namespace Go.Proofs.YtffihnbpjcgicaaDoor
open Go.RowKit
set_option linter.unusedVariables false

theorem ret_p {a b : Int} {p : Int × Int} (h : p = (a, b)) : Ending.returned (.tuple #[.int .i64 a, .int .i64 b]) = .returned (.tuple #[.int .i64 p.1, .int .i64 p.2]) := by rw [h]
set_option maxHeartbeats 1000000 in
theorem free_any (s k a f n d : Int) (x : Bool) (w : World) (h : -9223372036854775808 ≤ a) (h' : a ≤ 9223372036854775807) :
    Calls Tryd.prog 188 #[.agg #[.int .i64 s, .int .i64 k, .int .i64 a, .int .i64 f, .bool x], .int .i64 n, .int .i64 d] w fun e w' => e = .returned (.tuple #[.int .i64 (freeV s k a f n d).1, .int .i64 (freeV s k a f n d).2]) ∧ Below w.heap.size w w' := by
  have D0 := cd_new w s k a f x 83
  have B0 : Below w.heap.size w (w.alloc (.cells #[.int .i64 s, .int .i64 k, .int .i64 a, .int .i64 f, .bool x] 83)) := (Below.refl _ _).alloc (Nat.le_refl _) _
  by_cases hk : chkC s k a f = 0
  · have hc := fun w => check_c s k a f x 0 hk w h h'
    obtain ⟨_, _, hfit⟩ := chkC_zero hk
    obtain ⟨k1, k4, a0, a9, _, _, _⟩ := fitB_bd hfit
    have hA : amtB a = true := amtB_mk (by omega) (by omega)
    by_cases h1 : d < n
    · have HE := Lib.hid (freeV_range hk (.inr (.inl h1)))
      clear hk hfit
      go_enter Tryd.func188, Tryd.ntmps188
      go_wp2_with (fail)
      refine (hc _).mono ?_
      rintro e w1 ⟨rfl, hb⟩
      have B1 := below_step B0 hb B0.size
      go_wp2
      go_ret2
      exact ⟨ret_p HE.out, B1⟩
    have h1' : ¬ d < n := h1
    by_cases h2 : n < 0 ∨ 1048576 < n ∨ d < 1 ∨ 1048576 < d
    · have HE := Lib.hid (freeV_range (n := n) (d := d) hk (by omega))
      have hs := fun w => scale_range a n d w hA h2
      clear hk hfit h2
      go_enter Tryd.func188, Tryd.ntmps188
      go_wp2_with (fail)
      refine (hc _).mono ?_
      rintro e w1 ⟨rfl, hb⟩
      have B1 := below_step B0 hb B0.size
      obtain ⟨c0, c1, c2, c3, c4⟩ := D0.below hb (by simp)
      clear hb D0
      go_wp2_with (fail)
      refine (hs _).mono ?_
      rintro e w2 ⟨rfl, hb⟩
      have B2 := below_step B1 hb B1.size
      go_wp2
      go_ret2
      exact ⟨ret_p HE.out, B2⟩
    · obtain ⟨p0, p1⟩ := part_bd (a := a) (n := n) (d := d) a0 (by omega) (by omega) (by omega)
      have HE := Lib.hid (freeV_ok (n := n) (d := d) hk (by omega) (by omega) (by omega) (by omega))
      have hs := fun w => scale_ok a n d w hA (by omega) (by omega) (by omega) (by omega) true (amtB_mk (by omega) (by omega))
      simp only [if_true] at hs
      clear h2 hfit hk
      generalize a * n / d = q at *
      by_cases kk : k = 2
      · have t1 : (k == 2) = true := by simpa using kk
        have HE := Lib.hid (show freeV s k a f n d = (-q, 0) by rw [HE.out, if_pos kk])
        clear kk
        go_enter Tryd.func188, Tryd.ntmps188
        go_wp2_with (fail)
        refine (hc _).mono ?_
        rintro e w1 ⟨rfl, hb⟩
        have B1 := below_step B0 hb B0.size
        have D1 := D0.below hb (by simp)
        have z1 : w.heap.size < w1.heap.size := by have := hb.size; simp at this; omega
        obtain ⟨c0, c1, c2, c3, c4⟩ := id D1
        clear hb D0
        go_wp2_with (fail)
        refine (hs _).mono ?_
        rintro e w2 ⟨rfl, hb⟩
        have B2 := below_step B1 hb B1.size
        obtain ⟨e0, e1, e2, e3, e4⟩ := D1.below hb z1
        clear hb D1 c0 c1 c2 c3 c4
        go_wp2
        go_ret2
        exact ⟨ret_p HE.out, B2⟩
      · have t1 : (k == 2) = false := by simpa using kk
        have HE := Lib.hid (show freeV s k a f n d = (q, 0) by rw [HE.out, if_neg kk])
        clear kk
        go_enter Tryd.func188, Tryd.ntmps188
        go_wp2_with (fail)
        refine (hc _).mono ?_
        rintro e w1 ⟨rfl, hb⟩
        have B1 := below_step B0 hb B0.size
        have D1 := D0.below hb (by simp)
        have z1 : w.heap.size < w1.heap.size := by have := hb.size; simp at this; omega
        obtain ⟨c0, c1, c2, c3, c4⟩ := id D1
        clear hb D0
        go_wp2_with (fail)
        refine (hs _).mono ?_
        rintro e w2 ⟨rfl, hb⟩
        have B2 := below_step B1 hb B1.size
        obtain ⟨e0, e1, e2, e3, e4⟩ := D1.below hb z1
        clear hb D1 c0 c1 c2 c3 c4
        go_wp2
        go_ret2
        exact ⟨ret_p HE.out, B2⟩
  · have hc := fun w => check_any_CodA s k a f x w h h'
    have HE := Lib.hid (freeV_bad (n := n) (d := d) hk)
    have t1 : (chkC s k a f != 0) = true := by simpa using hk
    clear hk
    generalize chkC s k a f = v at *
    go_enter Tryd.func188, Tryd.ntmps188
    go_wp2_with (fail)
    refine (hc _).mono ?_
    rintro e w1 ⟨rfl, hb⟩
    have B1 := below_step B0 hb B0.size
    go_wp2
    go_ret2
    exact ⟨ret_p HE.out, B1⟩
theorem free_v (s k a f n d : Int) (x : Bool) (p q : Int) (hv : freeV s k a f n d = (p, q)) (w : World) (h : -9223372036854775808 ≤ a) (h' : a ≤ 9223372036854775807) :
    Calls Tryd.prog 188 #[.agg #[.int .i64 s, .int .i64 k, .int .i64 a, .int .i64 f, .bool x], .int .i64 n, .int .i64 d] w fun e w' => e = .returned (.tuple #[.int .i64 p, .int .i64 q]) ∧ Below w.heap.size w w' := by
  have := free_any s k a f n d x w h h'
  rw [hv] at this
  exact this
theorem chargeV_free {s k a f y n d p q : Int} (hf : freeV s k a f n d = (p, q)) (hq : q ≠ 0) : chargeV s k a f y n d = (0, q) := by unfold chargeV; rw [hf, if_pos hq]
theorem chargeV_amt {s k a f y n d p : Int} (hf : freeV s k a f n d = (p, 0)) (hy : amtB y = false) : chargeV s k a f y n d = (0, 10) := by unfold chargeV; rw [hf, if_neg (by simp), if_pos hy]
theorem chargeV_none {s k a f y n d p : Int} (hf : freeV s k a f n d = (p, 0)) (hy : amtB y = true) (hk : k = 4) : chargeV s k a f y n d = (0, 0) := by unfold chargeV; rw [hf, if_neg (by simp), if_neg (by simp [hy]), if_pos hk]
theorem chargeV_over {s k a f y n d p : Int} (hf : freeV s k a f n d = (p, 0)) (hy : amtB y = true) (hk : ¬ k = 4) (hs : amtB (y - p) = false) : chargeV s k a f y n d = (0, 10) := by unfold chargeV; rw [hf, if_neg (by simp), if_neg (by simp [hy]), if_neg hk, if_pos hs]
theorem chargeV_ok {s k a f y n d p : Int} (hf : freeV s k a f n d = (p, 0)) (hy : amtB y = true) (hk : ¬ k = 4) (hs : amtB (y - p) = true) : chargeV s k a f y n d = (max (y - p) 0, 0) := by unfold chargeV; rw [hf, if_neg (by simp), if_neg (by simp [hy]), if_neg hk, if_neg (by simp [hs])]
theorem freeV_amt {s k a f n d p : Int} (h : freeV s k a f n d = (p, 0)) : -999999000 ≤ p ∧ p ≤ 999999000 := by
  by_cases hk : chkC s k a f = 0
  · by_cases h2 : n < 0 ∨ d < n ∨ d < 1 ∨ 1048576 < d
    · rw [freeV_range hk h2] at h
      cases h
    · rw [freeV_ok hk (by omega) (by omega) (by omega) (by omega)] at h
      obtain ⟨_, _, hfit⟩ := chkC_zero hk
      obtain ⟨k1, k4, a0, a9, _, _, _⟩ := fitB_bd hfit
      obtain ⟨p0, p1⟩ := part_bd (a := a) (n := n) (d := d) a0 (by omega) (by omega) (by omega)
      have h := congrArg Prod.fst h
      simp only at h
      split at h <;> omega
  · rw [freeV_bad hk] at h
    exact absurd (congrArg Prod.snd h) hk
set_option maxHeartbeats 1000000 in
theorem charge_any (s k a f y n d : Int) (x : Bool) (w : World) (h : -9223372036854775808 ≤ a) (h' : a ≤ 9223372036854775807) :
    Calls Tryd.prog 182 #[.agg #[.int .i64 s, .int .i64 k, .int .i64 a, .int .i64 f, .bool x], .int .i64 y, .int .i64 n, .int .i64 d] w fun e w' => e = .returned (.tuple #[.int .i64 (chargeV s k a f y n d).1, .int .i64 (chargeV s k a f y n d).2]) ∧ Below w.heap.size w w' := by
  have D0 := cd_new w s k a f x 83
  have B0 : Below w.heap.size w (w.alloc (.cells #[.int .i64 s, .int .i64 k, .int .i64 a, .int .i64 f, .bool x] 83)) := (Below.refl _ _).alloc (Nat.le_refl _) _
  obtain ⟨⟨p, q⟩, hv⟩ : ∃ v, freeV s k a f n d = v := ⟨_, rfl⟩
  have hf := fun w => free_v s k a f n d x p q hv w h h'
  by_cases hq : q = 0
  · subst hq
    obtain ⟨p0, p1⟩ := freeV_amt hv
    cases hy : amtB y
    · have HE := Lib.hid (chargeV_amt hv hy)
      clear hv
      go_enter Tryd.func182, Tryd.ntmps182
      go_wp2_with (fail)
      refine (hf _).mono ?_
      rintro e w1 ⟨rfl, hb⟩
      have B1 := below_step B0 hb B0.size
      have D1 := D0.below hb (by simp)
      have z1 : w.heap.size < w1.heap.size := by have := hb.size; simp at this; omega
      clear hb D0
      go_wp2_with (fail)
      refine (right_at y _ _ _ false hy (by simp [go_sem])).mono ?_
      rintro e w' ⟨rfl, rfl⟩
      have hb2 : Below w1.heap.size w1 (w1.alloc (.cells #[.int .i64 y] 2)) := (Below.refl _ _).alloc (Nat.le_refl _) _
      have B2 := below_step B1 hb2 B1.size
      obtain ⟨c0, c1, c2, c3, c4⟩ := id (D1.below hb2 z1)
      go_wp2
      go_ret2
      exact ⟨ret_p HE.out, B2⟩
    · obtain ⟨y0, y1⟩ := amtB_yes hy
      by_cases hk : k = 4
      · have HE := Lib.hid (chargeV_none hv hy hk)
        have t1 : (k == 4) = true := by simpa using hk
        clear hv hk
        go_enter Tryd.func182, Tryd.ntmps182
        go_wp2_with (fail)
        refine (hf _).mono ?_
        rintro e w1 ⟨rfl, hb⟩
        have B1 := below_step B0 hb B0.size
        have D1 := D0.below hb (by simp)
        have z1 : w.heap.size < w1.heap.size := by have := hb.size; simp at this; omega
        clear hb D0
        go_wp2_with (fail)
        refine (right_at y _ _ _ true hy (by simp [go_sem])).mono ?_
        rintro e w' ⟨rfl, rfl⟩
        have hb2 : Below w1.heap.size w1 (w1.alloc (.cells #[.int .i64 y] 2)) := (Below.refl _ _).alloc (Nat.le_refl _) _
        have B2 := below_step B1 hb2 B1.size
        obtain ⟨c0, c1, c2, c3, c4⟩ := id (D1.below hb2 z1)
        go_wp2
        go_ret2
        exact ⟨ret_p HE.out, B2⟩
      · have t1 : (k == 4) = false := by simpa using hk
        cases hs : amtB (y - p)
        · have HE := Lib.hid (chargeV_over hv hy hk hs)
          have hsub := fun w => sub_less y p w (by simp [hy, amtB_mk (x := p) (by omega) (by omega)]) hs
          clear hv hk
          go_enter Tryd.func182, Tryd.ntmps182
          go_wp2_with (fail)
          refine (hf _).mono ?_
          rintro e w1 ⟨rfl, hb⟩
          have B1 := below_step B0 hb B0.size
          have D1 := D0.below hb (by simp)
          have z1 : w.heap.size < w1.heap.size := by have := hb.size; simp at this; omega
          clear hb D0
          go_wp2_with (fail)
          refine (right_at y _ _ _ true hy (by simp [go_sem])).mono ?_
          rintro e w' ⟨rfl, rfl⟩
          have hb2 : Below w1.heap.size w1 (w1.alloc (.cells #[.int .i64 y] 2)) := (Below.refl _ _).alloc (Nat.le_refl _) _
          have B2 := below_step B1 hb2 B1.size
          obtain ⟨c0, c1, c2, c3, c4⟩ := id (D1.below hb2 z1)
          go_wp2_with (fail)
          refine (hsub _).mono ?_
          rintro e w3 ⟨rfl, hb3⟩
          have B3 := below_step B2 hb3 B2.size
          go_wp2
          go_ret2
          exact ⟨ret_p HE.out, B3⟩
        · obtain ⟨q0, q1⟩ := amtB_yes hs
          have HE0 := Lib.hid (chargeV_ok hv hy hk hs)
          have hsub := fun w => sub_ok y p w (by simp [hy, amtB_mk (x := p) (by omega) (by omega)]) hs
          clear hv hk
          by_cases hp : 0 < y - p
          · have HE := Lib.hid (show chargeV s k a f y n d = (y - p, 0) by rw [HE0.out, Int.max_eq_left (by omega)])
            clear HE0
            generalize y - p = m at *
            go_enter Tryd.func182, Tryd.ntmps182
            go_wp2_with (fail)
            refine (hf _).mono ?_
            rintro e w1 ⟨rfl, hb⟩
            have B1 := below_step B0 hb B0.size
            have D1 := D0.below hb (by simp)
            have z1 : w.heap.size < w1.heap.size := by have := hb.size; simp at this; omega
            clear hb D0
            go_wp2_with (fail)
            refine (right_at y _ _ _ true hy (by simp [go_sem])).mono ?_
            rintro e w' ⟨rfl, rfl⟩
            have hb2 : Below w1.heap.size w1 (w1.alloc (.cells #[.int .i64 y] 2)) := (Below.refl _ _).alloc (Nat.le_refl _) _
            have B2 := below_step B1 hb2 B1.size
            obtain ⟨c0, c1, c2, c3, c4⟩ := id (D1.below hb2 z1)
            go_wp2_with (fail)
            refine (hsub _).mono ?_
            rintro e w3 ⟨rfl, hb3⟩
            have B3 := below_step B2 hb3 B2.size
            go_wp2
            go_ret2
            exact ⟨ret_p HE.out, B3⟩
          · have HE := Lib.hid (show chargeV s k a f y n d = (0, 0) by rw [HE0.out, Int.max_eq_right (by omega)])
            clear HE0
            have hp' : y - p ≤ 0 := by omega
            generalize y - p = m at *
            go_enter Tryd.func182, Tryd.ntmps182
            go_wp2_with (fail)
            refine (hf _).mono ?_
            rintro e w1 ⟨rfl, hb⟩
            have B1 := below_step B0 hb B0.size
            have D1 := D0.below hb (by simp)
            have z1 : w.heap.size < w1.heap.size := by have := hb.size; simp at this; omega
            clear hb D0
            go_wp2_with (fail)
            refine (right_at y _ _ _ true hy (by simp [go_sem])).mono ?_
            rintro e w' ⟨rfl, rfl⟩
            have hb2 : Below w1.heap.size w1 (w1.alloc (.cells #[.int .i64 y] 2)) := (Below.refl _ _).alloc (Nat.le_refl _) _
            have B2 := below_step B1 hb2 B1.size
            obtain ⟨c0, c1, c2, c3, c4⟩ := id (D1.below hb2 z1)
            go_wp2_with (fail)
            refine (hsub _).mono ?_
            rintro e w3 ⟨rfl, hb3⟩
            have B3 := below_step B2 hb3 B2.size
            go_wp2
            all_goals go_ret2
            all_goals first | exact ⟨ret_p HE.out, B3⟩ | exact ⟨ret_p (by rw [HE.out]; congr 1; omega), B3⟩
  · have HE := Lib.hid (chargeV_free (y := y) hv hq)
    have t1 : (q != 0) = true := by simpa using hq
    clear hv hq
    go_enter Tryd.func182, Tryd.ntmps182
    go_wp2_with (fail)
    refine (hf _).mono ?_
    rintro e w1 ⟨rfl, hb⟩
    have B1 := below_step B0 hb B0.size
    have D1 := D0.below hb (by simp)
    have z1 : w.heap.size < w1.heap.size := by have := hb.size; simp at this; omega
    clear hb D0
    go_wp2
    go_ret2
    exact ⟨ret_p HE.out, B1⟩
theorem charge_v (s k a f y n d : Int) (x : Bool) (p q : Int) (hv : chargeV s k a f y n d = (p, q)) (w : World) (h : -9223372036854775808 ≤ a) (h' : a ≤ 9223372036854775807) :
    Calls Tryd.prog 182 #[.agg #[.int .i64 s, .int .i64 k, .int .i64 a, .int .i64 f, .bool x], .int .i64 y, .int .i64 n, .int .i64 d] w fun e w' => e = .returned (.tuple #[.int .i64 p, .int .i64 q]) ∧ Below w.heap.size w w' := by
  have := charge_any s k a f y n d x w h h'
  rw [hv] at this
  exact this
end Go.Proofs.YtffihnbpjcgicaaDoor
