/- The walk of the law FracParts. -/
import Derived.Test.YtjjeohnejhhacaaFracP
namespace Go.Proofs.Ytjjeohnejhhacaa
open Go.RowKit
set_option linter.unusedVariables false

/-- Add of two exact amounts, whose sum may be -/
theorem exadd_two (p q : Int) (W : World) (b o c : Nat) (h0 : W.cell? ⟨b, o, none⟩ = some (.int .i64 p)) (h1 : W.cell? ⟨b, o + 1, none⟩ = some (.int .i64 q))
    (hp : exB p = true) (hq : exB q = true) (hs : exB (p + q) = true) (s : Int) (e : p + q = s) :
    Calls Try.prog 15 #[.slice (some ⟨b, o, none⟩) 2 c] W fun e w' => e = .returned (.tuple #[.int .i64 s, .int .i64 0]) ∧ W = w' := by
  subst e
  refine exadd_any (some ⟨b, o, none⟩) 2 c W (fun i => if i = 0 then p else q) (fun _ => ⟨b, o, rfl, fun i hi => ?_⟩) (by omega) (p + q) 0 (.inl ⟨?_, rfl⟩)
  · have : i = 0 ∨ i = 1 := by omega
    rcases this with rfl | rfl
    · simpa using h0
    · simpa using h1
  · simp [exAcc, hp, hq, hs]
theorem rnd_near (p m : Int) : -10000 < p - 10000 * rnd p 10000 m ∧ p - 10000 * rnd p 10000 m < 10000 := by
  rcases rnd_cases p 10000 m with h | ⟨h, h2⟩ <;> rw [h] <;> omega

set_option maxHeartbeats 2000000 in
set_option maxRecDepth 100000 in
theorem wFracParts (x r m : Int) (w : World) (hx : -9223372036854775808 ≤ x) (hx' : x ≤ 9223372036854775807) (hr : -9223372036854775808 ≤ r) (hr' : r ≤ 9223372036854775807) (hm : -9223372036854775808 ≤ m) (hm' : m ≤ 9223372036854775807) :
    Calls Try.prog 5 #[.int .i64 x, .int .i64 r, .int .i64 m] w fun e w' => e = .returned (.bool true) ∧ Below w.heap.size w w' := by
  have pa := parts_any w
  cases ha : amtB x
  · have pt := fun w => part_amt x r w ha
    have tk := fun w => take_amt x r m w ha
    have h := amtB_no ha
    clear ha
    rcases h with h | h
    · have h2 : ¬ -100000000000 ≤ x := by omega
      go_enter Try.func5, Try.ntmps5
      go_wp2_with (fail)
      refine pa.mono ?_
      rintro e w1 ⟨rfl, hb1⟩
      go_wp2_with (fail)
      refine (pt _).mono ?_
      rintro e w2 ⟨rfl, hb2⟩
      go_wp2_with (fail)
      refine (tk _).mono ?_
      rintro e w3 ⟨rfl, hb3⟩
      go_wp2
      go_ret
      exact ⟨ret_b (by first | rfl | (simp; done) | (simp; omega)), below_step (below_step hb1 hb2 hb1.size) hb3 (Nat.le_trans hb1.size hb2.size)⟩
    · have h1 : -100000000000 ≤ x := by omega
      have h3 : decide (x ≤ 100000000000) = false := by simp; omega
      go_enter Try.func5, Try.ntmps5
      go_wp2_with (fail)
      refine pa.mono ?_
      rintro e w1 ⟨rfl, hb1⟩
      go_wp2_with (fail)
      refine (pt _).mono ?_
      rintro e w2 ⟨rfl, hb2⟩
      go_wp2_with (fail)
      refine (tk _).mono ?_
      rintro e w3 ⟨rfl, hb3⟩
      go_wp2
      go_ret
      exact ⟨ret_b (by first | rfl | (simp; done) | (simp; omega)), below_step (below_step hb1 hb2 hb1.size) hb3 (Nat.le_trans hb1.size hb2.size)⟩
  · have h := amtB_yes ha
    obtain ⟨x1, x2⟩ := h
    cases hrt : rateB r
    · have pt := fun w => part_rate x r w ha hrt
      have tk := fun w => take_rate x r m w ha hrt
      have h := rateB_no hrt
      clear ha hrt
      rcases h with h | h
      · go_enter Try.func5, Try.ntmps5
        go_wp2_with (fail)
        refine pa.mono ?_
        rintro e w1 ⟨rfl, hb1⟩
        go_wp2_with (fail)
        refine (pt _).mono ?_
        rintro e w2 ⟨rfl, hb2⟩
        go_wp2_with (fail)
        refine (tk _).mono ?_
        rintro e w3 ⟨rfl, hb3⟩
        go_wp2
        go_ret
        exact ⟨ret_b (by first | rfl | (simp; done) | (simp; omega)), below_step (below_step hb1 hb2 hb1.size) hb3 (Nat.le_trans hb1.size hb2.size)⟩
      · have h2 : ¬ r < 0 := by omega
        go_enter Try.func5, Try.ntmps5
        go_wp2_with (fail)
        refine pa.mono ?_
        rintro e w1 ⟨rfl, hb1⟩
        go_wp2_with (fail)
        refine (pt _).mono ?_
        rintro e w2 ⟨rfl, hb2⟩
        go_wp2_with (fail)
        refine (tk _).mono ?_
        rintro e w3 ⟨rfl, hb3⟩
        go_wp2
        go_ret
        exact ⟨ret_b (by first | rfl | (simp; done) | (simp; omega)), below_step (below_step hb1 hb2 hb1.size) hb3 (Nat.le_trans hb1.size hb2.size)⟩
    · have h := rateB_yes hrt
      obtain ⟨r1, r2⟩ := h
      have pt := fun w => part_ok x r w ha hrt
      have pt2 := fun w => part_ok x (10000 - r) w ha (rateB_mk (by omega) (by omega))
      have of := fun w => of_ok x w ha
      have m1 := mul_bd 10000 x1 x2 r1 r2
      have m2 := mul_bd 10000 x1 x2 (show 0 ≤ 10000 - r by omega) (by omega)
      rw [Int.mul_sub] at m2 pt2
      have tk1 := fun h w => take_mode x r m w ha hrt h
      have tk2 := fun h w => take_ok x r m w ha hrt h
      generalize hp : x * r = p at *
      have nr := rnd_near p m
      have p1 : -1000000000000000 ≤ p := by omega
      have p2 : p ≤ 1000000000000000 := by omega
      have q1 : -1000000000000000 ≤ x * 10000 - p := by omega
      have q2 : x * 10000 - p ≤ 1000000000000000 := by omega
      have ad := fun (W : World) b o h0 h1 => exadd_two p (x * 10000 - p) W b o 2 h0 h1 (exB_mk p1 p2) (exB_mk q1 q2) (exB_mk (by omega) (by omega)) (x * 10000) (by omega)
      have rt := fun w => exright_b p true (exB_mk p1 p2) w
      clear m1 m2 ha hrt
      cases hmo : modeB m
      · have tk := tk1 hmo
        have h := modeB_no hmo
        clear tk1 tk2 hmo nr
        rcases h with h | h
        · go_enter Try.func5, Try.ntmps5
          go_wp2_with (fail)
          refine pa.mono ?_
          rintro e w1 ⟨rfl, hb1⟩
          go_wp2_with (fail)
          refine (pt _).mono ?_
          rintro e w2 ⟨rfl, hb2⟩
          go_wp2_with (fail)
          refine (tk _).mono ?_
          rintro e w3 ⟨rfl, hb3⟩
          go_wp2_with (fail)
          refine (pt2 _).mono ?_
          rintro e w4 ⟨rfl, hb4⟩
          go_wp2_with (fail)
          refine (of _).mono ?_
          rintro e w5 ⟨rfl, hb5⟩
          go_wp2_with (fail)
          refine (ad _ _ _ (by simp [go_sem]) (by simp [go_sem])).mono ?_
          rintro e w6 ⟨rfl, rfl⟩
          go_wp2_with (fail)
          refine (rt _).mono ?_
          rintro e w7 ⟨rfl, rfl⟩
          go_wp2
          go_ret
          exact ⟨ret_b (by first | rfl | (simp; done) | (simp; omega)), (below_step (below_step (below_step (below_step hb1 hb2 hb1.size) hb3 (Nat.le_trans hb1.size hb2.size)) hb4 (Nat.le_trans hb1.size (Nat.le_trans hb2.size hb3.size))) hb5 (Nat.le_trans hb1.size (Nat.le_trans hb2.size (Nat.le_trans hb3.size hb4.size)))).alloc (Nat.le_trans hb1.size (Nat.le_trans hb2.size (Nat.le_trans hb3.size (Nat.le_trans hb4.size hb5.size)))) _⟩
        · have h2 : ¬ m < 1 := by omega
          go_enter Try.func5, Try.ntmps5
          go_wp2_with (fail)
          refine pa.mono ?_
          rintro e w1 ⟨rfl, hb1⟩
          go_wp2_with (fail)
          refine (pt _).mono ?_
          rintro e w2 ⟨rfl, hb2⟩
          go_wp2_with (fail)
          refine (tk _).mono ?_
          rintro e w3 ⟨rfl, hb3⟩
          go_wp2_with (fail)
          refine (pt2 _).mono ?_
          rintro e w4 ⟨rfl, hb4⟩
          go_wp2_with (fail)
          refine (of _).mono ?_
          rintro e w5 ⟨rfl, hb5⟩
          go_wp2_with (fail)
          refine (ad _ _ _ (by simp [go_sem]) (by simp [go_sem])).mono ?_
          rintro e w6 ⟨rfl, rfl⟩
          go_wp2_with (fail)
          refine (rt _).mono ?_
          rintro e w7 ⟨rfl, rfl⟩
          go_wp2
          go_ret
          exact ⟨ret_b (by first | rfl | (simp; done) | (simp; omega)), (below_step (below_step (below_step (below_step hb1 hb2 hb1.size) hb3 (Nat.le_trans hb1.size hb2.size)) hb4 (Nat.le_trans hb1.size (Nat.le_trans hb2.size hb3.size))) hb5 (Nat.le_trans hb1.size (Nat.le_trans hb2.size (Nat.le_trans hb3.size hb4.size)))).alloc (Nat.le_trans hb1.size (Nat.le_trans hb2.size (Nat.le_trans hb3.size (Nat.le_trans hb4.size hb5.size)))) _⟩
      · have tk := tk2 hmo
        have h := modeB_yes hmo
        obtain ⟨h1, h2⟩ := h
        have cb := rnd_bd (n := p) (d := 10000) (m := m) (by omega) (-1000000000000000) 1000000000000000 p1 p2 (by omega) (by omega)
        generalize rnd p 10000 m = c at *
        obtain ⟨n1, n2⟩ := nr
        obtain ⟨c1, c2⟩ := cb
        clear tk1 tk2 hmo
        go_enter Try.func5, Try.ntmps5
        go_wp2_with (fail)
        refine pa.mono ?_
        rintro e w1 ⟨rfl, hb1⟩
        go_wp2_with (fail)
        refine (pt _).mono ?_
        rintro e w2 ⟨rfl, hb2⟩
        go_wp2_with (fail)
        refine (tk _).mono ?_
        rintro e w3 ⟨rfl, hb3⟩
        go_wp2_with (fail)
        refine (pt2 _).mono ?_
        rintro e w4 ⟨rfl, hb4⟩
        go_wp2_with (fail)
        refine (of _).mono ?_
        rintro e w5 ⟨rfl, hb5⟩
        go_wp2_with (fail)
        refine (ad _ _ _ (by simp [go_sem]) (by simp [go_sem])).mono ?_
        rintro e w6 ⟨rfl, rfl⟩
        go_wp2_with (fail)
        refine (rt _).mono ?_
        rintro e w7 ⟨rfl, rfl⟩
        go_wp2
        go_ret
        exact ⟨ret_b (by first | rfl | (simp; done) | (simp; omega)), (below_step (below_step (below_step (below_step hb1 hb2 hb1.size) hb3 (Nat.le_trans hb1.size hb2.size)) hb4 (Nat.le_trans hb1.size (Nat.le_trans hb2.size hb3.size))) hb5 (Nat.le_trans hb1.size (Nat.le_trans hb2.size (Nat.le_trans hb3.size hb4.size)))).alloc (Nat.le_trans hb1.size (Nat.le_trans hb2.size (Nat.le_trans hb3.size (Nat.le_trans hb4.size hb5.size)))) _⟩
end Go.Proofs.Ytjjeohnejhhacaa
