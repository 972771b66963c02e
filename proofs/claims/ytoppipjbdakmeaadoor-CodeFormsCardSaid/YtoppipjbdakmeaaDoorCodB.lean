/- What the calls of code answer that reckon: Free, Charge. -/
import Derived.Test.YtoppipjbdakmeaaDoorCodA
namespace Go.Proofs.YtoppipjbdakmeaaDoor
open Go.RowKit
set_option linter.unusedVariables false

theorem ret_p {a b : Int} {p : Int × Int} (h : p = (a, b)) : Ending.returned (.tuple #[.int .i64 a, .int .i64 b]) = .returned (.tuple #[.int .i64 p.1, .int .i64 p.2]) := by rw [h]
set_option maxHeartbeats 1000000 in
theorem free_any (s k a f n d : Int) (x : Bool) (w : World) (h : -9223372036854775808 ≤ a) (h' : a ≤ 9223372036854775807) :
    Calls Tryd.prog 23 #[.agg #[.int .i64 s, .int .i64 k, .int .i64 a, .int .i64 f, .bool x], .int .i64 n, .int .i64 d] w fun e w' => e = .returned (.tuple #[.int .i64 (freeV s k a f n d).1, .int .i64 (freeV s k a f n d).2]) ∧ Below w.heap.size w w' := by
  have D0 := cd_new w s k a f x 47
  have B0 : Below w.heap.size w (w.alloc (.cells #[.int .i64 s, .int .i64 k, .int .i64 a, .int .i64 f, .bool x] 47)) := (Below.refl _ _).alloc (Nat.le_refl _) _
  by_cases hk : chkC s k a f = 0
  · have hc := fun w => check_c s k a f x 0 hk w h h'
    obtain ⟨_, _, hfit⟩ := chkC_zero hk
    obtain ⟨k1, k4, a0, a9, _, _, _⟩ := fitB_bd hfit
    have hA : amtB a = true := amtB_mk (by omega) (by omega)
    by_cases h1 : d < n
    · have HE := Lib.hid (freeV_range hk (.inr (.inl h1)))
      clear hk hfit
      go_enter Tryd.func23, Tryd.ntmps23
      go_wp2_with (fail)
      refine (hc _).mono ?_
      rintro e w1 ⟨rfl, hb⟩
      have B1 := below_step B0 hb B0.size
      go_wp2
      go_ret2
      exact ⟨ret_p HE.out, B1⟩
    have h1' : ¬ d < n := h1
    by_cases h2 : n < 0 ∨ 1048576 < n ∨ d < 1 ∨ 1048576 < d
    · have HE := Lib.hid (freeV_range (n := n) (d := d) hk (by omega))
      have hs := fun w => scale_range a n d w hA h2
      clear hk hfit h2
      go_enter Tryd.func23, Tryd.ntmps23
      go_wp2_with (fail)
      refine (hc _).mono ?_
      rintro e w1 ⟨rfl, hb⟩
      have B1 := below_step B0 hb B0.size
      obtain ⟨c0, c1, c2, c3, c4⟩ := D0.below hb (by simp)
      clear hb D0
      go_wp2_with (fail)
      refine (hs _).mono ?_
      rintro e w2 ⟨rfl, hb⟩
      have B2 := below_step B1 hb B1.size
      go_wp2
      go_ret2
      exact ⟨ret_p HE.out, B2⟩
    · obtain ⟨p0, p1⟩ := part_bd (a := a) (n := n) (d := d) a0 (by omega) (by omega) (by omega)
      have HE := Lib.hid (freeV_ok (n := n) (d := d) hk (by omega) (by omega) (by omega) (by omega))
      have hs := fun w => scale_ok a n d w hA (by omega) (by omega) (by omega) (by omega) true (amtB_mk (by omega) (by omega))
      simp only [if_true] at hs
      clear h2 hfit hk
      generalize a * n / d = q at *
      by_cases kk : k = 2
      · have t1 : (k == 2) = true := by simpa using kk
        have HE := Lib.hid (show freeV s k a f n d = (-q, 0) by rw [HE.out, if_pos kk])
        clear kk
        go_enter Tryd.func23, Tryd.ntmps23
        go_wp2_with (fail)
        refine (hc _).mono ?_
        rintro e w1 ⟨rfl, hb⟩
        have B1 := below_step B0 hb B0.size
        have D1 := D0.below hb (by simp)
        have z1 : w.heap.size < w1.heap.size := by have := hb.size; simp at this; omega
        obtain ⟨c0, c1, c2, c3, c4⟩ := id D1
        clear hb D0
        go_wp2_with (fail)
        refine (hs _).mono ?_
        rintro e w2 ⟨rfl, hb⟩
        have B2 := below_step B1 hb B1.size
        obtain ⟨e0, e1, e2, e3, e4⟩ := D1.below hb z1
        clear hb D1 c0 c1 c2 c3 c4
        go_wp2
        go_ret2
        exact ⟨ret_p HE.out, B2⟩
      · have t1 : (k == 2) = false := by simpa using kk
        have HE := Lib.hid (show freeV s k a f n d = (q, 0) by rw [HE.out, if_neg kk])
        clear kk
        go_enter Tryd.func23, Tryd.ntmps23
        go_wp2_with (fail)
        refine (hc _).mono ?_
        rintro e w1 ⟨rfl, hb⟩
        have B1 := below_step B0 hb B0.size
        have D1 := D0.below hb (by simp)
        have z1 : w.heap.size < w1.heap.size := by have := hb.size; simp at this; omega
        obtain ⟨c0, c1, c2, c3, c4⟩ := id D1
        clear hb D0
        go_wp2_with (fail)
        refine (hs _).mono ?_
        rintro e w2 ⟨rfl, hb⟩
        have B2 := below_step B1 hb B1.size
        obtain ⟨e0, e1, e2, e3, e4⟩ := D1.below hb z1
        clear hb D1 c0 c1 c2 c3 c4
        go_wp2
        go_ret2
        exact ⟨ret_p HE.out, B2⟩
  · have hc := fun w => check_any s k a f x w h h'
    have HE := Lib.hid (freeV_bad (n := n) (d := d) hk)
    have t1 : (chkC s k a f != 0) = true := by simpa using hk
    clear hk
    generalize chkC s k a f = v at *
    go_enter Tryd.func23, Tryd.ntmps23
    go_wp2_with (fail)
    refine (hc _).mono ?_
    rintro e w1 ⟨rfl, hb⟩
    have B1 := below_step B0 hb B0.size
    go_wp2
    go_ret2
    exact ⟨ret_p HE.out, B1⟩
theorem free_v (s k a f n d : Int) (x : Bool) (p q : Int) (hv : freeV s k a f n d = (p, q)) (w : World) (h : -9223372036854775808 ≤ a) (h' : a ≤ 9223372036854775807) :
    Calls Tryd.prog 23 #[.agg #[.int .i64 s, .int .i64 k, .int .i64 a, .int .i64 f, .bool x], .int .i64 n, .int .i64 d] w fun e w' => e = .returned (.tuple #[.int .i64 p, .int .i64 q]) ∧ Below w.heap.size w w' := by
  have := free_any s k a f n d x w h h'
  rw [hv] at this
  exact this
theorem chargeV_free {s k a f y n d p q : Int} (hf : freeV s k a f n d = (p, q)) (hq : q ≠ 0) : chargeV s k a f y n d = (0, q) := by unfold chargeV; rw [hf, if_pos hq]
theorem chargeV_amt {s k a f y n d p : Int} (hf : freeV s k a f n d = (p, 0)) (hy : amtB y = false) : chargeV s k a f y n d = (0, 10) := by unfold chargeV; rw [hf, if_neg (by simp), if_pos hy]
theorem chargeV_none {s k a f y n d p : Int} (hf : freeV s k a f n d = (p, 0)) (hy : amtB y = true) (hk : k = 4) : chargeV s k a f y n d = (0, 0) := by unfold chargeV; rw [hf, if_neg (by simp), if_neg (by simp [hy]), if_pos hk]
theorem chargeV_over {s k a f y n d p : Int} (hf : freeV s k a f n d = (p, 0)) (hy : amtB y = true) (hk : ¬ k = 4) (hs : amtB (y - p) = false) : chargeV s k a f y n d = (0, 10) := by unfold chargeV; rw [hf, if_neg (by simp), if_neg (by simp [hy]), if_neg hk, if_pos hs]
theorem chargeV_ok {s k a f y n d p : Int} (hf : freeV s k a f n d = (p, 0)) (hy : amtB y = true) (hk : ¬ k = 4) (hs : amtB (y - p) = true) : chargeV s k a f y n d = (max (y - p) 0, 0) := by unfold chargeV; rw [hf, if_neg (by simp), if_neg (by simp [hy]), if_neg hk, if_neg (by simp [hs])]
theorem freeV_amt {s k a f n d p : Int} (h : freeV s k a f n d = (p, 0)) : -999999000 ≤ p ∧ p ≤ 999999000 := by
  by_cases hk : chkC s k a f = 0
  · by_cases h2 : n < 0 ∨ d < n ∨ d < 1 ∨ 1048576 < d
    · rw [freeV_range hk h2] at h
      cases h
    · rw [freeV_ok hk (by omega) (by omega) (by omega) (by omega)] at h
      obtain ⟨_, _, hfit⟩ := chkC_zero hk
      obtain ⟨k1, k4, a0, a9, _, _, _⟩ := fitB_bd hfit
      obtain ⟨p0, p1⟩ := part_bd (a := a) (n := n) (d := d) a0 (by omega) (by omega) (by omega)
      have h := congrArg Prod.fst h
      simp only at h
      split at h <;> omega
  · rw [freeV_bad hk] at h
    exact absurd (congrArg Prod.snd h) hk
set_option maxHeartbeats 1000000 in
theorem charge_any (s k a f y n d : Int) (x : Bool) (w : World) (h : -9223372036854775808 ≤ a) (h' : a ≤ 9223372036854775807) :
    Calls Tryd.prog 45 #[.agg #[.int .i64 s, .int .i64 k, .int .i64 a, .int .i64 f, .bool x], .int .i64 y, .int .i64 n, .int .i64 d] w fun e w' => e = .returned (.tuple #[.int .i64 (chargeV s k a f y n d).1, .int .i64 (chargeV s k a f y n d).2]) ∧ Below w.heap.size w w' := by
  have D0 := cd_new w s k a f x 47
  have B0 : Below w.heap.size w (w.alloc (.cells #[.int .i64 s, .int .i64 k, .int .i64 a, .int .i64 f, .bool x] 47)) := (Below.refl _ _).alloc (Nat.le_refl _) _
  obtain ⟨⟨p, q⟩, hv⟩ : ∃ v, freeV s k a f n d = v := ⟨_, rfl⟩
  have hf := fun w => free_v s k a f n d x p q hv w h h'
  by_cases hq : q = 0
  · subst hq
    obtain ⟨p0, p1⟩ := freeV_amt hv
    cases hy : amtB y
    · have HE := Lib.hid (chargeV_amt hv hy)
      clear hv
      go_enter Tryd.func45, Tryd.ntmps45
      go_wp2_with (fail)
      refine (hf _).mono ?_
      rintro e w1 ⟨rfl, hb⟩
      have B1 := below_step B0 hb B0.size
      have D1 := D0.below hb (by simp)
      have z1 : w.heap.size < w1.heap.size := by have := hb.size; simp at this; omega
      clear hb D0
      go_wp2_with (fail)
      refine (right_at y _ _ _ false hy (by simp [go_sem])).mono ?_
      rintro e w' ⟨rfl, rfl⟩
      have hb2 : Below w1.heap.size w1 (w1.alloc (.cells #[.int .i64 y] 2)) := (Below.refl _ _).alloc (Nat.le_refl _) _
      have B2 := below_step B1 hb2 B1.size
      obtain ⟨c0, c1, c2, c3, c4⟩ := id (D1.below hb2 z1)
      go_wp2
      go_ret2
      exact ⟨ret_p HE.out, B2⟩
    · obtain ⟨y0, y1⟩ := amtB_yes hy
      by_cases hk : k = 4
      · have HE := Lib.hid (chargeV_none hv hy hk)
        have t1 : (k == 4) = true := by simpa using hk
        clear hv hk
        go_enter Tryd.func45, Tryd.ntmps45
        go_wp2_with (fail)
        refine (hf _).mono ?_
        rintro e w1 ⟨rfl, hb⟩
        have B1 := below_step B0 hb B0.size
        have D1 := D0.below hb (by simp)
        have z1 : w.heap.size < w1.heap.size := by have := hb.size; simp at this; omega
        clear hb D0
        go_wp2_with (fail)
        refine (right_at y _ _ _ true hy (by simp [go_sem])).mono ?_
        rintro e w' ⟨rfl, rfl⟩
        have hb2 : Below w1.heap.size w1 (w1.alloc (.cells #[.int .i64 y] 2)) := (Below.refl _ _).alloc (Nat.le_refl _) _
        have B2 := below_step B1 hb2 B1.size
        obtain ⟨c0, c1, c2, c3, c4⟩ := id (D1.below hb2 z1)
        go_wp2
        go_ret2
        exact ⟨ret_p HE.out, B2⟩
      · have t1 : (k == 4) = false := by simpa using hk
        cases hs : amtB (y - p)
        · have HE := Lib.hid (chargeV_over hv hy hk hs)
          have hsub := fun w => sub_less y p w (by simp [hy, amtB_mk (x := p) (by omega) (by omega)]) hs
          clear hv hk
          go_enter Tryd.func45, Tryd.ntmps45
          go_wp2_with (fail)
          refine (hf _).mono ?_
          rintro e w1 ⟨rfl, hb⟩
          have B1 := below_step B0 hb B0.size
          have D1 := D0.below hb (by simp)
          have z1 : w.heap.size < w1.heap.size := by have := hb.size; simp at this; omega
          clear hb D0
          go_wp2_with (fail)
          refine (right_at y _ _ _ true hy (by simp [go_sem])).mono ?_
          rintro e w' ⟨rfl, rfl⟩
          have hb2 : Below w1.heap.size w1 (w1.alloc (.cells #[.int .i64 y] 2)) := (Below.refl _ _).alloc (Nat.le_refl _) _
          have B2 := below_step B1 hb2 B1.size
          obtain ⟨c0, c1, c2, c3, c4⟩ := id (D1.below hb2 z1)
          go_wp2_with (fail)
          refine (hsub _).mono ?_
          rintro e w3 ⟨rfl, hb3⟩
          have B3 := below_step B2 hb3 B2.size
          go_wp2
          go_ret2
          exact ⟨ret_p HE.out, B3⟩
        · obtain ⟨q0, q1⟩ := amtB_yes hs
          have HE0 := Lib.hid (chargeV_ok hv hy hk hs)
          have hsub := fun w => sub_ok y p w (by simp [hy, amtB_mk (x := p) (by omega) (by omega)]) hs
          clear hv hk
          by_cases hp : 0 < y - p
          · have HE := Lib.hid (show chargeV s k a f y n d = (y - p, 0) by rw [HE0.out, Int.max_eq_left (by omega)])
            clear HE0
            generalize y - p = m at *
            go_enter Tryd.func45, Tryd.ntmps45
            go_wp2_with (fail)
            refine (hf _).mono ?_
            rintro e w1 ⟨rfl, hb⟩
            have B1 := below_step B0 hb B0.size
            have D1 := D0.below hb (by simp)
            have z1 : w.heap.size < w1.heap.size := by have := hb.size; simp at this; omega
            clear hb D0
            go_wp2_with (fail)
            refine (right_at y _ _ _ true hy (by simp [go_sem])).mono ?_
            rintro e w' ⟨rfl, rfl⟩
            have hb2 : Below w1.heap.size w1 (w1.alloc (.cells #[.int .i64 y] 2)) := (Below.refl _ _).alloc (Nat.le_refl _) _
            have B2 := below_step B1 hb2 B1.size
            obtain ⟨c0, c1, c2, c3, c4⟩ := id (D1.below hb2 z1)
            go_wp2_with (fail)
            refine (hsub _).mono ?_
            rintro e w3 ⟨rfl, hb3⟩
            have B3 := below_step B2 hb3 B2.size
            go_wp2
            go_ret2
            exact ⟨ret_p HE.out, B3⟩
          · have HE := Lib.hid (show chargeV s k a f y n d = (0, 0) by rw [HE0.out, Int.max_eq_right (by omega)])
            clear HE0
            have hp' : y - p ≤ 0 := by omega
            generalize y - p = m at *
            go_enter Tryd.func45, Tryd.ntmps45
            go_wp2_with (fail)
            refine (hf _).mono ?_
            rintro e w1 ⟨rfl, hb⟩
            have B1 := below_step B0 hb B0.size
            have D1 := D0.below hb (by simp)
            have z1 : w.heap.size < w1.heap.size := by have := hb.size; simp at this; omega
            clear hb D0
            go_wp2_with (fail)
            refine (right_at y _ _ _ true hy (by simp [go_sem])).mono ?_
            rintro e w' ⟨rfl, rfl⟩
            have hb2 : Below w1.heap.size w1 (w1.alloc (.cells #[.int .i64 y] 2)) := (Below.refl _ _).alloc (Nat.le_refl _) _
            have B2 := below_step B1 hb2 B1.size
            obtain ⟨c0, c1, c2, c3, c4⟩ := id (D1.below hb2 z1)
            go_wp2_with (fail)
            refine (hsub _).mono ?_
            rintro e w3 ⟨rfl, hb3⟩
            have B3 := below_step B2 hb3 B2.size
            go_wp2
            all_goals go_ret2
            all_goals first | exact ⟨ret_p HE.out, B3⟩ | exact ⟨ret_p (by rw [HE.out]; congr 1; omega), B3⟩
  · have HE := Lib.hid (chargeV_free (y := y) hv hq)
    have t1 : (q != 0) = true := by simpa using hq
    clear hv hq
    go_enter Tryd.func45, Tryd.ntmps45
    go_wp2_with (fail)
    refine (hf _).mono ?_
    rintro e w1 ⟨rfl, hb⟩
    have B1 := below_step B0 hb B0.size
    have D1 := D0.below hb (by simp)
    have z1 : w.heap.size < w1.heap.size := by have := hb.size; simp at this; omega
    clear hb D0
    go_wp2
    go_ret2
    exact ⟨ret_p HE.out, B1⟩
theorem charge_v (s k a f y n d : Int) (x : Bool) (p q : Int) (hv : chargeV s k a f y n d = (p, q)) (w : World) (h : -9223372036854775808 ≤ a) (h' : a ≤ 9223372036854775807) :
    Calls Tryd.prog 45 #[.agg #[.int .i64 s, .int .i64 k, .int .i64 a, .int .i64 f, .bool x], .int .i64 y, .int .i64 n, .int .i64 d] w fun e w' => e = .returned (.tuple #[.int .i64 p, .int .i64 q]) ∧ Below w.heap.size w w' := by
  have := charge_any s k a f y n d x w h h'
  rw [hv] at this
  exact this
end Go.Proofs.YtoppipjbdakmeaaDoor
