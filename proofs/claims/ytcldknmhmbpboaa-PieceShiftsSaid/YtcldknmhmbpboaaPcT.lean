/- The first call of all of piece's laws: goes answers true. -/
import Derived.Test.YtcldknmhmbpboaaPcR
import Derived.Test.YtcldknmhmbpboaaPcS
namespace Go.Proofs.Ytcldknmhmbpboaa
open Go.RowKit Go.Sort
set_option linter.unusedVariables false
set_option linter.unusedSimpArgs false

theorem goes_corner (w : World) : Calls Try.prog 20 #[.int .i64 10, .int .i64 3] w fun e w' => ∃ A c, e = .returned (.slice A 2 c) ∧ Lm w' A Lf.f1 ∧ Below w.heap.size w w' :=
  (corner_any 10 3 w (by omega) (by omega)).mono fun e w' ⟨A, c, he, hl, hb⟩ => ⟨A, c, he, hl, hb⟩
theorem goes_least (w : World) (A B : Option Addr) (c d : Nat) (h : Lm w A Lf.f1) (h2 : Lm w B Lf.s7) :
    Calls Try.prog 16 #[.slice A 2 c, .slice B 1 d] w fun e w' => ∃ s A c, e = .returned (.tuple #[.slice A (Lf.n s) c, .int .i64 0]) ∧ (Lf.Rep s 10000000001 (Lf.pkH Lf.f1 Lf.s7 1) ∧ s.chk = 0 ∧ 3 ≤ s.n ∧ s.n ≤ 4) ∧ (s.F (s.n - 1) = 13 ∧ s.V (s.n - 1) = 7 ∧ s.R (s.n - 1) = 0) ∧ Lm w' A s ∧ Below w.heap.size w w' :=
  (least_ok A B c d Lf.f1 Lf.s7 w h h2 Lf.f1_chk Lf.s7_chk).mono fun e w' ⟨s, H, hn, hR, hG, hc, hb⟩ => by
    have hn4 : s.n ≤ 4 := by
      have h3 : s.n + 2 ≤ 2 * (2 + 1) := hn
      omega
    have hz := Lf.pk_chk (Lf.chk_zero Lf.f1_chk) (Lf.chk_zero Lf.s7_chk) H hR
    rw [if_neg (by omega)] at hz
    obtain ⟨l1, l2, l3, l4⟩ := Lf.least_last H hG
    rcases hc with ⟨_, A', c', he, hl⟩ | ⟨hne, _⟩
    · exact ⟨s, A', c', he, ⟨H, hz, l1, hn4⟩, ⟨l2, l3, l4⟩, hl, hb⟩
    · exact absurd hz hne
theorem goes_at (w : World) (A : Option Addr) (c : Nat) (h : Lm w A Lf.f1) : Calls Try.prog 11 #[.slice A 2 c, .int .i64 12] w fun e w' => e = .returned (.tuple #[.int .i64 6, .int .i64 0]) ∧ Below w.heap.size w w' :=
  (at_any A c Lf.f1 12 w h (by show 2 ≤ _; omega)).mono fun e w' ⟨he, hb⟩ => ⟨by
    rw [he]
    unfold atV atE
    rw [if_pos Lf.f1_chk, if_pos Lf.f1_chk, show xB 12 = true from rfl, Lf.f1_val]
    rfl, hb⟩
theorem goes_reach (w : World) (A : Option Addr) (c : Nat) (h : Lm w A Lf.f1) : Calls Try.prog 18 #[.slice A 2 c, .int .i64 7] w fun e w' => e = .returned (.tuple #[.int .i64 13, .int .i64 2, .bool true]) ∧ Below w.heap.size w w' :=
  (reach_any A c Lf.f1 7 w h (by show 2 ≤ _; omega)).mono fun e w' ⟨he, hb⟩ => ⟨by
    have r0 : ¬ Lf.f1.rcP 7 0 := by rintro (h | h) <;> revert h <;> decide +kernel
    have r1 : Lf.f1.rcP 7 1 := .inr (by decide +kernel)
    rcases he with ⟨hne, _⟩ | ⟨_, ⟨i, hi, _, hr, he⟩ | ⟨hno, _⟩⟩
    · exact absurd Lf.f1_chk hne
    · have hi2 : i < 2 := hi
      rcases (show i = 0 ∨ i = 1 by omega) with rfl | rfl
      · exact absurd hr r0
      · rw [he]; rfl
    · exact absurd r1 (hno 1 (by show 1 < 2; omega)), hb⟩
theorem goes_add (w : World) (A B : Option Addr) (c d : Nat) (h : Lm w A Lf.f1) (h2 : Lm w B Lf.s1) :
    Calls Try.prog 14 #[.slice A 2 c, .slice B 1 d, .int .i64 (-1)] w fun e w' => ∃ s A c, e = .returned (.tuple #[.slice A (Lf.n s) c, .int .i64 0]) ∧ (Lf.Rep s 10000000001 (Lf.smH Lf.f1 Lf.s1 (-1)) ∧ s.chk = 0 ∧ s.n ≤ 4) ∧ Lm w' A s ∧ Below w.heap.size w w' :=
  (add_ok A B c d Lf.f1 Lf.s1 (-1) w h h2 Lf.f1_chk Lf.s1_chk (.inl rfl)).mono fun e w' ⟨s, H, hn, hG, hc, hb⟩ => by
    have hn4 : s.n ≤ 4 := by
      have h3 : s.n + 1 ≤ 2 + 1 := hn
      omega
    have hz := Lf.add_chk H hG (by omega)
    rcases hc with ⟨_, A', c', he, hl⟩ | ⟨hne, _⟩
    · exact ⟨s, A', c', he, ⟨H, hz, hn4⟩, hl, hb⟩
    · exact absurd hz hne
theorem goes_greatest (w : World) (A B : Option Addr) (c d : Nat) (s : Lf) (h : Lm w A Lf.f1) (h2 : Lm w B s) (hs : s.chk = 0) (hn4 : s.n ≤ 4) :
    Calls Try.prog 17 #[.slice A 2 c, .slice B s.n d] w fun e w' => ∃ m A c, e = .returned (.tuple #[.slice A (Lf.n m) c, .int .i64 0]) ∧ (Lf.Rep m 10000000001 (Lf.pkH Lf.f1 s (-1)) ∧ m.chk = 0 ∧ m.n ≤ 100) ∧ Lm w' A m ∧ Below w.heap.size w w' :=
  (greatest_ok A B c d Lf.f1 s w h h2 Lf.f1_chk hs).mono fun e w' ⟨m, H, hn, hR, hG, hc, hb⟩ => by
    have hnm : m.n ≤ 100 := by
      have h3 : m.n + 2 ≤ 2 * (2 + s.n) := hn
      omega
    have hz := Lf.pk_chk (Lf.chk_zero Lf.f1_chk) (Lf.chk_zero hs) H hR
    rw [if_neg (by omega)] at hz
    rcases hc with ⟨_, A', c', he, hl⟩ | ⟨hne, _⟩
    · exact ⟨m, A', c', he, ⟨H, hz, hnm⟩, hl, hb⟩
    · exact absurd hz hne
theorem goes_at11 (w : World) (A : Option Addr) (c : Nat) (s : Lf) (h : Lm w A s) (H : Lf.Rep s 10000000001 (Lf.smH Lf.f1 Lf.s1 (-1))) (hz : s.chk = 0) (hn : s.n ≤ 4) : Calls Try.prog 11 #[.slice A s.n c, .int .i64 11] w fun e w' => e = .returned (.tuple #[.int .i64 (-9), .int .i64 0]) ∧ Below w.heap.size w w' :=
  (at_any A c s 11 w h (by omega)).mono fun e w' ⟨he, hb⟩ => ⟨by
    rw [he]
    unfold atV atE
    rw [if_pos hz, if_pos hz, show xB 11 = true from rfl, H.val_is (by omega) (by omega), show Lf.smH Lf.f1 Lf.s1 (-1) 11 = Lf.h2 11 from rfl, Lf.h2_val (by omega)]
    rfl, hb⟩
theorem goes_at14 (w : World) (A : Option Addr) (c : Nat) (s m : Lf) (h : Lm w A m) (hS : Lf.Rep s 10000000001 (Lf.pkH Lf.f1 Lf.s7 1)) (H : Lf.Rep m 10000000001 (Lf.pkH Lf.f1 s (-1))) (hz : m.chk = 0) (hn : m.n ≤ 100) : Calls Try.prog 11 #[.slice A m.n c, .int .i64 14] w fun e w' => e = .returned (.tuple #[.int .i64 12, .int .i64 0]) ∧ Below w.heap.size w w' :=
  (at_any A c m 14 w h (by omega)).mono fun e w' ⟨he, hb⟩ => ⟨by
    rw [he]
    unfold atV atE
    rw [if_pos hz, if_pos hz, show xB 14 = true from rfl, H.val_is (by omega) (by omega)]
    unfold Lf.pkH Lf.pick
    rw [hS.val_is (by omega) (by omega), Lf.h1 (by omega), Lf.f1_val]
    rfl, hb⟩
theorem goes_falls1 (w : World) (A : Option Addr) (c : Nat) (h : Lm w A Lf.f1) : Calls Try.prog 19 #[.slice A 2 c] w fun e w' => e = .returned (.bool false) ∧ Below w.heap.size w w' :=
  (falls_any A c Lf.f1 w h (by show 2 ≤ _; omega)).mono fun e w' ⟨he, hb⟩ => ⟨by rw [he, show flB Lf.f1 = false by unfold flB; rw [if_pos Lf.f1_chk, Lf.f1_falls]], hb⟩
theorem goes_falls2 (w : World) (A : Option Addr) (c : Nat) (s : Lf) (h : Lm w A s) (H : Lf.Rep s 10000000001 (Lf.smH Lf.f1 Lf.s1 (-1))) (hz : s.chk = 0) (hn : s.n ≤ 4) : Calls Try.prog 19 #[.slice A s.n c] w fun e w' => e = .returned (.bool true) ∧ Below w.heap.size w w' :=
  (falls_any A c s w h (by omega)).mono fun e w' ⟨he, hb⟩ => ⟨by rw [he, show flB s = true by unfold flB; rw [if_pos hz, Lf.add_falls H]], hb⟩
theorem goes_find (w : World) (A : Option Addr) (c : Nat) (h : Lm w A Lf.f1) (x : Int) : Calls Try.prog 25 #[.slice A 2 c, .int .i64 x] w fun e w' => e = .returned (.int .i64 (Lf.f1.idx x : Int)) ∧ Below w.heap.size w w' :=
  find_any A c Lf.f1 x w h (Lf.chk_zero Lf.f1_chk).toOrd (by show 2 ≤ _; omega)
set_option maxHeartbeats 4000000 in
set_option maxRecDepth 100000 in
theorem goes_any (w : World) : Calls Try.prog 9 #[] w fun e w' => e = .returned (.bool true) ∧ Below w.heap.size w w' := by
  go_enter Try.func9, Try.ntmps9
  go_wp2_with (fail)
  refine (goes_corner _).mono ?_
  rintro e w1 ⟨A1, c1, rfl, L1, B1⟩
  go_wp2_with (fail)
  refine (straight_any 7 0 _).mono ?_
  rintro e w2 ⟨rfl, O2, hb2⟩
  have B2 := below_step B1 hb2 B1.size
  go_wp2_with (fail)
  refine (goes_least _ A1 _ c1 _ (L1.below hb2) O2.lm).mono ?_
  rintro e w3 ⟨s, A3, c3, rfl, HS, HL, L3, hb3⟩
  have B3 := below_step B2 hb3 B2.size
  have M1 := (L1.below hb2).below hb3
  have HSH := Lib.hid HS
  obtain ⟨b1, o1, rfl, p0, p1, p2⟩ := lm_at M1 (i := 0) (by show 0 < 2; omega)
  obtain ⟨b1', o1', e1, q0, q1, q2⟩ := lm_at M1 (i := 1) (by show 1 < 2; omega)
  obtain ⟨rfl, rfl⟩ : b1 = b1' ∧ o1 = o1' := by simpa using e1
  obtain ⟨b3, o3, rfl, r0, r1, r2⟩ := lm_at L3 (i := s.n - 1) (by omega)
  rw [HL.1] at r0
  rw [HL.2.1] at r1
  rw [HL.2.2] at r2
  rw [show Lf.f1.F 0 = 0 from rfl] at p0
  rw [show Lf.f1.V 0 = 0 from rfl] at p1
  rw [show Lf.f1.R 0 = 0 from rfl] at p2
  rw [show Lf.f1.F 1 = 10 from rfl] at q0
  rw [show Lf.f1.V 1 = 0 from rfl] at q1
  rw [show Lf.f1.R 1 = 3 from rfl] at q2
  have hn3 := HS.2.2.1
  have hn4 := HS.2.2.2
  have d3 : decide ((s.n : Int) < 3) = false := by simp; omega
  have u1 : IntKind.i64.wrap ((s.n : Int) - 1) = (s.n : Int) - 1 := IntWalk.i64_in _ (by omega)
  have e1 : ((s.n : Int) - 1).toNat = s.n - 1 := by omega
  have i0 : 0 ≤ (s.n : Int) - 1 := by omega
  have i1 : (s.n : Int) - 1 < (s.n : Int) := by omega
  clear HS HL L1 O2 hb2 hb3 B1 B2 hn3 hn4
  have NB := (below_new w3 (.cells #[.int .i64 0, .int .i64 0, .int .i64 0] 37)).alloc (by simp) (.cells #[.int .i64 10, .int .i64 0, .int .i64 3] 37)
  have KA := (bx_new w3 [.int .i64 0, .int .i64 0, .int .i64 0] 37).alloc (.cells #[.int .i64 10, .int .i64 0, .int .i64 3] 37)
  have KB := bx_at (w3.alloc (.cells #[.int .i64 0, .int .i64 0, .int .i64 0] 37)) [.int .i64 10, .int .i64 0, .int .i64 3] 37 (n := w3.heap.size + 1) (by simp)
  have M4 := M1.below NB
  have L4 := L3.below NB
  have B4 := below_step B3 NB B3.size
  replace p0 := cell_later NB p0
  replace p1 := cell_later NB p1
  replace p2 := cell_later NB p2
  replace q0 := cell_later NB q0
  replace q1 := cell_later NB q1
  replace q2 := cell_later NB q2
  replace r0 := cell_later NB r0
  replace r1 := cell_later NB r1
  replace r2 := cell_later NB r2
  clear NB M1 L3 B3
  go_wp2
  generalize (w3.alloc (.cells #[.int .i64 0, .int .i64 0, .int .i64 0] 37)).alloc (.cells #[.int .i64 10, .int .i64 0, .int .i64 3] 37) = W4 at *
  replace p0 : W4.cell? ⟨b1, o1, none⟩ = some (.int .i64 0) := p0
  replace p1 : W4.cell? ⟨b1, o1 + 1, none⟩ = some (.int .i64 0) := p1
  replace p2 : W4.cell? ⟨b1, o1 + 2, none⟩ = some (.int .i64 0) := p2
  replace q0 : W4.cell? ⟨b1, o1 + 3, none⟩ = some (.int .i64 10) := q0
  replace q1 : W4.cell? ⟨b1, o1 + 4, none⟩ = some (.int .i64 0) := q1
  replace q2 : W4.cell? ⟨b1, o1 + 5, none⟩ = some (.int .i64 3) := q2
  have x_0 := KA.cell (i := 0) rfl
  have x_1 := KA.cell (i := 1) rfl
  have x_2 := KA.cell (i := 2) rfl
  have y_0 := KB.cell (i := 0) rfl
  have y_1 := KB.cell (i := 1) rfl
  have y_2 := KB.cell (i := 2) rfl
  clear KA KB
  go_quiet (fail)
  have M5 := M4.below (below_drewN (Below.refl _ _) nq)
  have L5 := L4.below (below_drewN (Below.refl _ _) nq)
  have B5 := below_drewN B4 nq
  clear M4 L4 B4 p0 p1 p2 q0 q1 q2 r0 r1 r2 x_0 x_1 x_2 y_0 y_1 y_2 d3 u1 i0 i1
  generalize W4.drewN nq = W5 at *
  go_wp2_with (fail)
  refine (goes_at _ _ c1 M5).mono ?_
  rintro e w6 ⟨rfl, hb⟩
  replace M5 := M5.below hb
  replace L5 := L5.below hb
  replace B5 := below_step B5 hb B5.size
  clear hb
  go_wp2_with (fail)
  refine (goes_reach _ _ c1 M5).mono ?_
  rintro e w7 ⟨rfl, hb⟩
  replace M5 := M5.below hb
  replace L5 := L5.below hb
  replace B5 := below_step B5 hb B5.size
  clear hb
  go_wp2_with (fail)
  refine (straight_any 1 1 _).mono ?_
  rintro e w8 ⟨rfl, O8, hb⟩
  replace M5 := M5.below hb
  replace L5 := L5.below hb
  replace B5 := below_step B5 hb B5.size
  clear hb
  go_wp2_with (fail)
  refine (goes_add _ _ _ c1 _ M5 O8.lm).mono ?_
  rintro e w9 ⟨t, A9, c9, rfl, HT, L9, hb⟩
  replace M5 := M5.below hb
  replace L5 := L5.below hb
  replace B5 := below_step B5 hb B5.size
  clear hb O8
  go_wp2_with (fail)
  refine (goes_greatest _ _ _ c1 c3 s M5 L5 HSH.out.2.1 HSH.out.2.2.2).mono ?_
  rintro e w10 ⟨m, A10, c10, rfl, HM, L10, hb⟩
  replace M5 := M5.below hb
  replace L9 := L9.below hb
  replace B5 := below_step B5 hb B5.size
  clear hb L5
  go_wp2_with (fail)
  refine (goes_at11 _ _ c9 t L9 HT.1 HT.2.1 HT.2.2).mono ?_
  rintro e w11 ⟨rfl, hb⟩
  replace M5 := M5.below hb
  replace L9 := L9.below hb
  replace L10 := L10.below hb
  replace B5 := below_step B5 hb B5.size
  clear hb
  go_wp2_with (fail)
  refine (goes_at14 _ _ c10 s m L10 HSH.out.1 HM.1 HM.2.1 HM.2.2).mono ?_
  rintro e w12 ⟨rfl, hb⟩
  replace M5 := M5.below hb
  replace L9 := L9.below hb
  replace B5 := below_step B5 hb B5.size
  clear hb L10
  go_wp2_with (fail)
  refine (goes_falls2 _ _ c9 t L9 HT.1 HT.2.1 HT.2.2).mono ?_
  rintro e w13 ⟨rfl, hb⟩
  replace M5 := M5.below hb
  replace B5 := below_step B5 hb B5.size
  clear hb L9
  go_wp2_with (fail)
  refine (goes_falls1 _ _ c1 M5).mono ?_
  rintro e w14 ⟨rfl, hb⟩
  replace M5 := M5.below hb
  replace B5 := below_step B5 hb B5.size
  clear hb
  go_wp2_with (fail)
  refine (goes_find _ _ c1 M5 9).mono ?_
  rintro e w15 ⟨rfl, hb⟩
  replace M5 := M5.below hb
  replace B5 := below_step B5 hb B5.size
  clear hb
  rw [Lf.f1_idx9]
  go_wp2_with (fail)
  refine (goes_find _ _ c1 M5 10).mono ?_
  rintro e w16 ⟨rfl, hb⟩
  replace B5 := below_step B5 hb B5.size
  clear hb
  rw [Lf.f1_idx10]
  go_wp2
  go_ret
  exact ⟨rfl, B5⟩
end Go.Proofs.Ytcldknmhmbpboaa
