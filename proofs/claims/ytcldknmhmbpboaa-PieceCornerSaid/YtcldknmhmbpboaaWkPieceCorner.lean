/- The law PieceCorner, walked. -/
import Derived.Test.YtcldknmhmbpboaaPcT
import Derived.Test.YtcldknmhmbpboaaPcU
namespace Go.Proofs.Ytcldknmhmbpboaa
open Go.RowKit Go.Sort
set_option linter.unusedVariables false
set_option linter.unusedSimpArgs false

theorem cor_corner (a r : Int) (w : World) (ha : -10000000000 ≤ a ∧ a ≤ 10000000000) (hr : 0 ≤ r ∧ r ≤ 10000) : Calls Try.prog 20 #[.int .i64 a, .int .i64 r] w fun e w' => ∃ A c, e = .returned (.slice A (cor a r).n c) ∧ Lm w' A (cor a r) ∧ Below w.heap.size w w' := corner_any a r w ha hr
set_option maxHeartbeats 4000000 in
set_option maxRecDepth 100000 in
theorem wPieceCorner (a r x : Int) (w : World) (ha1 : -9223372036854775808 ≤ a) (ha2 : a ≤ 9223372036854775807) (hr1 : -9223372036854775808 ≤ r) (hr2 : r ≤ 9223372036854775807) (hx1 : -9223372036854775808 ≤ x) (hx2 : x ≤ 9223372036854775807) :
    Calls Try.prog 7 #[.int .i64 a, .int .i64 r, .int .i64 x] w fun e w' => e = .returned (.bool true) ∧ Below w.heap.size w w' := by
  by_cases h : (10000000000 < a ∨ a < -10000000000) ∨ (r < 0 ∨ 10000 < r) ∨ (x < 0 ∨ 10000000000 < x)
  · clear ha1 ha2 hr1 hr2 hx1 hx2
    go_enter Try.func7, Try.ntmps7
    go_wp2_with (fail)
    refine (goes_any _).mono ?_
    rintro e w1 ⟨rfl, hb⟩
    rcases (show decide (10000000000 < a) = true ∨ (decide (10000000000 < a) = false ∧ decide (a < -10000000000) = true) ∨ (decide (10000000000 < a) = false ∧ decide (a < -10000000000) = false ∧ decide (r < 0) = true) ∨ (decide (10000000000 < a) = false ∧ decide (a < -10000000000) = false ∧ decide (r < 0) = false ∧ decide (10000 < r) = true) ∨ (decide (10000000000 < a) = false ∧ decide (a < -10000000000) = false ∧ decide (r < 0) = false ∧ decide (10000 < r) = false ∧ decide (x < 0) = true) ∨ (decide (10000000000 < a) = false ∧ decide (a < -10000000000) = false ∧ decide (r < 0) = false ∧ decide (10000 < r) = false ∧ decide (x < 0) = false ∧ decide (10000000000 < x) = true) from by simp only [decide_eq_true_eq, decide_eq_false_iff_not]; omega) with d1 | ⟨d1, d2⟩ | ⟨d1, d2, d3⟩ | ⟨d1, d2, d3, d4⟩ | ⟨d1, d2, d3, d4, d5⟩ | ⟨d1, d2, d3, d4, d5, d6⟩
    all_goals
      clear h
      go_wp2
      go_ret
      exact ⟨rfl, hb⟩
  · have d1 : decide (10000000000 < a) = false := by simp; omega
    have d2 : decide (a < -10000000000) = false := by simp; omega
    have d3 : decide (r < 0) = false := by simp; omega
    have d4 : decide (10000 < r) = false := by simp; omega
    have d5 : decide (x < 0) = false := by simp; omega
    have d6 : decide (10000000000 < x) = false := by simp; omega
    have ha : -10000000000 ≤ a ∧ a ≤ 10000000000 := by omega
    have hr : 0 ≤ r ∧ r ≤ 10000 := by omega
    have hx : 0 ≤ x ∧ x ≤ 10000000000 := by omega
    have cC := fun W => cor_corner a r W ha hr
    have hz := Lf.cor_chk ha hr
    have hv := Lf.cor_val (r := r) ha hx.1
    have hn := Lf.cor_n a r
    have hm1 : 0 ≤ max 0 (x - a) ∧ max 0 (x - a) ≤ 20000000000 := by omega
    have hp0 := Int.mul_nonneg hm1.1 hr.1
    have hp1 := Int.mul_le_mul hm1.2 hr.2 hr.1 (by omega)
    have u1 : IntKind.i64.wrap (x - a) = x - a := IntWalk.i64_in _ (by omega)
    have u2 : IntKind.i64.wrap (max 0 (x - a) * r) = max 0 (x - a) * r := IntWalk.i64_in _ (by omega)
    have cA := fun A c W hh => at_any A c (cor a r) x W hh (by omega)
    have eV : atV (cor a r) x = max 0 (x - a) * r := by
      unfold atV
      rw [if_pos hz, if_pos (show xB x = true by unfold xB; simp; omega), hv]
    have eE : atE (cor a r) x = 0 := by
      unfold atE
      rw [if_pos hz, if_pos (show xB x = true by unfold xB; simp; omega)]
    simp only [eV, eE] at cA
    have cL : ∀ (W : World) (A B : Option Addr) (c d : Nat), Lm W A (cor a r) → Lm W B Lf.s5 → Calls Try.prog 16 #[.slice A (cor a r).n c, .slice B 1 d] W fun e w' => ∃ s A c, e = .returned (.tuple #[.slice A (Lf.n s) c, .int .i64 0]) ∧ (s.n ≤ 3 ∧ s.chk = 0 ∧ s.val x = min (max 0 (x - a) * r) 5000) ∧ Lm w' A s ∧ Below W.heap.size W w' := fun W A B c d h1 h2 =>
      (least_ok A B c d (cor a r) Lf.s5 W h1 h2 hz Lf.s5_chk).mono fun e w' ⟨s, H, hsn, hR, hG, hc, hb⟩ => by
        have hn4 : s.n ≤ 4 := by
          have h3 : s.n + 2 ≤ 2 * ((cor a r).n + 1) := hsn
          omega
        have hsz := Lf.pk_chk (Lf.chk_zero hz) (Lf.chk_zero Lf.s5_chk) H hR
        rw [if_neg (by omega)] at hsz
        have h33 := Lf.cut_three ha hr H hG hn4
        have hsv : s.val x = min (max 0 (x - a) * r) 5000 := by
          rw [H.val_is hx.1 hx.2]
          unfold Lf.pkH Lf.pick
          rw [if_pos rfl, hv, Lf.s5_val hx.1]
        rcases hc with ⟨_, A', c', he, hl⟩ | ⟨hne, _⟩
        · exact ⟨s, A', c', he, ⟨h33, hsz, hsv⟩, hl, hb⟩
        · exact absurd hsz hne
    have cS : ∀ (s : Lf) (A : Option Addr) (c : Nat) (W : World), (s.n ≤ 3 ∧ s.chk = 0 ∧ s.val x = min (max 0 (x - a) * r) 5000) → Lm W A s → Calls Try.prog 11 #[.slice A s.n c, .int .i64 x] W fun e w' => e = .returned (.tuple #[.int .i64 (min (max 0 (x - a) * r) 5000), .int .i64 0]) ∧ Below W.heap.size W w' := fun s A c W hs hh =>
      (at_any A c s x W hh (by omega)).mono fun e w' ⟨he, hb⟩ => ⟨by
        rw [he]
        unfold atV atE
        rw [if_pos hs.2.1, if_pos hs.2.1, if_pos (show xB x = true by unfold xB; simp; omega), if_pos (show xB x = true by unfold xB; simp; omega), hs.2.2], hb⟩
    clear h ha hr hx hz hv eV eE hp1 hm1 ha1 ha2 hr1 hr2 hx1 hx2
    obtain ⟨y, hy⟩ : ∃ y, max 0 (x - a) * r = y := ⟨_, rfl⟩
    rw [hy] at hp0
    simp only [hy] at cA cL cS
    replace u2 := u2.trans hy
    have HP := Lib.hid hp0
    have yy : (y != y) = false := by simp
    clear hp0 hy
    go_enter Try.func7, Try.ntmps7
    go_wp2_with (fail)
    refine (goes_any _).mono ?_
    rintro e w1 ⟨rfl, hb⟩
    go_wp2_with (fail)
    refine (cC _).mono ?_
    rintro e w2 ⟨A2, c2, rfl, L2, hb2⟩
    have B2 := below_step hb hb2 hb.size
    go_wp2_with (fail)
    refine (cA _ _ _ L2).mono ?_
    rintro e w3 ⟨rfl, hb3⟩
    have B3 := below_step B2 hb3 B2.size
    go_wp2_with (fail)
    refine (straight_any 5000 0 _).mono ?_
    rintro e w4 ⟨rfl, O4, hb4⟩
    have B4 := below_step B3 hb4 B3.size
    go_wp2_with (fail)
    refine (cL _ _ _ _ _ ((L2.below hb3).below hb4) O4.lm).mono ?_
    rintro e w5 ⟨s, A5, c5, rfl, hs, L5, hb5⟩
    have B5 := below_step B4 hb5 B4.size
    go_wp2_with (fail)
    refine (cS s _ _ _ hs L5).mono ?_
    rintro e w6 ⟨rfl, hb6⟩
    have B6 := below_step B5 hb6 B5.size
    have e3 : decide ((s.n : Int) ≤ 3) = true := by simp; have := hs.1; omega
    have m3 : (min y 5000 == min y 5000) = true := by simp
    clear hs hb hb2 hb3 hb4 hb5 hb6 B2 B3 B4 B5 L5 L2 O4 cC cA cL cS hn
    go_wp2
    go_ret
    exact ⟨rfl, B6⟩
end Go.Proofs.Ytcldknmhmbpboaa
