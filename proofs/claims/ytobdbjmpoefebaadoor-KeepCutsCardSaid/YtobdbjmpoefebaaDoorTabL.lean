/- What keep.Kept answers of a choice, and Pieces. -/
import Derived.Test.YtobdbjmpoefebaaDoorTabK
namespace Go.Proofs.YtobdbjmpoefebaaDoor
open Go.RowKit Go.Sort
set_option linter.unusedVariables false
set_option linter.unusedSimpArgs false

theorem sumR_bd {T : TB} (h : T.chk = 0) (f : Nat → Int) : ∀ n, n ≤ T.nC → allN T.C f n = true → 0 ≤ sumR T.C f n ∧ sumR T.C f n ≤ 10000 * n := by
  intro n
  induction n with
  | zero => intro _ _; exact ⟨Int.le_refl _, Int.le_refl _⟩
  | succ n ih =>
    intro hn ha
    have ha' : (allN T.C f n && numbB (f n) (T.C n).b.n) = true := ha
    rw [Bool.and_eq_true] at ha'
    have a := ih (by omega) ha'.1
    have b := numbB_yes ha'.2
    have c := ((tok_of h).c n (by omega)).2.2.2.2.1 (f n).toNat (by omega)
    show 0 ≤ sumR T.C f n + _ ∧ sumR T.C f n + _ ≤ _
    omega
set_option maxHeartbeats 4000000 in
set_option maxRecDepth 100000 in
theorem kept_any (w : World) (T : TB) (h : Tm w T) (hz : Tsz T) (s b k : Int) (A : Option Addr) (m c : Nat) (f : Nat → Int) (hr : Ri w A m f) (hm : m ≤ 4611686018427387904) :
    Calls Tryd.prog 36 #[T.v, .agg #[.int .i64 s, .int .i64 b, .slice A m c, .int .i64 k]] w fun e w' => e = .returned (.tuple #[.int .i64 (keptV T s b f m).1, .int .i64 (keptV T s b f m).2]) ∧ Below w.heap.size w w' := by
  have ck := fun w' (q : Tm w' T) => check_tab w' T q hz
  have tr := fun w' (q : Tm w' T) => taxrate_any w' T q s b k A m c
  unfold keptV
  by_cases hc : T.chk = 0
  · have OK := tok_of hc
    have RB := rateV_bd hc s b
    have SB := sumR_bd hc f
    have c6 := OK.c6
    have OC := Lib.hid OK.c
    rw [hc] at ck
    rw [if_pos hc]
    clear OK hc hz
    generalize hrv : (rateV T s b).1 = rv at *
    generalize hre : (rateV T s b).2 = re at *
    clear hrv hre
    by_cases he : re = 0
    · rw [if_pos he]
      subst he
      by_cases hmn : m = T.nC
      · rw [if_pos hmn]
        have HSB := Lib.hid SB
        generalize hres : (if allN T.C f m = true then (10000 - rv - sumR T.C f m, (0 : Int)) else (0, 3)) = res at *
        have HRES := Lib.hid hres
        have hm1 : m ≤ T.nC := by omega
        have hm2 : T.nC ≤ m := by omega
        clear SB hres hmn
        obtain ⟨AS, nS, cS, AC, nC, cC, AK, nK, cK, L, W, S, C, K⟩ := T
        dsimp only [TB.v] at *
        have B0 := below_new w (.cells #[.slice AS nS cS, .slice AC nC cC, .slice AK nK cK, .int .i64 L, .int .i64 W] 26)
        have M0 := h.below B0
        obtain ⟨z0, z1, z2, z3, z4⟩ := cells5 w (.slice AS nS cS) (.slice AC nC cC) (.slice AK nK cK) (.int .i64 L) (.int .i64 W) 26
        have hq : w.heap.size < (w.alloc (.cells #[.slice AS nS cS, .slice AC nC cC, .slice AK nK cK, .int .i64 L, .int .i64 W] 26)).heap.size := by simp
        generalize hw1 : w.alloc (.cells #[.slice AS nS cS, .slice AC nC cC, .slice AK nK cK, .int .i64 L, .int .i64 W] 26) = w1 at *
        have D1 := C4.new w1 (.int .i64 s) (.int .i64 b) (.slice A m c) (.int .i64 k)
        have hN := below_new w1 (.cells #[.int .i64 s, .int .i64 b, .slice A m c, .int .i64 k] 39)
        have B1 := below_step B0 hN B0.size
        have M1 := M0.below hN
        replace z0 := cell_later hN z0
        replace z1 := cell_later hN z1
        replace z2 := cell_later hN z2
        replace z3 := cell_later hN z3
        replace z4 := cell_later hN z4
        generalize hw2 : w1.alloc (.cells #[.int .i64 s, .int .i64 b, .slice A m c, .int .i64 k] 39) = w2 at *
        have y0 := D1.c0
        have y1 := D1.c1
        have y2 := D1.c2
        have y3 := D1.c3
        generalize hqn : w1.heap.size = q at *
        clear h hN M0
        go_enter Tryd.func36, Tryd.ntmps36
        go_wp2_with (fail)
        refine (ck _ M1).mono ?_
        rintro e w3 ⟨rfl, hb3⟩
        have B2 := below_step B1 hb3 B1.size
        have M2 := M1.below hb3
        have D2 := D1.below hb3
        replace z0 := cell_later hb3 z0
        replace z1 := cell_later hb3 z1
        replace z2 := cell_later hb3 z2
        replace z3 := cell_later hb3 z3
        replace z4 := cell_later hb3 z4
        replace y0 := D2.c0
        replace y1 := D2.c1
        replace y2 := D2.c2
        replace y3 := D2.c3
        go_wp2_with (fail)
        with_reducible refine (tr _ M2).mono ?_
        rintro e w4 ⟨rfl, hb4⟩
        have B3 := below_step B2 hb4 B2.size
        have M3 := M2.below hb4
        have D3 := D2.below hb4
        replace z0 := cell_later hb4 z0
        replace z1 := cell_later hb4 z1
        replace z2 := cell_later hb4 z2
        replace z3 := cell_later hb4 z3
        replace z4 := cell_later hb4 z4
        replace y0 := D3.c0
        replace y1 := D3.c1
        replace y2 := D3.c2
        replace y3 := D3.c3
        have hr4 := hr.below B3
        have MC : ConM w4 AC nC C := M3.2.1
        clear hr B0 B1 B2 M1 M2 D1 D2 ck tr
        have t1 : ((m : Int) != (nC : Int)) = false := by simp; omega
        go_wp2
        go_loop [39, 9] (fun kk l => ∃ i : Nat, i ≤ m ∧ kk = .int .i64 i ∧ l = .int .i64 (10000 - rv - sumR C f i) ∧ Hid (allN C f i = true)) (fun kk _ => m - (intOf kk).toNat)
        case atStart => exact ⟨0, Nat.zero_le _, rfl, by rw [show 10000 - rv - sumR C f 0 = 10000 - rv from Int.sub_zero _], Lib.hid rfl⟩
        case round =>
          obtain ⟨i, hi, rfl, rfl, HA⟩ := hrel
          by_cases hlt : i < m
          · obtain ⟨bf, of, hAf, hcf⟩ := id (hr4 (by omega))
            have g0 := hcf i hlt
            obtain ⟨bc, oc, hAc, hcc⟩ := id (MC (by omega))
            obtain ⟨_, _, g2, _, _, _, hBd⟩ := hcc i (by omega)
            obtain ⟨k1, k8, _, _, hRt, _⟩ := OC.out i (by omega)
            obtain ⟨b2, o2, hA2, hcb⟩ := id (hBd (by omega))
            have q1 := HSB.out i (by omega) HA.out
            subst hAf hAc
            rw [hA2] at g2
            have hall : allN C f (i + 1) = (allN C f i && numbB (f i) (C i).b.n) := rfl
            rw [HA.out] at hall
            have hsm : sumR C f (i + 1) = sumR C f i + (C i).b.R (f i).toNat := rfl
            have hno := allN_no (C := C) (f := f) hlt
            clear hcc hcf hBd hA2
            cases hv : numbB (f i) (C i).b.n
            · have nb := fun w => numbered_b (f i) (C i).b.n false hv w
              have HE : Hid (res = (0, 3)) := Lib.hid (by rw [← HRES.out, hno hv]; rfl)
              clear hno hall hsm hv hcb hRt
              generalize f i = fi at *
              generalize (C i).b.n = ni at *
              generalize (C i).b.c = ci at *
              go_wp2_with (fail)
              refine (nb _).mono ?_
              rintro e w' ⟨rfl, rfl⟩
              go_wp2
              go_ret2
              exact ⟨by rw [HE.out]; rfl, B3⟩
            · have nb := fun w => numbered_b (f i) (C i).b.n true hv w
              have hn := numbB_yes hv
              rw [hv] at hall
              have HA' : Hid (allN C f (i + 1) = true) := Lib.hid hall
              have hRs := hRt (f i).toNat (by omega)
              obtain ⟨_, g1, _⟩ := hcb (f i).toNat (by omega)
              have HSM := Lib.hid hsm
              generalize hfi : f i = fi at *
              obtain ⟨j, rfl⟩ : ∃ j : Nat, fi = j := ⟨fi.toNat, by omega⟩
              rw [Int.toNat_natCast] at *
              have HN : Hid (10000 - rv - sumR C f (i + 1) = 10000 - rv - sumR C f i - (C i).b.R j) := Lib.hid (by rw [HSM.out]; omega)
              clear hno hall hsm hv hcb hRt hfi HSM
              generalize sumR C f i = sm at *
              generalize (C i).b.R j = rj at *
              generalize (C i).b.n = ni at *
              generalize (C i).b.c = ci at *
              go_wp2_with (fail)
              refine (nb _).mono ?_
              rintro e w' ⟨rfl, rfl⟩
              go_wp2
              go_round
              case rel => exact ⟨i + 1, by omega, by go_num, by rw [HN.out], HA'⟩
              case measure => first | omega | (simp [intOf]; omega)
          · obtain rfl : i = m := by omega
            have HE : Hid (res = (10000 - rv - sumR C f i, 0)) := Lib.hid (by rw [← HRES.out, if_pos HA.out])
            have q1 := HSB.out i (by omega) HA.out
            generalize sumR C f i = sm at *
            go_wp2
            go_ret2
            exact ⟨by rw [HE.out]; rfl, B3⟩
      · rw [if_neg hmn]
        clear SB
        obtain ⟨AS, nS, cS, AC, nC, cC, AK, nK, cK, L, W, S, C, K⟩ := T
        dsimp only [TB.v] at *
        have B0 := below_new w (.cells #[.slice AS nS cS, .slice AC nC cC, .slice AK nK cK, .int .i64 L, .int .i64 W] 26)
        have M0 := h.below B0
        obtain ⟨z0, z1, z2, z3, z4⟩ := cells5 w (.slice AS nS cS) (.slice AC nC cC) (.slice AK nK cK) (.int .i64 L) (.int .i64 W) 26
        have hq : w.heap.size < (w.alloc (.cells #[.slice AS nS cS, .slice AC nC cC, .slice AK nK cK, .int .i64 L, .int .i64 W] 26)).heap.size := by simp
        generalize hw1 : w.alloc (.cells #[.slice AS nS cS, .slice AC nC cC, .slice AK nK cK, .int .i64 L, .int .i64 W] 26) = w1 at *
        have D1 := C4.new w1 (.int .i64 s) (.int .i64 b) (.slice A m c) (.int .i64 k)
        have hN := below_new w1 (.cells #[.int .i64 s, .int .i64 b, .slice A m c, .int .i64 k] 39)
        have B1 := below_step B0 hN B0.size
        have M1 := M0.below hN
        replace z0 := cell_later hN z0
        replace z1 := cell_later hN z1
        replace z2 := cell_later hN z2
        replace z3 := cell_later hN z3
        replace z4 := cell_later hN z4
        generalize hw2 : w1.alloc (.cells #[.int .i64 s, .int .i64 b, .slice A m c, .int .i64 k] 39) = w2 at *
        have y0 := D1.c0
        have y1 := D1.c1
        have y2 := D1.c2
        have y3 := D1.c3
        generalize hqn : w1.heap.size = q at *
        clear h hN M0
        go_enter Tryd.func36, Tryd.ntmps36
        go_wp2_with (fail)
        refine (ck _ M1).mono ?_
        rintro e w3 ⟨rfl, hb3⟩
        have B2 := below_step B1 hb3 B1.size
        have M2 := M1.below hb3
        have D2 := D1.below hb3
        replace z0 := cell_later hb3 z0
        replace z1 := cell_later hb3 z1
        replace z2 := cell_later hb3 z2
        replace z3 := cell_later hb3 z3
        replace z4 := cell_later hb3 z4
        replace y0 := D2.c0
        replace y1 := D2.c1
        replace y2 := D2.c2
        replace y3 := D2.c3
        go_wp2_with (fail)
        with_reducible refine (tr _ M2).mono ?_
        rintro e w4 ⟨rfl, hb4⟩
        have B3 := below_step B2 hb4 B2.size
        have M3 := M2.below hb4
        have D3 := D2.below hb4
        replace z0 := cell_later hb4 z0
        replace z1 := cell_later hb4 z1
        replace z2 := cell_later hb4 z2
        replace z3 := cell_later hb4 z3
        replace z4 := cell_later hb4 z4
        replace y0 := D3.c0
        replace y1 := D3.c1
        replace y2 := D3.c2
        replace y3 := D3.c3
        have t1 : ((m : Int) != (nC : Int)) = true := by simp; omega
        clear hr B0 B1 B2 M1 M2 D1 D2 ck tr
        go_wp2
        go_ret2
        exact ⟨rfl, B3⟩
    · rw [if_neg he]
      have t1 : (re != 0) = true := by simpa using he
      clear SB he
      obtain ⟨AS, nS, cS, AC, nC, cC, AK, nK, cK, L, W, S, C, K⟩ := T
      dsimp only [TB.v] at *
      have B0 := below_new w (.cells #[.slice AS nS cS, .slice AC nC cC, .slice AK nK cK, .int .i64 L, .int .i64 W] 26)
      have M0 := h.below B0
      obtain ⟨z0, z1, z2, z3, z4⟩ := cells5 w (.slice AS nS cS) (.slice AC nC cC) (.slice AK nK cK) (.int .i64 L) (.int .i64 W) 26
      have hq : w.heap.size < (w.alloc (.cells #[.slice AS nS cS, .slice AC nC cC, .slice AK nK cK, .int .i64 L, .int .i64 W] 26)).heap.size := by simp
      generalize hw1 : w.alloc (.cells #[.slice AS nS cS, .slice AC nC cC, .slice AK nK cK, .int .i64 L, .int .i64 W] 26) = w1 at *
      have D1 := C4.new w1 (.int .i64 s) (.int .i64 b) (.slice A m c) (.int .i64 k)
      have hN := below_new w1 (.cells #[.int .i64 s, .int .i64 b, .slice A m c, .int .i64 k] 39)
      have B1 := below_step B0 hN B0.size
      have M1 := M0.below hN
      replace z0 := cell_later hN z0
      replace z1 := cell_later hN z1
      replace z2 := cell_later hN z2
      replace z3 := cell_later hN z3
      replace z4 := cell_later hN z4
      generalize hw2 : w1.alloc (.cells #[.int .i64 s, .int .i64 b, .slice A m c, .int .i64 k] 39) = w2 at *
      have y0 := D1.c0
      have y1 := D1.c1
      have y2 := D1.c2
      have y3 := D1.c3
      generalize hqn : w1.heap.size = q at *
      clear h hN M0
      go_enter Tryd.func36, Tryd.ntmps36
      go_wp2_with (fail)
      refine (ck _ M1).mono ?_
      rintro e w3 ⟨rfl, hb3⟩
      have B2 := below_step B1 hb3 B1.size
      have M2 := M1.below hb3
      have D2 := D1.below hb3
      replace z0 := cell_later hb3 z0
      replace z1 := cell_later hb3 z1
      replace z2 := cell_later hb3 z2
      replace z3 := cell_later hb3 z3
      replace z4 := cell_later hb3 z4
      replace y0 := D2.c0
      replace y1 := D2.c1
      replace y2 := D2.c2
      replace y3 := D2.c3
      go_wp2_with (fail)
      with_reducible refine (tr _ M2).mono ?_
      rintro e w4 ⟨rfl, hb4⟩
      have B3 := below_step B2 hb4 B2.size
      have M3 := M2.below hb4
      have D3 := D2.below hb4
      replace z0 := cell_later hb4 z0
      replace z1 := cell_later hb4 z1
      replace z2 := cell_later hb4 z2
      replace z3 := cell_later hb4 z3
      replace z4 := cell_later hb4 z4
      replace y0 := D3.c0
      replace y1 := D3.c1
      replace y2 := D3.c2
      replace y3 := D3.c3
      clear hr B0 B1 B2 M1 M2 D1 D2 ck tr
      go_wp2
      go_ret2
      exact ⟨rfl, B3⟩
  · rw [if_neg hc]
    have t1 : (T.chk != 0) = true := by simpa using hc
    generalize T.chk = v at *
    clear hc
    obtain ⟨AS, nS, cS, AC, nC, cC, AK, nK, cK, L, W, S, C, K⟩ := T
    dsimp only [TB.v] at *
    have B0 := below_new w (.cells #[.slice AS nS cS, .slice AC nC cC, .slice AK nK cK, .int .i64 L, .int .i64 W] 26)
    have M0 := h.below B0
    obtain ⟨z0, z1, z2, z3, z4⟩ := cells5 w (.slice AS nS cS) (.slice AC nC cC) (.slice AK nK cK) (.int .i64 L) (.int .i64 W) 26
    have hq : w.heap.size < (w.alloc (.cells #[.slice AS nS cS, .slice AC nC cC, .slice AK nK cK, .int .i64 L, .int .i64 W] 26)).heap.size := by simp
    generalize hw1 : w.alloc (.cells #[.slice AS nS cS, .slice AC nC cC, .slice AK nK cK, .int .i64 L, .int .i64 W] 26) = w1 at *
    have D1 := C4.new w1 (.int .i64 s) (.int .i64 b) (.slice A m c) (.int .i64 k)
    have hN := below_new w1 (.cells #[.int .i64 s, .int .i64 b, .slice A m c, .int .i64 k] 39)
    have B1 := below_step B0 hN B0.size
    have M1 := M0.below hN
    replace z0 := cell_later hN z0
    replace z1 := cell_later hN z1
    replace z2 := cell_later hN z2
    replace z3 := cell_later hN z3
    replace z4 := cell_later hN z4
    generalize hw2 : w1.alloc (.cells #[.int .i64 s, .int .i64 b, .slice A m c, .int .i64 k] 39) = w2 at *
    have y0 := D1.c0
    have y1 := D1.c1
    have y2 := D1.c2
    have y3 := D1.c3
    generalize hqn : w1.heap.size = q at *
    clear h hN M0
    go_enter Tryd.func36, Tryd.ntmps36
    go_wp2_with (fail)
    refine (ck _ M1).mono ?_
    rintro e w3 ⟨rfl, hb3⟩
    have B2 := below_step B1 hb3 B1.size
    have M2 := M1.below hb3
    have D2 := D1.below hb3
    replace z0 := cell_later hb3 z0
    replace z1 := cell_later hb3 z1
    replace z2 := cell_later hb3 z2
    replace z3 := cell_later hb3 z3
    replace z4 := cell_later hb3 z4
    replace y0 := D2.c0
    replace y1 := D2.c1
    replace y2 := D2.c2
    replace y3 := D2.c3
    clear hr B0 B1 M1 D1 ck tr
    go_wp2
    go_ret2
    exact ⟨rfl, B2⟩
end Go.Proofs.YtobdbjmpoefebaaDoor
