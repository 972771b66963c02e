/- KeepBounds: the whole walk. -/
import Derived.Test.YtoppipjbdakmeaaTabQ
namespace Go.Proofs.Ytoppipjbdakmeaa
open Go.RowKit Go.Sort
set_option linter.unusedVariables false
set_option linter.unusedSimpArgs false

theorem comps_v (w : World) (T : TB) (h : Tm w T) (hn : T.nC ≤ 1000) :
    Calls Try.prog 17 #[T.v] w fun e w' => e = .returned (.int .i64 ((T.nC : Int) + 1)) ∧ Below w.heap.size w w' := by
  have := comps_any w T h hn
  rwa [Int.add_comm] at this
theorem window_v (w : World) (T : TB) (h : Tm w T) (hn : T.nC ≤ 1000) :
    Calls Try.prog 19 #[T.v] w fun e w' => e = .returned (.int .i64 (40 * ((T.nC : Int) + 1) + 2)) ∧ Below w.heap.size w w' := by
  have := window_any w T h hn
  rwa [show 2 * (1 + (T.nC : Int)) * 20 + 2 = 40 * ((T.nC : Int) + 1) + 2 by omega] at this
set_option maxHeartbeats 4000000 in
set_option maxRecDepth 100000 in
theorem wKeepBounds (T : TB) (w : World) (h : Tm w T) :
    Calls Try.prog 6 #[T.v] w fun e w' => e = .returned (.bool true) ∧ Below w.heap.size w w' := by
  have kK := keeps_any
  have kS := fun w' (q : Tm w' T) => small_tab w' T q
  have kC := fun w' (q : Tm w' T) (hz : Tsz T) => check_tab w' T q hz
  have kN := fun w' (q : Tm w' T) (hn : T.nC ≤ 1000) => comps_v w' T q hn
  have kW := fun w' (q : Tm w' T) (hn : T.nC ≤ 1000) => window_v w' T q hn
  have kP := fun w' (q : Tm w' T) (hs : SmP T) => pieces_any w' T q hs
  have hok : T.chk = 0 → TOk T := tok_of
  have hpc : pcs T = longS T.S T.nS + 4 + bandsC T.C T.nC + 3 * T.nC := rfl
  generalize T.chk = v at *
  generalize pcs T = pv at *
  obtain ⟨AS, nS, cS, AC, nC, cC, AK, nK, cK, L, W, S, C, K⟩ := T
  dsimp only [TB.v] at *
  have B0 := below_new w (.cells #[.slice AS nS cS, .slice AC nC cC, .slice AK nK cK, .int .i64 L, .int .i64 W] 26)
  have M0 := h.below B0
  obtain ⟨z0, z1, z2, z3, z4⟩ := cells5 w (.slice AS nS cS) (.slice AC nC cC) (.slice AK nK cK) (.int .i64 L) (.int .i64 W) 26
  generalize hw1 : w.alloc (.cells #[.slice AS nS cS, .slice AC nC cC, .slice AK nK cK, .int .i64 L, .int .i64 W] 26) = w1 at *
  have M1 := M0
  clear h M0
  go_enter Try.func6, Try.ntmps6
  go_wp2_with (fail)
  refine (kK _).mono ?_
  rintro e w2 ⟨rfl, hb⟩
  have B1 := below_step B0 hb B0.size
  have M2 := M1.below hb
  replace z0 := cell_later hb z0
  replace z1 := cell_later hb z1
  replace z2 := cell_later hb z2
  replace z3 := cell_later hb z3
  replace z4 := cell_later hb z4
  clear hb
  go_wp2_with (fail)
  refine (kS _ M2).mono ?_
  rintro e w3 ⟨bs, rfl, hsm, hb⟩
  have B2 := below_step B1 hb B1.size
  have M3 := M2.below hb
  replace z0 := cell_later hb z0
  replace z1 := cell_later hb z1
  replace z2 := cell_later hb z2
  replace z3 := cell_later hb z3
  replace z4 := cell_later hb z4
  clear hb
  cases bs
  · go_wp2
    go_ret
    exact ⟨rfl, B2⟩
  have SM := hsm rfl
  have c20 : nC ≤ 20 := SM.c
  have HCB := Lib.hid (show ∀ i, i < nC → (C i).b.n ≤ 20 from SM.cb)
  have HSB := Lib.hid (show ∀ i, i < nS → (S i).n ≤ 20 from SM.sb)
  clear hsm
  go_wp2_with (fail)
  refine (kC _ M3 SM.sz).mono ?_
  rintro e w4 ⟨rfl, hb⟩
  have B3 := below_step B2 hb B2.size
  have M4 := M3.below hb
  replace z0 := cell_later hb z0
  replace z1 := cell_later hb z1
  replace z2 := cell_later hb z2
  replace z3 := cell_later hb z3
  replace z4 := cell_later hb z4
  clear hb
  by_cases hv : v = 0
  · subst hv
    have OK := hok rfl
    have c6 : nC ≤ 6 := OK.c6
    have s8 : nS ≤ 8 := OK.s8
    have H8 := Lib.hid (show ∀ i, i < nC → (C i).b.n ≤ 8 from fun i hi => (OK.c i hi).2.1)
    have HS8 := Lib.hid (show ∀ i, i < nS → (S i).n ≤ 8 from fun i hi => (OK.s i hi).2.1)
    have hlb := longS_bd (S := S) (M := 8) nS HS8.out
    have hcb := Lib.hid (fun i (hi : i ≤ nC) => bandsC_bd (C := C) (M := 8) i fun j hj => H8.out j (by omega))
    have hge := Lib.hid (longS_ge S nS)
    have hcn := hcb.out nC (Nat.le_refl _)
    clear hok OK
    go_wp2_with (fail)
    refine (kN _ M4 (by show nC ≤ 1000; omega)).mono ?_
    rintro e w5 ⟨rfl, hb⟩
    have B4 := below_step B3 hb B3.size
    have M5 := M4.below hb
    replace z0 := cell_later hb z0
    replace z1 := cell_later hb z1
    replace z2 := cell_later hb z2
    replace z3 := cell_later hb z3
    replace z4 := cell_later hb z4
    clear hb
    have MS : SchM w5 AS nS S := M5.1
    have MC : ConM w5 AC nC C := M5.2.1
    go_wp2
    go_loopw [24, 4] (fun kk l X => ∃ m : Nat, m ≤ nC ∧ kk = .int .i64 m ∧ l = .int .i64 (bandsC C m) ∧ Below w5.heap.size w5 X) (fun kk _ _ => nC - (intOf kk).toNat)
    case atStart => exact ⟨0, Nat.zero_le _, rfl, rfl, Below.refl _ _⟩
    case round =>
      obtain ⟨m, hm, rfl, rfl, hB⟩ := hrel
      by_cases hlm : m < nC
      · obtain ⟨b, o, rfl, hcc⟩ := id (MC (by omega))
        obtain ⟨g0, g1, g2, g3, g4, g5, _⟩ := hcc m hlm
        have d0 := cell_later hB g0
        have d1 := cell_later hB g1
        have d2 := cell_later hB g2
        have d3 := cell_later hB g3
        have d4 := cell_later hB g4
        have d5 := cell_later hB g5
        clear hcc g0 g1 g2 g3 g4 g5
        have h20 := H8.out m hlm
        have h21 := hcb.out m hm
        have HN : Hid (bandsC C (m + 1) = bandsC C m + ((C m).b.n : Int)) := Lib.hid rfl
        have B9 := hB.alloc (o := .cells #[.string (C m).N, .int .i64 (C m).B, .slice (C m).b.A (C m).b.n (C m).b.c, .int .i64 (C m).P, .int .i64 (C m).Y, .int .i64 (C m).W] 43) hB.size
        generalize bandsC C m = bm at *
        generalize (C m).b.n = bn at *
        go_wp2
        go_roundw
        case rel => exact ⟨m + 1, by omega, by go_num, by rw [HN.out] <;> go_num, B9⟩
        case measure => first | omega | (simp [intOf]; omega)
      · obtain rfl : m = nC := by omega
        have y0 := cell_later hB z0
        generalize hbn : bandsC C m = bm at *
        clear hbn hcb
        go_wp2
        go_loopw [37] (fun kk X => ∃ i : Nat, i ≤ nS ∧ kk = .int .i64 i ∧ Below w5.heap.size w5 X) (fun kk _ => nS - (intOf kk).toNat)
        case atStart => exact ⟨0, Nat.zero_le _, rfl, hB⟩
        case round =>
          obtain ⟨i, hi, rfl, hB2⟩ := hrel
          have M9 := M5.below hB2
          have x0 := cell_later hB2 z0
          have x1 := cell_later hB2 z1
          have x2 := cell_later hB2 z2
          have x3 := cell_later hB2 z3
          have x4 := cell_later hB2 z4
          by_cases hlt : i < nS
          · obtain ⟨b, o, rfl, hcc⟩ := id (MS (by omega))
            obtain ⟨g0, _⟩ := hcc i hlt
            have d0 := cell_later hB2 g0
            have h8 := HS8.out i hlt
            have hg := hge.out i hlt
            clear hcc g0
            generalize (S i).n = sn at *
            generalize (S i).A = sA at *
            generalize (S i).c = sc at *
            have hnl : ¬ pv < bm + sn := by omega
            go_wp2_with (fail)
            refine (kP _ M9 SM).mono ?_
            rintro e wA ⟨rfl, hb⟩
            have hBA := below_step hB2 hb hB2.size
            clear M9 x0 x1 x2 x3 x4
            go_wp2
            go_roundw
            case rel => exact ⟨i + 1, by omega, by go_num, hBA⟩
            case measure => first | omega | (simp [intOf]; omega)
          · obtain rfl : i = nS := by omega
            have BX := below_step B4 hB2 B4.size
            have u1 : ((m : Int) + 1) ≤ 7 := by omega
            go_wp2_with (fail)
            refine (kW _ M9 (by show m ≤ 1000; omega)).mono ?_
            rintro e wA ⟨rfl, hb⟩
            have BA := below_step BX hb BX.size
            have MA := M9.below hb
            replace x0 := cell_later hb x0
            replace x1 := cell_later hb x1
            replace x2 := cell_later hb x2
            replace x3 := cell_later hb x3
            replace x4 := cell_later hb x4
            clear hb
            go_wp2_with (fail)
            refine (kP _ MA SM).mono ?_
            rintro e wB ⟨rfl, hb⟩
            have BB := below_step BA hb BA.size
            have u2 : pv ≤ 128 := by omega
            go_wp2
            go_ret
            exact ⟨ret_b (decide_eq_true (by omega)), BB⟩
  · have t1 : (v != 0) = true := by simpa using hv
    go_wp2
    go_ret
    exact ⟨rfl, B3⟩
end Go.Proofs.Ytoppipjbdakmeaa
