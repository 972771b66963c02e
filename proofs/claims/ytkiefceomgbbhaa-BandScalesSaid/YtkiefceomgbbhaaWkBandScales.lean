/- The walk of the law BandScales. -/
import Derived.Test.YtkiefceomgbbhaaBandH
import Derived.Test.YtkiefceomgbbhaaRefBand
import Derived.Test.YtkiefceomgbbhaaPostB
namespace Go.Proofs.Ytkiefceomgbbhaa
open Go.RowKit Go.Sort
set_option linter.unusedVariables false

/-- how many have been counted ahead of the band of number i -/
def ctr (p : Nat → Int) (n l i : Nat) : Nat := if i < n then kep p i else l
set_option maxHeartbeats 8000000 in
set_option maxRecDepth 100000 in
theorem wBandScales (A : Option Addr) (n c : Nat) (F R E : Nat → Int) (a d : Int) (w : World) (h : Bds w A n F R E) (hn : n ≤ 9223372036854775807) (hf : ∀ i, i < n → fits (F i) ∧ fits (R i) ∧ fits (E i)) (hx : -9223372036854775808 ≤ a) (hx' : a ≤ 9223372036854775807) (hy : -9223372036854775808 ≤ d) (hy' : d ≤ 9223372036854775807) :
    Calls Try.prog 6 #[.slice A n c, .int .i64 a, .int .i64 d] w fun e w' => e = .returned (.bool true) ∧ Below w.heap.size w w' := by
  have sm := sums_any w
  clear hf
  have c1 := fun (W : World) (hB : Bds W A n F R E) => refcheck_any A n c W F R E hB hn
  by_cases h0 : chk F R E n = 0
  · have ok := okb_of h0
    rw [h0] at c1
    clear h0
    by_cases hg : a < 0 ∨ d < 1 ∨ d < a ∨ 1048576 < d
    · have c2 := fun (W : World) (hB : Bds W A n F R E) => bscale_rng a d A n c W F R E hB ok hg
      have key : decide (a < 0) = true ∨ (decide (a < 0) = false ∧ decide (d < 1) = true) ∨ (decide (a < 0) = false ∧ decide (d < 1) = false ∧ decide (d < a) = true) ∨
          (decide (a < 0) = false ∧ decide (d < 1) = false ∧ decide (d < a) = false ∧ decide (1048576 < d) = true) := by
        simp only [decide_eq_true_eq, decide_eq_false_iff_not]
        omega
      clear ok hg
      rcases key with k1 | ⟨k1, k2⟩ | ⟨k1, k2, k3⟩ | ⟨k1, k2, k3, k4⟩
      all_goals
        go_enter Try.func6, Try.ntmps6
        go_wp2_with (fail)
        with_reducible refine (sm).mono ?_
        rintro e w1 ⟨rfl, d1⟩
        have hb1 := d1
        have h_1 := h.below d1
        go_wp2_with (fail)
        with_reducible refine (c1 _ h_1).mono ?_
        rintro e w2 ⟨rfl, d2⟩
        have hb2 := hb1.trans (d2.mono hb1.size)
        have h_2 := h_1.below d2
        go_wp2_with (fail)
        with_reducible refine (c2 _ h_2).mono ?_
        rintro e w3 ⟨rfl, d3⟩
        have hb3 := hb2.trans (d3.mono hb2.size)
        have h_3 := h_2.below d3
        go_wp2
        go_ret
        exact ⟨rfl, hb3⟩
    · have g1 : 0 ≤ a := by omega
      have g2 : 1 ≤ d := by omega
      have g3 : a ≤ d := by omega
      have g4 : d ≤ 1048576 := by omega
      have k1 : decide (a < 0) = false := by simp; omega
      have k2 : decide (d < 1) = false := by simp; omega
      have k3 : decide (d < a) = false := by simp; omega
      have k4 : decide (1048576 < d) = false := by simp; omega
      obtain ⟨p, hp⟩ : ∃ p : Nat → Int, p = fun i => F i * a / d := ⟨_, rfl⟩
      have c2 := fun (W : World) (hB : Bds W A n F R E) => bscale_ok a d A n c W F R E p hB ok g1 g2 g3 g4 hp
      obtain ⟨pm0, pm1, pm2⟩ := part_mono ok g1 g2 g3
      have hso := scl_okb (p := p) ok (by rw [hp]; exact pm0) (by rw [hp]; exact pm1) (by rw [hp]; exact pm2)
      have hpt : ∀ i, i < n → ∀ W, Calls Try.prog 25 #[.int .i64 (F i), .int .i64 a, .int .i64 d] W fun e w' => e = .returned (.int .i64 (p i)) ∧ W = w' := fun i hi W => by
        have hq := ok.2.2.2.1 i hi
        rw [hp]
        exact refpart_any (F i) a d W hq.1 hq.2 g1 (by omega) g2 g4
      have hat := fun i (hi : i < n) (hh : i + 1 = n ∨ p (i + 1) ≠ p i) => scl_at p R E hi hh
      have hlen := scl_len p R E (n - 1)
      rw [show n - 1 + 1 = n by have := ok.1; omega] at hlen
      have o1 := ok.1
      have o2 := ok.2.1
      have hkm := fun i (hi : i < n) => kep_mono p (show i ≤ n - 1 by omega)
      obtain ⟨so1, so2⟩ := hso
      have c3 := fun (W : World) g cap (hB : Bds W (some ⟨g, 0, none⟩) (scl p R E n).length (gF (scl p R E n)) (gR (scl p R E n)) (gE (scl p R E n))) => check_any (some ⟨g, 0, none⟩) (scl p R E n).length cap W _ _ _ hB (by have := so2.2.1; omega)
      rw [chk_of so2] at c3
      have sl1 := so2.1
      have sl8 := so2.2.1
      have HPT := Lib.hid hpt
      have HAT := Lib.hid hat
      have HKM := Lib.hid hkm
      have HLEN := Lib.hid hlen
      clear so2 ok hp pm0 pm1 pm2 hg hpt hat hkm hlen
      go_enter Try.func6, Try.ntmps6
      go_wp2_with (fail)
      with_reducible refine (sm).mono ?_
      rintro e w1 ⟨rfl, d1⟩
      have hb1 := d1
      have h_1 := h.below d1
      go_wp2_with (fail)
      with_reducible refine (c1 _ h_1).mono ?_
      rintro e w2 ⟨rfl, d2⟩
      have hb2 := hb1.trans (d2.mono hb1.size)
      have h_2 := h_1.below d2
      go_wp2_with (fail)
      with_reducible refine (c2 _ h_2).mono ?_
      rintro e w3 ⟨v3, rfl, r3, d3⟩
      have hb3 := hb2.trans (d3.mono hb2.size)
      have h_3 := h_2.below d3
      obtain ⟨g, cap, rfl, _, _, _, B3⟩ := rw_bds_of r3 sl1
      have t1 : decide ((n : Int) < ((scl p R E n).length : Int)) = false := by simp; omega
      have t2 : decide (n < (scl p R E n).length) = false := by simp; omega
      go_wp2_with (fail)
      with_reducible refine (c3 _ g cap B3).mono ?_
      rintro e w4 ⟨rfl, d4⟩
      have hb4 := hb3.trans (d4.mono hb3.size)
      have h_4 := h_3.below d4
      have R4 := own_below r3 d4
      have HR4 := Lib.hid R4
      clear r3 B3 R4 c1 c2 c3 sm d3 d4 h h_1 h_2 h_3 hb1 hb2 hb3
      generalize hL : (scl p R E n).length = l at *
      have HL := Lib.hid hL
      clear hL
      go_wp2
      go_loopw [9, 63] (fun s v W => ∃ i : Nat, i ≤ n ∧ v = .int .i64 i ∧ s = .int .i64 (ctr p n l i) ∧ Below w4.heap.size w4 W) (fun _ v _ => n - (intOf v).toNat)
      case atStart => exact ⟨0, Nat.zero_le _, rfl, by rw [show ctr p n l 0 = 0 from if_pos (by omega)]; rfl, Below.refl _ _⟩
      case round =>
        obtain ⟨i, hi, rfl, rfl, hb⟩ := hrel
        by_cases hlt : i < n
        · have hci : ctr p n l i = kep p i := if_pos hlt
          rw [hci]
          have hki := HKM.out i hlt
          obtain ⟨bb, oo, rfl, hc⟩ := h_4 (by omega)
          obtain ⟨x0, x1, x2⟩ := hc i hlt
          have c0 := cell_later hb x0
          have c1 := cell_later hb x1
          have c2 := cell_later hb x2
          have pt := HPT.out i hlt
          have hsz := hb.size
          have hbx := hb.alloc hsz (Obj.cells #[.int .i64 (F i), .int .i64 (R i), .int .i64 (E i)] 37)
          have bxl : bb < wr.heap.size := World.block_lt_of_cell? _ _ c0
          have bx1 : bb ≠ wr.heap.size := by omega
          by_cases hpe : i + 1 < n ∧ p (i + 1) = p i
          · obtain ⟨h1n, hpe⟩ := hpe
            have y0 := cell_later hb (hc (i + 1) h1n).1
            have pt2 := HPT.out (i + 1) h1n
            rw [hpe] at pt2
            have hcn : ctr p n l (i + 1) = kep p i := by
              unfold ctr
              rw [if_pos h1n]
              simp [kep, hpe]
            have HCN := Lib.hid hcn
            have u1 : decide (((i : Int) + 1) < (n : Int)) = true := by simp; omega
            have u2 : (i : Int) + 1 < (n : Int) := by omega
            have u3 : decide (i + 1 < n) = true := by simp; omega
            have u4 : (p i == p i) = true := by simp
            clear hc x0 x1 x2 hcn hpe hci hki
            generalize p i = P at *
            generalize kep p i = K at *
            go_wp2_with (fail)
            with_reducible refine (pt _).mono ?_
            rintro e w' ⟨rfl, rfl⟩
            go_wp2_with (fail)
            with_reducible refine (pt2 _).mono ?_
            rintro e w' ⟨rfl, rfl⟩
            go_wp2
            go_roundw
            case rel => exact ⟨i + 1, by omega, by go_num, by rw [HCN.out], hbx⟩
            case measure => first | omega | (simp [intOf]; omega)
          · have hst : i + 1 = n ∨ p (i + 1) ≠ p i := by
              by_cases e : i + 1 = n
              · exact .inl e
              · exact .inr fun e2 => hpe ⟨by omega, e2⟩
            have hel := HAT.out i hlt hst
            have hcn : ctr p n l (i + 1) = kep p i + 1 := by
              unfold ctr
              by_cases e : i + 1 < n
              · rw [if_pos e]
                have : p (i + 1) ≠ p i := fun e2 => hpe ⟨e, e2⟩
                simp [kep, this]
              · rw [if_neg e]
                have e3 : i = n - 1 := by omega
                have := HLEN.out
                rw [← e3] at this
                omega
            have HCN := Lib.hid hcn
            have hKl : kep p i < l := by have := HLEN.out; omega
            have hcg := HR4.out
            have hz := cl_get _ _ _ hel
            have z0 := cell_later hb ((hcg.cellAt _ (by omega)).trans hz.1)
            have z1 := cell_later hb ((hcg.cellAt _ (by omega)).trans hz.2.1)
            have z2 := cell_later hb ((hcg.cellAt _ (by omega)).trans hz.2.2)
            simp only at z0 z1 z2
            have gxl : g < wr.heap.size := World.block_lt_of_cell? _ _ z0
            have gx1 : g ≠ wr.heap.size := by omega
            have v1 : decide ((l : Int) ≤ (kep p i : Int)) = false := by simp; omega
            have v2 : decide (l ≤ kep p i) = false := by simp; omega
            have v3 : ((kep p i : Nat) : Int) < (l : Int) := by omega
            have v4 : kep p i + 1 ≤ 100 := by omega
            rcases hst with hst | hst
            · have u1 : decide (((i : Int) + 1) < (n : Int)) = false := by simp; omega
              have u2 : ¬ (i : Int) + 1 < (n : Int) := by omega
              have u3 : decide (i + 1 < n) = false := by simp; omega
              clear hc x0 x1 x2 hcn hpe hci hki hel hcg hz hst
              generalize p i = P at *
              generalize kep p i = K at *
              have hne : ∀ W, (binOp .neq 37 (.agg #[.int .i64 P, .int .i64 (R i), .int .i64 (E i)]) (.agg #[.int .i64 P, .int .i64 (R i), .int .i64 (E i)])).run Try.prog W = .ok (.bool false) W := fun W => by
                simp [go_sem]
              go_wp2_with (fail)
              with_reducible refine (pt _).mono ?_
              rintro e w' ⟨rfl, rfl⟩
              go_wp2_with (fail)
              go_quiet (fail)
              go_wp2
              go_roundw
              case rel => exact ⟨i + 1, by omega, by go_num, by rw [HCN.out]; go_num, below_drewN hbx _⟩
              case measure => first | omega | (simp [intOf]; omega)
            · by_cases h1n : i + 1 < n
              · have y0 := cell_later hb (hc (i + 1) h1n).1
                have pt2 := HPT.out (i + 1) h1n
                have u1 : decide (((i : Int) + 1) < (n : Int)) = true := by simp; omega
                have u2 : (i : Int) + 1 < (n : Int) := by omega
                have u3 : decide (i + 1 < n) = true := by simp; omega
                have u4 : (p (i + 1) == p i) = false := by simpa using hst
                clear hc x0 x1 x2 hcn hpe hci hki hel hcg hz hst
                generalize p (i + 1) = P2 at *
                generalize p i = P at *
                generalize kep p i = K at *
                have hne : ∀ W, (binOp .neq 37 (.agg #[.int .i64 P, .int .i64 (R i), .int .i64 (E i)]) (.agg #[.int .i64 P, .int .i64 (R i), .int .i64 (E i)])).run Try.prog W = .ok (.bool false) W := fun W => by
                  simp [go_sem]
                go_wp2_with (fail)
                with_reducible refine (pt _).mono ?_
                rintro e w' ⟨rfl, rfl⟩
                go_wp2_with (fail)
                with_reducible refine (pt2 _).mono ?_
                rintro e w' ⟨rfl, rfl⟩
                go_wp2_with (fail)
                go_quiet (fail)
                go_wp2
                go_roundw
                case rel => exact ⟨i + 1, by omega, by go_num, by rw [HCN.out]; go_num, below_drewN hbx _⟩
                case measure => first | omega | (simp [intOf]; omega)
              · have u1 : decide (((i : Int) + 1) < (n : Int)) = false := by simp; omega
                have u2 : ¬ (i : Int) + 1 < (n : Int) := by omega
                have u3 : decide (i + 1 < n) = false := by simp; omega
                clear hc x0 x1 x2 hcn hpe hci hki hel hcg hz hst
                generalize p i = P at *
                generalize kep p i = K at *
                have hne : ∀ W, (binOp .neq 37 (.agg #[.int .i64 P, .int .i64 (R i), .int .i64 (E i)]) (.agg #[.int .i64 P, .int .i64 (R i), .int .i64 (E i)])).run Try.prog W = .ok (.bool false) W := fun W => by
                  simp [go_sem]
                go_wp2_with (fail)
                with_reducible refine (pt _).mono ?_
                rintro e w' ⟨rfl, rfl⟩
                go_wp2_with (fail)
                go_quiet (fail)
                go_wp2
                go_roundw
                case rel => exact ⟨i + 1, by omega, by go_num, by rw [HCN.out]; go_num, below_drewN hbx _⟩
                case measure => first | omega | (simp [intOf]; omega)
        · obtain rfl : i = n := by omega
          have hci : ctr p i l i = l := if_neg hlt
          rw [hci]
          have hb5 := hb4.trans (hb.mono hb4.size)
          clear h_4 hci
          go_wp2
          go_ret
          exact ⟨ret_b (by simp), hb5⟩
  · have k0 : (chk F R E n != 0) = true := by simpa using h0
    clear h0
    generalize chk F R E n = k at *
    go_enter Try.func6, Try.ntmps6
    go_wp2_with (fail)
    with_reducible refine (sm).mono ?_
    rintro e w1 ⟨rfl, d1⟩
    have hb1 := d1
    have h_1 := h.below d1
    go_wp2_with (fail)
    with_reducible refine (c1 _ h_1).mono ?_
    rintro e w2 ⟨rfl, d2⟩
    have hb2 := hb1.trans (d2.mono hb1.size)
    have h_2 := h_1.below d2
    go_wp2
    go_ret
    exact ⟨rfl, hb2⟩
end Go.Proofs.Ytkiefceomgbbhaa
