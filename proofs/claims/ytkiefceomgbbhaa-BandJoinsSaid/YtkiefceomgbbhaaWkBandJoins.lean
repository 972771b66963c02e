/- The walk of the law BandJoins. -/
import Derived.Test.YtkiefceomgbbhaaBandH
import Derived.Test.YtkiefceomgbbhaaRefBand
import Derived.Test.YtkiefceomgbbhaaPostC
import Derived.Deep.Cut
import Derived.Deep.CutRange
namespace Go.Proofs.Ytkiefceomgbbhaa
open Go.RowKit Go.Sort
set_option linter.unusedVariables false

theorem crn_get (F : Nat → Int) {n i : Nat} (h : i < n - 1) : (iv (crn F n))[i]? = some (.int .i64 (F (i + 1))) := by
  simp [iv, crn, h]
set_option maxHeartbeats 8000000 in
set_option maxRecDepth 100000 in
theorem wBandJoins (A : Option Addr) (n c : Nat) (F R E : Nat → Int) (x : Int) (w : World) (h : Bds w A n F R E) (hn : n ≤ 9223372036854775807) (hf : ∀ i, i < n → fits (F i) ∧ fits (R i) ∧ fits (E i)) (hcc : n ≤ c ∧ c ≤ 9223372036854775807) (hx : -9223372036854775808 ≤ x) (hx' : x ≤ 9223372036854775807) :
    Calls Try.prog 7 #[.slice A n c, .int .i64 x] w fun e w' => e = .returned (.bool true) ∧ Below w.heap.size w w' := by
  have sm := sums_any w
  clear hf
  obtain ⟨hc1, hc2⟩ := hcc
  have c1 := fun (W : World) (hB : Bds W A n F R E) => refcheck_any A n c W F R E hB hn
  by_cases h0 : chk F R E n = 0
  · have ok := okb_of h0
    rw [h0] at c1
    clear h0
    cases hA : amtB x
    · have hA2 := amtB_no hA
      clear ok hA
      have key : (decide (100000000000 < x) = true) ∨ (decide (100000000000 < x) = false ∧ decide (x < -100000000000) = true) := by
        rcases hA2 with h | h
        · exact .inr ⟨by simp; omega, by simp; omega⟩
        · exact .inl (by simp; omega)
      clear hA2
      rcases key with k1 | ⟨k1, k2⟩
      all_goals
        go_enter Try.func7, Try.ntmps7
        go_wp2_with (fail)
        with_reducible refine (sm).mono ?_
        rintro e w1 ⟨rfl, d1⟩
        have hb1 := d1
        have h_1 := h.below d1
        go_wp2_with (fail)
        with_reducible refine (c1 _ h_1).mono ?_
        rintro e w2 ⟨rfl, d2⟩
        have hb2 := hb1.trans (d2.mono hb1.size)
        have h_2 := h_1.below d2
        go_wp2
        go_ret
        exact ⟨rfl, hb2⟩
    · obtain ⟨a1, a2⟩ := amtB_yes hA
      have I := cmj_inv ok (n - 1) (by have := ok.1; omega)
      rw [show n - 1 + 1 = n by have := ok.1; omega] at I
      have okj := cmj_okb ok
      have htw := cmj_twice ok
      have o1 := ok.1
      have o2 := ok.2.1
      have c2 := fun (W : World) (hB : Bds W A n F R E) => join_any A n c W F R E hB o1 (by omega)
      have hJn := cmj_len F R E n
      generalize hJ : cmj F R E n = J at *
      have hJ0 := I.len
      have c3 := fun (W : World) (A' : Option Addr) (c' : Nat) (hB : Bds W A n F R E) (hB' : Bds W A' J.length (gF J) (gR J) (gE J)) => same_true A A' n c J.length c' W F R E _ _ _ hB hB' o1 (by omega) hJ0 (by omega) (htw.trans hJ.symm)
      have c4 := fun (W : World) (A' : Option Addr) (c' : Nat) (hB : Bds W A' J.length (gF J) (gR J) (gE J)) => top_any A' J.length c' W _ _ _ hB (by omega)
      have c5 := fun (W : World) (hB : Bds W A n F R E) => top_any A n c W F R E hB (by omega)
      have c6 := fun (W : World) (hB : Bds W A n F R E) => corners_any A n c W F R E hB (by omega)
      have e1 := fun (W : World) (A' : Option Addr) (c' : Nat) (hB : Bds W A' J.length (gF J) (gR J) (gE J)) => refexact_any x A' J.length c' false W _ _ _ (gR J) hB rfl okj a2 a1
      have e2 := fun (W : World) (hB : Bds W A n F R E) => refexact_any x A n c false W F R E R hB rfl ok a2 a1
      have e3 := fun (W : World) (A' : Option Addr) (c' : Nat) (hB : Bds W A' J.length (gF J) (gR J) (gE J)) => refexact_any x A' J.length c' true W _ _ _ (gE J) hB rfl okj a2 a1
      have e4 := fun (W : World) (hB : Bds W A n F R E) => refexact_any x A n c true W F R E E hB rfl ok a2 a1
      have hn1 : n - 1 + 1 = n := by omega
      have tp := I.top
      have rR := I.refR x
      have rE := I.refE x
      rw [hn1] at tp rR rE
      rw [tp] at c4
      rw [rR] at e1
      rw [rE] at e3
      have hdf := I.diff
      have HDF := Lib.hid hdf
      have k1 : decide (100000000000 < x) = false := by simp; omega
      have k2 : decide (x < -100000000000) = false := by simp; omega
      clear I okj ok htw hA tp rR rE hdf hJ hn1
      generalize topb R n = T at *
      generalize refb F R x n = uR at *
      generalize refb F E x n = uE at *
      go_enter Try.func7, Try.ntmps7
      go_wp2_with (fail)
      with_reducible refine (sm).mono ?_
      rintro e w1 ⟨rfl, d1⟩
      have hb1 := d1
      have h_1 := h.below d1
      go_wp2_with (fail)
      with_reducible refine (c1 _ h_1).mono ?_
      rintro e w2 ⟨rfl, d2⟩
      have hb2 := hb1.trans (d2.mono hb1.size)
      have h_2 := h_1.below d2
      go_wp2_with (fail)
      with_reducible refine (c2 _ h_2).mono ?_
      rintro e w3 ⟨v3, rfl, r3, d3⟩
      have hb3 := hb2.trans (d3.mono hb2.size)
      have h_3 := h_2.below d3
      obtain ⟨g, cap, rfl, _, _, _, B3⟩ := rw_bds_of r3 hJ0
      generalize hL : J.length = l at *
      go_wp2_with (fail)
      with_reducible refine (c3 _ _ cap h_3 B3).mono ?_
      rintro e w4 ⟨rfl, d4⟩
      have hb4 := hb3.trans (d4.mono hb3.size)
      have h_4 := h_3.below d4
      have B4 := B3.below d4
      have t0 : ((l : Int) == 0) = false := by simp; omega
      have t1 : decide ((n : Int) < (l : Int)) = false := by simp; omega
      have t2 : decide (n < l) = false := by simp; omega
      go_wp2_with (fail)
      with_reducible refine (c4 _ _ cap B4).mono ?_
      rintro e w5 ⟨rfl, d5⟩
      have hb5 := hb4.trans (d5.mono hb4.size)
      have h_5 := h_4.below d5
      have B5 := B4.below d5
      go_wp2_with (fail)
      with_reducible refine (c5 _ h_5).mono ?_
      rintro e w6 ⟨rfl, d6⟩
      have hb6 := hb5.trans (d6.mono hb5.size)
      have h_6 := h_5.below d6
      have B6 := B5.below d6
      have hlJ : l ≤ 8 := by omega
      clear c1 c2 c3 c4 c5 sm d3 d4 d5 d6 h h_1 h_2 h_3 h_4 h_5 hb1 hb2 hb3 hb4 hb5 B3 B4 B5 r3 t0 t1 t2 k1 k2
      go_wp2
      go_loopw [6] (fun v W => ∃ i : Nat, 1 ≤ i ∧ i ≤ l ∧ v = .int .i64 i ∧ Below w6.heap.size w6 W) (fun v _ => l - (intOf v).toNat)
      case atStart => exact ⟨1, Nat.le_refl _, hJ0, rfl, Below.refl _ _⟩
      case round =>
        obtain ⟨i, hi1, hi, rfl, hb⟩ := hrel
        by_cases hlt : i < l
        · obtain ⟨bb, oo, hbb, hc⟩ := B6 (by omega)
          have hbb2 : bb = g ∧ oo = 0 := by
            have := Option.some.inj hbb
            simp only [Addr.mk.injEq] at this
            omega
          obtain ⟨rfl, rfl⟩ := hbb2
          obtain ⟨x0, x1, x2⟩ := hc i hlt
          obtain ⟨y0, y1, y2⟩ := hc (i - 1) (by omega)
          simp only [Nat.zero_add] at x0 x1 x2 y0 y1 y2
          have p0 := cell_later hb x0
          have p1 := cell_later hb x1
          have p2 := cell_later hb x2
          have q0 := cell_later hb y0
          have q1 := cell_later hb y1
          have q2 := cell_later hb y2
          have hd := HDF.out i (by omega) hlt
          simp only [lik, decide_eq_false_iff_not] at hd
          have w1' : IntKind.i64.wrap ((i : Int) - 1) = (i : Int) - 1 := IntWalk.i64_in _ (by omega)
          have i0 : 0 ≤ (i : Int) - 1 := by omega
          have i2 : (1 : Int) ≤ (i : Int) := by omega
          have i1 : (i : Int) - 1 < (l : Int) := by omega
          have i4 : (i : Int) < (l : Int) := by omega
          clear x0 x1 x2 y0 y1 y2 hc hbb e1 e2 e3 e4 c6
          by_cases hr : gR J i = gR J (i - 1)
          · have u2 : (gE J i == gE J (i - 1)) = false := by simp; exact fun e => hd ⟨hr, e⟩
            have u1 : (gR J i == gR J (i - 1)) = true := by simp [hr]
            clear hd hr
            generalize gR J i = ra at *
            generalize gR J (i - 1) = rb at *
            generalize gE J i = ea at *
            generalize gE J (i - 1) = eb at *
            go_wp2
            go_quiet (fail)
            go_wp2
            go_roundw
            case rel => exact ⟨i + 1, by omega, by omega, by go_num, below_drewN hb _⟩
            case measure => first | omega | (simp [intOf]; omega)
          · have u1 : (gR J i == gR J (i - 1)) = false := by simpa using hr
            clear hd hr
            generalize gR J i = ra at *
            generalize gR J (i - 1) = rb at *
            generalize gE J i = ea at *
            generalize gE J (i - 1) = eb at *
            go_wp2
            go_quiet (fail)
            go_wp2
            go_roundw
            case rel => exact ⟨i + 1, by omega, by omega, by go_num, below_drewN hb _⟩
            case measure => first | omega | (simp [intOf]; omega)
        · obtain rfl : i = l := by omega
          have h_7 := h_6.below hb
          have B7 := B6.below hb
          have hb7 := hb6.trans (hb.mono hb6.size)
          rename_i W7 _ _ _ _
          clear h_6 B6 hb6 hb
          obtain ⟨bb, oo, rfl, _⟩ := id (h_7 (by omega))
          go_wp2_with (fail)
          with_reducible refine (c6 _ h_7).mono ?_
          rintro e w8 ⟨v8, rfl, r8, d8⟩
          have hb8 := hb7.trans (d8.mono hb7.size)
          have h_8 := h_7.below d8
          have B8 := B7.below d8
          rw [crn_len] at r8
          have f8 : v8 = .slice none 0 0 ∧ n = 1 ∨ ∃ g8 cap8, v8 = .slice (some ⟨g8, 0, none⟩) (n - 1) cap8 := by
            rcases r8.2 with ⟨e1, e2⟩ | ⟨g8, cap8, cur, e1, _⟩
            · exact .inl ⟨e1, by omega⟩
            · exact .inr ⟨g8, cap8, e1⟩
          clear h_7 B7 hb7 c6 d8
          have wn : IntKind.i64.wrap ((n : Int) - 1) = (n : Int) - 1 := IntWalk.i64_in _ (by omega)
          have s0 : (1 : Int) ≤ (n : Int) := by omega
          have s1 : (((n - 1 : Nat) : Int) != (n : Int) - 1) = false := by simp; omega
          have s3 : (n : Int) ≤ (c : Int) := by omega
          by_cases hn1 : n = 1
          · have s4 : decide (c = 1) = decide (c = 1) := rfl
            have hz : n - 1 = 0 := by omega
            have hf8 : ∃ a8 cap8, v8 = .slice a8 0 cap8 := by
              rcases f8 with ⟨e, _⟩ | ⟨g8, cap8, e⟩
              · exact ⟨none, 0, e⟩
              · exact ⟨_, cap8, by rw [e, hz]⟩
            obtain ⟨a8, cap8, rfl⟩ := hf8
            subst hn1
            clear f8 s4 hz wn s1
            have hsl : ∃ a9 c9, ∀ W, (Instr.slice 22 (.slice (some ⟨bb, oo, none⟩) 1 c) (some (.int .i64 1)) none none).run Try.prog W = .ok (.slice a9 0 c9) W := by
              by_cases hc1' : c = 1
              · subst hc1'
                exact ⟨_, _, fun W => by simp [go_sem]; exact ⟨rfl, rfl⟩⟩
              · exact ⟨_, _, fun W => by simp [go_sem, hc1']; exact ⟨rfl, rfl⟩⟩
            obtain ⟨a9, c9, hsl⟩ := hsl
            go_wp2
            go_loopw [85] (fun v W => v = .int .i64 0 ∧ Below w8.heap.size w8 W) (fun _ _ => 0)
            case atStart => exact ⟨rfl, Below.refl _ _⟩
            case round =>
              obtain ⟨rfl, hbi⟩ := hrel
              have HK := h_8.below hbi
              have BK := B8.below hbi
              have hbk := hb8.trans (hbi.mono hb8.size)
              clear h_8 B8 hb8 hbi
              go_wp2_with (fail)
              with_reducible refine (e1 _ _ cap BK).mono ?_
              rintro e w' ⟨rfl, rfl⟩
              go_wp2_with (fail)
              with_reducible refine (e2 _ HK).mono ?_
              rintro e w' ⟨rfl, rfl⟩
              go_wp2_with (fail)
              with_reducible refine (e3 _ _ cap BK).mono ?_
              rintro e w' ⟨rfl, rfl⟩
              go_wp2_with (fail)
              with_reducible refine (e4 _ HK).mono ?_
              rintro e w' ⟨rfl, rfl⟩
              go_wp2
              go_ret
              exact ⟨ret_b (by simp), hbk⟩
          · have hf8 : ∃ g8 cap8, v8 = .slice (some ⟨g8, 0, none⟩) (n - 1) cap8 := by
              rcases f8 with ⟨_, e⟩ | e
              · exact absurd e hn1
              · exact e
            obtain ⟨g8, cap8, rfl⟩ := hf8
            have s4 : decide (c = 1) = false := by simp; omega
            have s5 : ¬ c = 1 := by omega
            have hrc : ∀ i, i < n - 1 → w8.cell? ⟨g8, i, none⟩ = some (.int .i64 (F (i + 1))) := fun i hi => (r8.cellAt i (by omega)).trans (crn_get F hi)
            have HRC := Lib.hid hrc
            have s6 : (n : Int) - 1 = ((n - 1 : Nat) : Int) := by omega
            have hmm : 1 ≤ n - 1 ∧ n - 1 ≤ 7 := by omega
            obtain ⟨hm1, hm7⟩ := hmm
            have S6 := Lib.hid s6
            clear f8 r8 hrc s6
            go_wp2
            go_loopw [85] (fun v W => ∃ i : Nat, i ≤ n - 1 ∧ v = .int .i64 i ∧ Below w8.heap.size w8 W) (fun v _ => (n - 1) - (intOf v).toNat)
            case atStart => exact ⟨0, Nat.zero_le _, rfl, Below.refl _ _⟩
            case round =>
              obtain ⟨i, hi, rfl, hbi⟩ := hrel
              by_cases hlt : i < n - 1
              · obtain ⟨bb2, oo2, hbb, hc⟩ := h_8 (by omega)
                have hbb2 : bb2 = bb ∧ oo2 = oo := by
                  have := Option.some.inj hbb
                  simp only [Addr.mk.injEq] at this
                  omega
                obtain ⟨rfl, rfl⟩ := hbb2
                obtain ⟨x0, x1, x2⟩ := hc (i + 1) (by omega)
                rw [show oo2 + (i + 1) * 3 = oo2 + 3 + i * 3 by omega] at x0 x1 x2
                have p0 := cell_later hbi x0
                have p1 := cell_later hbi x1
                have p2 := cell_later hbi x2
                have z0 := cell_later hbi (HRC.out i hlt)
                have hbx := hbi.alloc hbi.size (Obj.cells #[.int .i64 (F (i + 1)), .int .i64 (R (i + 1)), .int .i64 (E (i + 1))] 37)
                have gxl : g8 < wr.heap.size := World.block_lt_of_cell? _ _ z0
                have gx1 : g8 ≠ wr.heap.size := by omega
                have i4 : (i : Int) < ((n - 1 : Nat) : Int) := by omega
                clear x0 x1 x2 hc hbb e1 e2 e3 e4
                generalize F (i + 1) = fi at *
                generalize R (i + 1) = ri at *
                generalize E (i + 1) = ei at *
                go_wp2
                go_quiet (fail)
                go_wp2
                go_roundw
                case rel => exact ⟨i + 1, by omega, by go_num, below_drewN hbx _⟩
                case measure => first | omega | (simp [intOf]; omega)
              · have HK := h_8.below hbi
                have BK := B8.below hbi
                have hbk := hb8.trans (hbi.mono hb8.size)
                have hie : i = n - 1 := by omega
                have i4 : ¬ (i : Int) < ((n - 1 : Nat) : Int) := by omega
                have i5 : ¬ i < n - 1 := by omega
                clear h_8 B8 hb8 hbi hie
                go_wp2_with (fail)
                with_reducible refine (e1 _ _ cap BK).mono ?_
                rintro e w' ⟨rfl, rfl⟩
                go_wp2_with (fail)
                with_reducible refine (e2 _ HK).mono ?_
                rintro e w' ⟨rfl, rfl⟩
                go_wp2_with (fail)
                with_reducible refine (e3 _ _ cap BK).mono ?_
                rintro e w' ⟨rfl, rfl⟩
                go_wp2_with (fail)
                with_reducible refine (e4 _ HK).mono ?_
                rintro e w' ⟨rfl, rfl⟩
                go_wp2
                go_ret
                exact ⟨ret_b (by simp), hbk⟩
  · have k0 : (chk F R E n != 0) = true := by simpa using h0
    clear h0
    generalize chk F R E n = k at *
    go_enter Try.func7, Try.ntmps7
    go_wp2_with (fail)
    with_reducible refine (sm).mono ?_
    rintro e w1 ⟨rfl, d1⟩
    have hb1 := d1
    have h_1 := h.below d1
    go_wp2_with (fail)
    with_reducible refine (c1 _ h_1).mono ?_
    rintro e w2 ⟨rfl, d2⟩
    have hb2 := hb1.trans (d2.mono hb1.size)
    have h_2 := h_1.below d2
    go_wp2
    go_ret
    exact ⟨rfl, hb2⟩
end Go.Proofs.Ytkiefceomgbbhaa
