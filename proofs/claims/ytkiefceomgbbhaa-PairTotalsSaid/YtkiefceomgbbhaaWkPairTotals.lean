/- The walk of the law PairTotals. -/
import Derived.Test.YtkiefceomgbbhaaPairE
namespace Go.Proofs.Ytkiefceomgbbhaa
open Go.RowKit Go.Sort
set_option linter.unusedVariables false

theorem okT_less {X Y : Nat → Int} {n : Nat} (h : okT X Y n = true) : ∀ {k : Nat}, k ≤ n → okT X Y k = true := by
  intro k hk
  cases hc : okT X Y k
  · rcases k with _ | k
    · exact hc.symm.trans rfl
    · by_cases e : k + 1 = n
      · subst e; rw [h] at hc; exact hc.symm
      · have := okT_stop (n := n) (show k < n by omega) hc
        rw [this] at h
        exact h
  · rfl
theorem okT_step {X Y : Nat → Int} {k : Nat} (h : okT X Y (k + 1) = true) : amtB (X k) = true ∧ amtB (Y k) = true ∧ amtB (tsm X k + X k) = true ∧ amtB (tsm Y k + Y k) = true := by
  simp only [okT, Bool.and_eq_true] at h
  exact ⟨h.2.1.1, h.2.2.1, h.2.1.2, h.2.2.2⟩
set_option maxHeartbeats 8000000 in
set_option maxRecDepth 100000 in
theorem wPairTotals (A : Option Addr) (n c : Nat) (X Y : Nat → Int) (w : World) (h : Shs w A n X Y) (hn : n ≤ 9223372036854775807) (hf : ∀ i, i < n → (-9223372036854775808 ≤ X i ∧ X i ≤ 9223372036854775807) ∧ (-9223372036854775808 ≤ Y i ∧ Y i ≤ 9223372036854775807)) :
    Calls Try.prog 12 #[.slice A n c] w fun e w' => e = .returned (.bool true) ∧ Below w.heap.size w w' := by
  have sm := both_any w
  by_cases h50 : 50 < n
  · have t1 : decide (50 < (n : Int)) = true := by simp; omega
    clear h hf
    go_enter Try.func12, Try.ntmps12
    go_wp2_with (fail)
    with_reducible refine sm.mono ?_
    rintro e w1 ⟨rfl, hb1⟩
    go_wp2
    go_ret
    exact ⟨rfl, hb1⟩
  · have t1 : decide (50 < (n : Int)) = false := by simp; omega
    have c1 := fun (W : World) (hB : Shs W A n X Y) => total_any A n c W X Y hB (by omega)
    have hn50 : n ≤ 50 := by omega
    have HF := Lib.hid hf
    clear hf h50
    cases hok : okT X Y n
    · rw [← totV_no hok] at c1
      have HOK := Lib.hid hok
      clear hok
      go_enter Try.func12, Try.ntmps12
      go_wp2_with (fail)
      with_reducible refine sm.mono ?_
      rintro e w1 ⟨rfl, hb1⟩
      have h_1 := h.below hb1
      go_wp2_with (fail)
      with_reducible refine (c1 _ h_1).mono ?_
      rintro e w2 ⟨rfl, d2⟩
      have hb2 := hb1.trans (d2.mono hb1.size)
      have h_2 := h_1.below d2
      have p2 := P2.new w2 (0) (0) 65
      have hb3 := hb2.alloc hb2.size (.cells #[.int .i64 (0), .int .i64 (0)] 65)
      have h_3 := h_2.below ((Below.refl _ _).alloc (Nat.le_refl _) (.cells #[.int .i64 (0), .int .i64 (0)] 65))
      clear c1 sm h h_1 h_2 d2 hb1 hb2
      go_wp2
      generalize hw3 : w2.alloc (.cells #[.int .i64 (0), .int .i64 (0)] 65) = w3 at *
      clear hw3
      generalize w2.heap.size = gb at *
      go_loopw [5, 6, 24] (fun a b v W => ∃ k : Nat, k ≤ n ∧ v = .int .i64 k ∧ a = .int .i64 (tsm X k) ∧ b = .int .i64 (tsm Y k) ∧ okT X Y k = true ∧ Below w3.heap.size w3 W) (fun _ _ v _ => n - (intOf v).toNat)
      case atStart => exact ⟨0, Nat.zero_le _, rfl, rfl, rfl, rfl, Below.refl _ _⟩
      case round =>
        obtain ⟨k, hk, rfl, rfl, rfl, hokk, hb⟩ := hrel
        have p3 := p2.below hb
        have hbw := hb3.trans (hb.mono hb3.size)
        by_cases hlt : k < n
        · obtain ⟨bb, oo, rfl, hc⟩ := h_3 (by omega)
          obtain ⟨x0, x1⟩ := hc k hlt
          have y0 := cell_later hb x0
          have y1 := cell_later hb x1
          obtain ⟨am1, am2⟩ := okT_amt hokk
          obtain ⟨s1, s2⟩ := amtB_yes am1
          obtain ⟨s3, s4⟩ := amtB_yes am2
          obtain ⟨⟨f1, f2⟩, ⟨f3, f4⟩⟩ := HF.out k hlt
          have hsucc : okT X Y (k + 1) = ((amtB (X k) && amtB (tsm X k + X k)) && (amtB (Y k) && amtB (tsm Y k + Y k))) := by
            show (okT X Y k && _) = _
            rw [hokk]; rfl
          have HSU := Lib.hid hsucc
          have ht1 : tsm X (k + 1) = tsm X k + X k := rfl
          have ht2 : tsm Y (k + 1) = tsm Y k + Y k := rfl
          have HT := Lib.hid (And.intro ht1 ht2)
          have hbx := hb.alloc hb.size (.cells #[.int .i64 (X k), .int .i64 (Y k)] 65)
          have hbwx := hbw.alloc hbw.size (.cells #[.int .i64 (X k), .int .i64 (Y k)] 65)
          have p4 := p3.below ((Below.refl _ _).alloc (Nat.le_refl _) (.cells #[.int .i64 (X k), .int .i64 (Y k)] 65))
          have hpx := P2.new wr (X k) (Y k) 65
          have ix0 : ∀ w, (Instr.index 59 (.agg #[.int .i64 (X k), .int .i64 (Y k)]) (.int .i64 0)).run Try.prog w = .ok (.int .i64 (X k)) w := fun _ => by kernel_rfl
          have ix1 : ∀ w, (Instr.index 59 (.agg #[.int .i64 (X k), .int .i64 (Y k)]) (.int .i64 1)).run Try.prog w = .ok (.int .i64 (Y k)) w := fun _ => by kernel_rfl
          obtain ⟨z0, z1, _, _, zz⟩ := p4
          obtain ⟨v0, v1, _, _, vz⟩ := hpx
          clear hc x0 x1 hsucc ht1 ht2 am1 am2 hokk p3
          generalize tsm X k = p at *
          generalize tsm Y k = q at *
          generalize X k = xi at *
          generalize Y k = yi at *
          have kx : decide (100000000000 < xi) = true ∨ (decide (100000000000 < xi) = false ∧ decide (xi < -100000000000) = true) ∨ (decide (100000000000 < xi) = false ∧ decide (xi < -100000000000) = false ∧ -100000000000 ≤ xi ∧ xi ≤ 100000000000) := by
            simp only [decide_eq_true_eq, decide_eq_false_iff_not]; omega
          rcases kx with kx1 | ⟨kx1, kx2⟩ | ⟨kx1, kx2, kx3, kx4⟩
          · go_wp2
            refine wp_loop_rounds 3 ?_
            rw [rounds_succ]
            go_wp2
            go_ret
            exact ⟨rfl, hbwx⟩
          · go_wp2
            refine wp_loop_rounds 3 ?_
            rw [rounds_succ]
            go_wp2
            go_ret
            exact ⟨rfl, hbwx⟩
          · have ky : decide (100000000000 < yi) = true ∨ (decide (100000000000 < yi) = false ∧ decide (yi < -100000000000) = true) ∨ (decide (100000000000 < yi) = false ∧ decide (yi < -100000000000) = false ∧ -100000000000 ≤ yi ∧ yi ≤ 100000000000) := by
              simp only [decide_eq_true_eq, decide_eq_false_iff_not]; omega
            rcases ky with ky1 | ⟨ky1, ky2⟩ | ⟨ky1, ky2, ky3, ky4⟩
            · go_wp2
              refine wp_loop_rounds 3 ?_
              rw [rounds_succ]
              go_wp2
              rw [rounds_succ]
              go_wp2
              go_ret
              exact ⟨rfl, hbwx⟩
            · go_wp2
              refine wp_loop_rounds 3 ?_
              rw [rounds_succ]
              go_wp2
              rw [rounds_succ]
              go_wp2
              go_ret
              exact ⟨rfl, hbwx⟩
            · have ks : decide (100000000000 < p + xi) = true ∨ (decide (100000000000 < p + xi) = false ∧ decide (p + xi < -100000000000) = true) ∨ (decide (100000000000 < p + xi) = false ∧ decide (p + xi < -100000000000) = false ∧ decide (100000000000 < q + yi) = true) ∨ (decide (100000000000 < p + xi) = false ∧ decide (p + xi < -100000000000) = false ∧ decide (100000000000 < q + yi) = false ∧ decide (q + yi < -100000000000) = true) ∨
                  (decide (100000000000 < p + xi) = false ∧ decide (p + xi < -100000000000) = false ∧ decide (100000000000 < q + yi) = false ∧ decide (q + yi < -100000000000) = false) := by
                simp only [decide_eq_true_eq, decide_eq_false_iff_not]; omega
              have wp1 : IntKind.i64.wrap (p + xi) = p + xi := IntWalk.i64_in _ (by omega)
              have wq1 : IntKind.i64.wrap (q + yi) = q + yi := IntWalk.i64_in _ (by omega)
              have lp1 : -9223372036854775808 ≤ p + xi := by omega
              have lp2 : p + xi ≤ 9223372036854775807 := by omega
              have lq1 : -9223372036854775808 ≤ q + yi := by omega
              have lq2 : q + yi ≤ 9223372036854775807 := by omega
              rcases ks with k1 | ⟨k1, k2⟩ | ⟨k1, k2, k3⟩ | ⟨k1, k2, k3, k4⟩ | ⟨k1, k2, k3, k4⟩
              · go_wp2
                refine wp_loop_rounds 3 ?_
                rw [rounds_succ]
                go_wp2
                rw [rounds_succ]
                go_wp2
                rw [rounds_succ]
                go_wp2
                go_quiet (fail)
                go_wp2
                go_ret
                exact ⟨rfl, below_drewN hbwx _⟩
              · go_wp2
                refine wp_loop_rounds 3 ?_
                rw [rounds_succ]
                go_wp2
                rw [rounds_succ]
                go_wp2
                rw [rounds_succ]
                go_wp2
                go_quiet (fail)
                go_wp2
                go_ret
                exact ⟨rfl, below_drewN hbwx _⟩
              · go_wp2
                refine wp_loop_rounds 3 ?_
                rw [rounds_succ]
                go_wp2
                rw [rounds_succ]
                go_wp2
                rw [rounds_succ]
                go_wp2
                go_quiet (fail)
                go_wp2
                go_ret
                exact ⟨rfl, below_drewN hbwx _⟩
              · go_wp2
                refine wp_loop_rounds 3 ?_
                rw [rounds_succ]
                go_wp2
                rw [rounds_succ]
                go_wp2
                rw [rounds_succ]
                go_wp2
                go_quiet (fail)
                go_wp2
                go_ret
                exact ⟨rfl, below_drewN hbwx _⟩
              · have hy : okT X Y (k + 1) = true := by
                  rw [HSU.out]
                  simp only [decide_eq_false_iff_not] at k1 k2 k3 k4
                  rw [amtB_mk kx3 kx4, amtB_mk ky3 ky4, amtB_mk (by omega) (by omega), amtB_mk (by omega) (by omega)]
                  rfl
                have HY := Lib.hid hy
                clear hy
                go_wp2
                refine wp_loop_rounds 3 ?_
                rw [rounds_succ]
                go_wp2
                rw [rounds_succ]
                go_wp2
                rw [rounds_succ]
                go_wp2
                go_quiet (fail)
                go_wp2
                go_roundw
                case rel => exact ⟨k + 1, by omega, by go_num, by rw [HT.out.1], by rw [HT.out.2], HY.out, below_drewN hbx _⟩
                case measure => first | omega | (simp [intOf]; omega)
        · exfalso
          obtain rfl : k = n := by omega
          have := HOK.out
          rw [hokk] at this
          cases this
    · rw [← totV_yes hok] at c1
      have HOK := Lib.hid hok
      clear hok
      go_enter Try.func12, Try.ntmps12
      go_wp2_with (fail)
      with_reducible refine sm.mono ?_
      rintro e w1 ⟨rfl, hb1⟩
      have h_1 := h.below hb1
      go_wp2_with (fail)
      with_reducible refine (c1 _ h_1).mono ?_
      rintro e w2 ⟨rfl, d2⟩
      have hb2 := hb1.trans (d2.mono hb1.size)
      have h_2 := h_1.below d2
      have p2 := P2.new w2 (tsm X n) (tsm Y n) 65
      have hb3 := hb2.alloc hb2.size (.cells #[.int .i64 (tsm X n), .int .i64 (tsm Y n)] 65)
      have h_3 := h_2.below ((Below.refl _ _).alloc (Nat.le_refl _) (.cells #[.int .i64 (tsm X n), .int .i64 (tsm Y n)] 65))
      clear c1 sm h h_1 h_2 d2 hb1 hb2
      go_wp2
      generalize hw3 : w2.alloc (.cells #[.int .i64 (tsm X n), .int .i64 (tsm Y n)] 65) = w3 at *
      clear hw3
      generalize w2.heap.size = gb at *
      go_loopw [5, 6, 24] (fun a b v W => ∃ k : Nat, k ≤ n ∧ v = .int .i64 k ∧ a = .int .i64 (tsm X k) ∧ b = .int .i64 (tsm Y k) ∧ okT X Y k = true ∧ Below w3.heap.size w3 W) (fun _ _ v _ => n - (intOf v).toNat)
      case atStart => exact ⟨0, Nat.zero_le _, rfl, rfl, rfl, rfl, Below.refl _ _⟩
      case round =>
        obtain ⟨k, hk, rfl, rfl, rfl, hokk, hb⟩ := hrel
        have p3 := p2.below hb
        have hbw := hb3.trans (hb.mono hb3.size)
        by_cases hlt : k < n
        · obtain ⟨bb, oo, rfl, hc⟩ := h_3 (by omega)
          obtain ⟨x0, x1⟩ := hc k hlt
          have y0 := cell_later hb x0
          have y1 := cell_later hb x1
          obtain ⟨am1, am2⟩ := okT_amt hokk
          obtain ⟨s1, s2⟩ := amtB_yes am1
          obtain ⟨s3, s4⟩ := amtB_yes am2
          have hy := okT_less HOK.out (show k + 1 ≤ n by omega)
          obtain ⟨e1, e2, e3, e4⟩ := okT_step hy
          obtain ⟨kx3, kx4⟩ := amtB_yes e1
          obtain ⟨ky3, ky4⟩ := amtB_yes e2
          obtain ⟨g1, g2⟩ := amtB_yes e3
          obtain ⟨g3, g4⟩ := amtB_yes e4
          have HY := Lib.hid hy
          have ht1 : tsm X (k + 1) = tsm X k + X k := rfl
          have ht2 : tsm Y (k + 1) = tsm Y k + Y k := rfl
          have HT := Lib.hid (And.intro ht1 ht2)
          have hbx := hb.alloc hb.size (.cells #[.int .i64 (X k), .int .i64 (Y k)] 65)
          have p4 := p3.below ((Below.refl _ _).alloc (Nat.le_refl _) (.cells #[.int .i64 (X k), .int .i64 (Y k)] 65))
          have hpx := P2.new wr (X k) (Y k) 65
          have ix0 : ∀ w, (Instr.index 59 (.agg #[.int .i64 (X k), .int .i64 (Y k)]) (.int .i64 0)).run Try.prog w = .ok (.int .i64 (X k)) w := fun _ => by kernel_rfl
          have ix1 : ∀ w, (Instr.index 59 (.agg #[.int .i64 (X k), .int .i64 (Y k)]) (.int .i64 1)).run Try.prog w = .ok (.int .i64 (Y k)) w := fun _ => by kernel_rfl
          obtain ⟨z0, z1, _, _, zz⟩ := p4
          obtain ⟨v0, v1, _, _, vz⟩ := hpx
          clear hc x0 x1 ht1 ht2 am1 am2 hokk p3 e1 e2 e3 e4 hy
          generalize tsm X k = p at *
          generalize tsm Y k = q at *
          generalize X k = xi at *
          generalize Y k = yi at *
          have kx1 : decide (100000000000 < xi) = false := by simp; omega
          have kx2 : decide (xi < -100000000000) = false := by simp; omega
          have ky1 : decide (100000000000 < yi) = false := by simp; omega
          have ky2 : decide (yi < -100000000000) = false := by simp; omega
          have k1 : decide (100000000000 < p + xi) = false := by simp; omega
          have k2 : decide (p + xi < -100000000000) = false := by simp; omega
          have k3 : decide (100000000000 < q + yi) = false := by simp; omega
          have k4 : decide (q + yi < -100000000000) = false := by simp; omega
          have wp1 : IntKind.i64.wrap (p + xi) = p + xi := IntWalk.i64_in _ (by omega)
          have wq1 : IntKind.i64.wrap (q + yi) = q + yi := IntWalk.i64_in _ (by omega)
          go_wp2
          refine wp_loop_rounds 3 ?_
          rw [rounds_succ]
          go_wp2
          rw [rounds_succ]
          go_wp2
          rw [rounds_succ]
          go_wp2
          go_quiet (fail)
          go_wp2
          go_roundw
          case rel => exact ⟨k + 1, by omega, by go_num, by rw [HT.out.1], by rw [HT.out.2], HY.out, below_drewN hbx _⟩
          case measure => first | omega | (simp [intOf]; omega)
        · obtain rfl : k = n := by omega
          obtain ⟨z0, z1, _, _, zz⟩ := p3
          clear hokk h_3
          generalize tsm X k = p at *
          generalize tsm Y k = q at *
          go_wp2
          go_ret
          exact ⟨rfl, hbw⟩
end Go.Proofs.Ytkiefceomgbbhaa
