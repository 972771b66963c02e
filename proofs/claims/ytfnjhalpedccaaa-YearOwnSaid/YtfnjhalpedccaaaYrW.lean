/- What the law's own wrong answers: what is wrong with a payslip. -/
import Derived.Test.YtfnjhalpedccaaaYrV
import Derived.BigQuiet
namespace Go.Proofs.Ytfnjhalpedccaaa
open Go.RowKit Go.Sort
set_option linter.unusedVariables false
set_option linter.unusedSimpArgs false

theorem lr1 (a : Int) (w : World) (t : TypeId) (v : Bool) (hv : amtB a = v) (n : Nat) (hn : w.heap.size = n) :
    Calls Try.prog 39 #[.slice (some ⟨n, 0, none⟩) 1 1] (w.alloc (.cells #[.int .i64 a] t)) fun e w' => e = .returned (.bool v) ∧ w.alloc (.cells #[.int .i64 a] t) = w' :=
  lright_any (some ⟨n, 0, none⟩) 1 1 _ (fun _ => a) (fun _ => ⟨_, _, rfl, fun i hi => by
    obtain rfl : i = 0 := by omega
    exact (bx_at w [.int .i64 a] t hn).cell rfl⟩) (by omega) v (by rw [← hv]; simp [allB, List.range_succ])
theorem lr2 (a b : Int) (w : World) (t : TypeId) (v : Bool) (hv : (amtB a && amtB b) = v) (n : Nat) (hn : w.heap.size = n) :
    Calls Try.prog 39 #[.slice (some ⟨n, 0, none⟩) 2 2] (w.alloc (.cells #[.int .i64 a, .int .i64 b] t)) fun e w' => e = .returned (.bool v) ∧ w.alloc (.cells #[.int .i64 a, .int .i64 b] t) = w' :=
  lright_any (some ⟨n, 0, none⟩) 2 2 _ (fun i => [a, b].getD i 0) (fun _ => ⟨_, _, rfl, fun i hi => by
    rcases (show i = 0 ∨ i = 1 by omega) with rfl | rfl <;> exact (bx_at w [.int .i64 a, .int .i64 b] t hn).cell rfl⟩) (by omega) v (by rw [← hv]; simp [allB, List.range_succ])
theorem lr7 (a b c d e f g : Int) (w : World) (t : TypeId) (v : Bool) (hv : ((amtB a && amtB b && amtB c) && (amtB d && amtB e && amtB f && amtB g)) = v) (n : Nat) (hn : w.heap.size = n) :
    Calls Try.prog 39 #[.slice (some ⟨n, 0, none⟩) 7 7] (w.alloc (.cells #[.int .i64 a, .int .i64 b, .int .i64 c, .int .i64 d, .int .i64 e, .int .i64 f, .int .i64 g] t)) fun r w' => r = .returned (.bool v) ∧ w.alloc (.cells #[.int .i64 a, .int .i64 b, .int .i64 c, .int .i64 d, .int .i64 e, .int .i64 f, .int .i64 g] t) = w' :=
  lright_any (some ⟨n, 0, none⟩) 7 7 _ (fun i => [a, b, c, d, e, f, g].getD i 0) (fun _ => ⟨_, _, rfl, fun i hi => by
    rcases (show i = 0 ∨ i = 1 ∨ i = 2 ∨ i = 3 ∨ i = 4 ∨ i = 5 ∨ i = 6 by omega) with rfl | rfl | rfl | rfl | rfl | rfl | rfl <;> exact (bx_at w [.int .i64 a, .int .i64 b, .int .i64 c, .int .i64 d, .int .i64 e, .int .i64 f, .int .i64 g] t hn).cell rfl⟩) (by omega) v (by rw [← hv]; simp [allB, List.range_succ, Bool.and_assoc])
set_option maxRecDepth 100000 in
set_option maxHeartbeats 8000000 in
theorem lwrong_raw (k ca tb so tx sf : Int) (A : Option Addr) (n c : Nat) (net : Int) (T : Option Addr) (m d : Nat) (pay : Int) (X Y : Nat → Int) (f : Nat → Tkn) (N : Int) (w : World) (hS : Shs w A n X Y) (hT : Tks w T m f) (hn : n ≤ 1000000) (hm : m ≤ 1000000) (v : Int) (hv : (⟨k, ca, tb, so, tx, sf, A, n, c, net, T, m, d, pay, X, Y, f⟩ : Slp).chk N = v) :
    Calls Try.prog 10 #[.agg #[.int .i64 k, .int .i64 ca, .int .i64 tb, .int .i64 so, .int .i64 tx, .int .i64 sf, .slice A n c, .int .i64 net, .slice T m d, .int .i64 pay], .int .i64 N] w fun e w' => e = .returned (.int .i64 v) ∧ Below w.heap.size w w' := by
  unfold Slp.chk Slp.amB at hv
  simp only at hv
  have K := bx_new w [.int .i64 k, .int .i64 ca, .int .i64 tb, .int .i64 so, .int .i64 tx, .int .i64 sf, .slice A n c, .int .i64 net, .slice T m d, .int .i64 pay] 37
  have B := below_new w (.cells #[.int .i64 k, .int .i64 ca, .int .i64 tb, .int .i64 so, .int .i64 tx, .int .i64 sf, .slice A n c, .int .i64 net, .slice T m d, .int .i64 pay] 37)
  have k_0 := K.cell (i := 0) rfl
  have k_1 := K.cell (i := 1) rfl
  have k_2 := K.cell (i := 2) rfl
  have k_3 := K.cell (i := 3) rfl
  have k_4 := K.cell (i := 4) rfl
  have k_5 := K.cell (i := 5) rfl
  have k_6 := K.cell (i := 6) rfl
  have k_7 := K.cell (i := 7) rfl
  have k_8 := K.cell (i := 8) rfl
  have k_9 := K.cell (i := 9) rfl
  by_cases b1 : k < 1
  · have HR : Hid (v = 1) := Lib.hid (hv.symm.trans (if_pos (.inl b1)))
    clear hv hS hT K
    go_enter Try.func10, Try.ntmps10
    go_wp2
    go_ret
    exact ⟨ret_i HR.out.symm, B⟩
  by_cases b2 : 53 < k
  · have HR : Hid (v = 1) := Lib.hid (hv.symm.trans (if_pos (.inr b2)))
    clear hv hS hT K
    go_enter Try.func10, Try.ntmps10
    go_wp2
    go_ret
    exact ⟨ret_i HR.out.symm, B⟩
  rw [if_neg (show ¬ (k < 1 ∨ 53 < k) by omega)] at hv
  by_cases b3 : (n : Int) = N
  rotate_left
  · have HR : Hid (v = 3) := Lib.hid (hv.symm.trans (if_pos b3))
    have t3 : ((n : Int) != N) = true := by simp [b3]
    clear hv hS hT K b3
    go_enter Try.func10, Try.ntmps10
    go_wp2
    go_ret
    exact ⟨ret_i HR.out.symm, B⟩
  rw [if_neg (by rw [b3]; simp)] at hv
  have t3 : ((n : Int) != N) = false := by simp [b3]
  have HV := Lib.hid hv
  have HSS := Lib.hid (hS.below B)
  have HTT := Lib.hid (hT.below B)
  clear b3 hv hS hT
  go_enter Try.func10, Try.ntmps10
  go_wp2
  clear k_0 k_1 k_2 k_3 k_4 k_5 k_6 k_7 k_8 k_9
  generalize (w.alloc (.cells #[.int .i64 k, .int .i64 ca, .int .i64 tb, .int .i64 so, .int .i64 tx, .int .i64 sf, .slice A n c, .int .i64 net, .slice T m d, .int .i64 pay] 37)) = w1 at *
  have R1 := Below.refl w1.heap.size w1
  go_loopw [5, 6, 28] (fun a b q W => ∃ i : Nat, i ≤ n ∧ a = .int .i64 (tsm X i) ∧ b = .int .i64 (tsm Y i) ∧ q = .int .i64 i ∧ okT X Y i = true ∧ Below w1.heap.size w1 W) (fun _ _ q _ => n - (intOf q).toNat)
  case atStart => exact ⟨0, Nat.zero_le _, rfl, rfl, rfl, rfl, R1⟩
  case round =>
    clear R1
    obtain ⟨i, hi, rfl, rfl, rfl, hok, hB⟩ := hrel
    by_cases hlt : i < n
    · obtain ⟨bs, os, rfl, hc⟩ := HSS.out (by omega)
      obtain ⟨x0, x1⟩ := hc i hlt
      replace x0 := cell_later hB x0
      replace x1 := cell_later hB x1
      have hil : (i : Int) < (n : Int) := by omega
      have HA := Lib.hid (okT_amt hok)
      have HS1 : Hid (tsm X (i + 1) = tsm X i + X i) := Lib.hid rfl
      have HS2 : Hid (tsm Y (i + 1) = tsm Y i + Y i) := Lib.hid rfl
      have HK : Hid (okT X Y (i + 1) = ((amtB (X i) && amtB (tsm X i + X i)) && (amtB (Y i) && amtB (tsm Y i + Y i)))) := Lib.hid (by show (okT X Y i && _) = _; rw [hok]; rfl)
      have HST : Hid (okT X Y (i + 1) = false → v = 10) := Lib.hid (fun h0 => HV.out.symm.trans (if_pos (okT_stop hlt h0)))
      have Bw := below_step B hB B.size
      clear hc hok
      generalize X i = x at *
      generalize Y i = y at *
      generalize tsm X i = sx at *
      generalize tsm Y i = sy at *
      have K1 := bx_new wr [.int .i64 x, .int .i64 y] 53
      have N1 := below_new wr (.cells #[.int .i64 x, .int .i64 y] 53)
      have N2 := below_new (wr.alloc (.cells #[.int .i64 x, .int .i64 y] 53)) (.cells #[.int .i64 x, .int .i64 y] 2)
      have cR := fun r hr => lr2 x y (wr.alloc (.cells #[.int .i64 x, .int .i64 y] 53)) 2 r hr (wr.heap.size + 1) (by simp)
      have B1 := below_step Bw N1 Bw.size
      have B2 := below_step B1 N2 B1.size
      have hB1 := below_step hB N1 hB.size
      have hB2 := below_step hB1 N2 hB1.size
      have y0 := K1.cell (i := 0) rfl
      have y1 := K1.cell (i := 1) rfl
      have K2 := K1.below N2
      have z0 := K2.cell (i := 0) rfl
      have z1 := K2.cell (i := 1) rfl
      clear N1 N2 K1
      cases q1 : (amtB x && amtB y)
      · have HF := Lib.hid (HST.out (by rw [HK.out]; revert q1; cases amtB x <;> cases amtB y <;> simp))
        replace cR := cR false q1
        clear q1
        go_wp2_with (fail)
        with_reducible refine cR.mono ?_
        rintro e w4 ⟨rfl, rfl⟩
        go_wp2
        go_ret
        exact ⟨ret_i HF.out.symm, B2⟩
      replace cR := cR true q1
      simp only [Bool.and_eq_true] at q1
      have a1 := amtB_yes q1.1
      have a2 := amtB_yes q1.2
      have a3 := amtB_yes HA.out.1
      have a4 := amtB_yes HA.out.2
      have w1' : wrap64 (sx + x) = sx + x := IntWalk.wrap64_in _ (by omega)
      have w2' : wrap64 (sy + y) = sy + y := IntWalk.wrap64_in _ (by omega)
      have HQ := Lib.hid q1
      clear q1 a1 a2 a3 a4
      go_wp2_with (fail)
      with_reducible refine cR.mono ?_
      rintro e w4 ⟨rfl, rfl⟩
      clear cR
      generalize ((wr.alloc (.cells #[.int .i64 x, .int .i64 y] 53)).alloc (.cells #[.int .i64 x, .int .i64 y] 2)) = w5 at *
      have N3 := below_new w5 (.cells #[.int .i64 (sx + x), .int .i64 (sy + y)] 2)
      have cR2 := fun r hr => lr2 (sx + x) (sy + y) w5 2 r hr w5.heap.size rfl
      have B3 := below_step B2 N3 B2.size
      have hB3 := below_step hB2 N3 hB2.size
      have K3 := K2.below N3
      have u0 := K3.cell (i := 0) rfl
      have u1 := K3.cell (i := 1) rfl
      cases q2 : (amtB (sx + x) && amtB (sy + y))
      · have HF := Lib.hid (HST.out (by rw [HK.out]; revert q2; cases amtB (sx + x) <;> cases amtB (sy + y) <;> simp))
        replace cR2 := cR2 false q2
        clear q2
        go_wp2_with (fail)
        with_reducible refine cR2.mono ?_
        rintro e w6 ⟨rfl, rfl⟩
        go_wp2
        go_ret
        exact ⟨ret_i HF.out.symm, B3⟩
      replace cR2 := cR2 true q2
      have HT : Hid (okT X Y (i + 1) = true) := Lib.hid (by
        simp only [Bool.and_eq_true] at q2
        rw [HK.out, HQ.out.1, HQ.out.2, q2.1, q2.2]; rfl)
      clear q2
      go_wp2_with (fail)
      with_reducible refine cR2.mono ?_
      rintro e w6 ⟨rfl, rfl⟩
      clear cR2
      generalize (w5.alloc (.cells #[.int .i64 (sx + x), .int .i64 (sy + y)] 2)) = w7 at *
      go_wp2
      go_quiet (fail)
      go_wp2
      go_roundw
      case rel => exact ⟨i + 1, by omega, by show Value.int .i64 (wrap64 (sx + x)) = _; rw [w1', HS1.out], by show Value.int .i64 (wrap64 (sy + y)) = _; rw [w2', HS2.out], by go_num, HT.out, below_drewN hB3 _⟩
      case measure => first | omega | (simp [intOf]; omega)
    · obtain rfl : n = i := by omega
      have hnl : ¬ (n : Int) < (n : Int) := by omega
      have HV2 := HV.out
      rw [if_neg (by rw [hok]; decide)] at HV2
      have K2 := K.below hB
      have B2 := below_step B hB B.size
      have HT2 := Lib.hid (HTT.out.below hB)
      have hsb := amtB_yes (okT_amt hok).1
      have k_0 := K2.cell (i := 0) rfl
      have k_1 := K2.cell (i := 1) rfl
      have k_2 := K2.cell (i := 2) rfl
      have k_3 := K2.cell (i := 3) rfl
      have k_4 := K2.cell (i := 4) rfl
      have k_5 := K2.cell (i := 5) rfl
      have k_6 := K2.cell (i := 6) rfl
      have k_7 := K2.cell (i := 7) rfl
      have k_8 := K2.cell (i := 8) rfl
      have k_9 := K2.cell (i := 9) rfl
      have cR := fun r hr => lr7 ca tb so tx sf net pay wr 2 r hr wr.heap.size rfl
      have N1 := below_new wr (.cells #[.int .i64 ca, .int .i64 tb, .int .i64 so, .int .i64 tx, .int .i64 sf, .int .i64 net, .int .i64 pay] 2)
      have B3 := below_step B2 N1 B2.size
      clear hok HSS hB B2
      generalize tsm X n = side at *
      generalize tsm Y n = sideY at *
      cases q1 : ((amtB ca && amtB tb && amtB so) && (amtB tx && amtB sf && amtB net && amtB pay))
      · have HF := Lib.hid (HV2.symm.trans (if_pos q1))
        replace cR := cR false q1
        clear q1 HV2 HV
        go_wp2_with (fail)
        with_reducible refine cR.mono ?_
        rintro e w4 ⟨rfl, rfl⟩
        go_wp2
        go_ret
        exact ⟨ret_i HF.out.symm, B3⟩
      rw [if_neg (by rw [q1]; decide)] at HV2
      replace cR := cR true q1
      have K3 := K2.below N1
      have HT3 := Lib.hid (HT2.out.below N1)
      have HQ := Lib.hid q1
      have HV3 := Lib.hid HV2
      clear q1 HV2 HT2 HTT HV
      go_wp2_with (fail)
      with_reducible refine cR.mono ?_
      rintro e w4 ⟨rfl, rfl⟩
      clear cR N1 K2 k_0 k_1 k_2 k_3 k_4 k_5 k_6 k_7 k_8 k_9
      generalize (wr.alloc (.cells #[.int .i64 ca, .int .i64 tb, .int .i64 so, .int .i64 tx, .int .i64 sf, .int .i64 net, .int .i64 pay] 2)) = w8 at *
      have k_6 := K3.cell (i := 6) rfl
      have k_8 := K3.cell (i := 8) rfl
      go_wp2
      clear k_6 k_8
      have R8 := Below.refl w8.heap.size w8
      go_loopw [9, 84] (fun a q W => ∃ i : Nat, i ≤ m ∧ a = .int .i64 (sumT f i) ∧ q = .int .i64 i ∧ okS f i = true ∧ Below w8.heap.size w8 W) (fun _ q _ => m - (intOf q).toNat)
      case atStart => exact ⟨0, Nat.zero_le _, rfl, rfl, rfl, R8⟩
      case round =>
        clear R8
        obtain ⟨i, hi, rfl, rfl, hok, hB⟩ := hrel
        by_cases hlt : i < m
        · obtain ⟨bt, ot, rfl, hc⟩ := HT3.out (by omega)
          obtain ⟨c0, c1, c2, c3, c4, c5⟩ := (hc i hlt).below hB
          have hil : (i : Int) < (m : Int) := by omega
          have HA := Lib.hid (okS_amt hok)
          have HS : Hid (sumT f (i + 1) = sumT f i + (f i).t) := Lib.hid rfl
          have HK : Hid (okS f (i + 1) = (amtB (f i).t && amtB (sumT f i + (f i).t))) := Lib.hid (by show (okS f i && _) = _; rw [hok]; rfl)
          have HST : Hid (okS f (i + 1) = false → v = 10) := Lib.hid (fun h0 => HV3.out.symm.trans (if_pos (okS_stop hlt h0)))
          have Bw := below_step B3 hB B3.size
          clear hc hok
          generalize sumT f i = s at *
          generalize (f i).o = x0 at *
          generalize (f i).b = x1 at *
          generalize (f i).r = x2 at *
          generalize (f i).d = x3 at *
          generalize (f i).t = x4 at *
          generalize (f i).c = x5 at *
          have K1 := bx_new wr [.int .i64 x0, .int .i64 x1, .int .i64 x2, .int .i64 x3, .int .i64 x4, .int .i64 x5] 58
          have N1 := below_new wr (.cells #[.int .i64 x0, .int .i64 x1, .int .i64 x2, .int .i64 x3, .int .i64 x4, .int .i64 x5] 58)
          have N2 := below_new (wr.alloc (.cells #[.int .i64 x0, .int .i64 x1, .int .i64 x2, .int .i64 x3, .int .i64 x4, .int .i64 x5] 58)) (.cells #[.int .i64 x4] 2)
          have cR := fun r hr => lr1 x4 (wr.alloc (.cells #[.int .i64 x0, .int .i64 x1, .int .i64 x2, .int .i64 x3, .int .i64 x4, .int .i64 x5] 58)) 2 r hr (wr.heap.size + 1) (by simp)
          have B4 := below_step Bw N1 Bw.size
          have B5 := below_step B4 N2 B4.size
          have hB1 := below_step hB N1 hB.size
          have hB2 := below_step hB1 N2 hB1.size
          have y4 := K1.cell (i := 4) rfl
          have K2 := K1.below N2
          have z4 := K2.cell (i := 4) rfl
          clear N1 N2 K1
          cases q1 : amtB x4
          · have HF := Lib.hid (HST.out (by rw [HK.out, q1]; rfl))
            replace cR := cR false q1
            clear q1
            go_wp2_with (fail)
            with_reducible refine cR.mono ?_
            rintro e w4 ⟨rfl, rfl⟩
            go_wp2
            go_ret
            exact ⟨ret_i HF.out.symm, B5⟩
          replace cR := cR true q1
          have a1 := amtB_yes q1
          have a2 := amtB_yes HA.out
          have w1' : wrap64 (s + x4) = s + x4 := IntWalk.wrap64_in _ (by omega)
          have HQ1 := Lib.hid q1
          clear q1 a1 a2
          go_wp2_with (fail)
          with_reducible refine cR.mono ?_
          rintro e w4 ⟨rfl, rfl⟩
          clear cR
          generalize ((wr.alloc (.cells #[.int .i64 x0, .int .i64 x1, .int .i64 x2, .int .i64 x3, .int .i64 x4, .int .i64 x5] 58)).alloc (.cells #[.int .i64 x4] 2)) = w5 at *
          have N3 := below_new w5 (.cells #[.int .i64 (s + x4)] 2)
          have cR2 := fun r hr => lr1 (s + x4) w5 2 r hr w5.heap.size rfl
          have B6 := below_step B5 N3 B5.size
          have hB3 := below_step hB2 N3 hB2.size
          have K5 := K2.below N3
          have u4 := K5.cell (i := 4) rfl
          cases q2 : amtB (s + x4)
          · have HF := Lib.hid (HST.out (by rw [HK.out, q2]; simp))
            replace cR2 := cR2 false q2
            clear q2
            go_wp2_with (fail)
            with_reducible refine cR2.mono ?_
            rintro e w6 ⟨rfl, rfl⟩
            go_wp2
            go_ret
            exact ⟨ret_i HF.out.symm, B6⟩
          replace cR2 := cR2 true q2
          have HT : Hid (okS f (i + 1) = true) := Lib.hid (by rw [HK.out, HQ1.out, q2]; rfl)
          clear q2
          go_wp2_with (fail)
          with_reducible refine cR2.mono ?_
          rintro e w6 ⟨rfl, rfl⟩
          clear cR2
          generalize (w5.alloc (.cells #[.int .i64 (s + x4)] 2)) = w7 at *
          go_wp2
          refine ⟨⟨i + 1, by omega, by rw [HS.out]; first | rfl | (show Value.int .i64 (wrap64 (s + x4)) = _; rw [w1']), by go_num, HT.out, hB3⟩, ?_⟩
          simp [intOf]; omega
        · obtain rfl : m = i := by omega
          have hnl : ¬ (m : Int) < (m : Int) := by omega
          have HV4 := HV3.out
          rw [if_neg (by rw [hok]; decide)] at HV4
          have K9 := K3.below hB
          have B4 := below_step B3 hB B3.size
          have hss := amtB_yes (okS_amt hok)
          have hq := HQ.out
          simp only [Bool.and_eq_true] at hq
          obtain ⟨⟨⟨a1, _⟩, _⟩, ⟨⟨a2, _⟩, a3⟩, a4⟩ := hq
          replace a1 := amtB_yes a1
          replace a2 := amtB_yes a2
          replace a3 := amtB_yes a3
          replace a4 := amtB_yes a4
          have k_1 := K9.cell (i := 1) rfl
          have k_4 := K9.cell (i := 4) rfl
          have k_7 := K9.cell (i := 7) rfl
          have k_9 := K9.cell (i := 9) rfl
          clear hok HT3 hB B3 K9 HQ HV3
          generalize sumT f m = sm at *
          have w1' : wrap64 (ca - tx) = ca - tx := IntWalk.wrap64_in _ (by omega)
          have w2' : wrap64 (ca - tx - side) = ca - tx - side := IntWalk.wrap64_in _ (by omega)
          have w3' : wrap64 (net - sm) = net - sm := IntWalk.wrap64_in _ (by omega)
          by_cases e1 : net = ca - tx - side
          rotate_left
          · have HR : Hid (v = 5) := Lib.hid (HV4.symm.trans (if_neg (fun h => e1 h.1)))
            have t4 : (ca - tx - side != net) = true := by simp; exact fun h => e1 h.symm
            clear HV4 e1 a1 a2 a3 a4 hsb hss
            go_wp2
            go_ret
            exact ⟨ret_i HR.out.symm, B4⟩
          have t4 : (ca - tx - side != net) = false := by simp [e1]
          by_cases e2 : pay = net - sm
          rotate_left
          · have HR : Hid (v = 5) := Lib.hid (HV4.symm.trans (if_neg (fun h => e2 h.2)))
            have t5 : (net - sm != pay) = true := by simp; exact fun h => e2 h.symm
            clear HV4 e1 e2 a1 a2 a3 a4 hsb hss
            go_wp2
            go_ret
            exact ⟨ret_i HR.out.symm, B4⟩
          have HR : Hid (v = 0) := Lib.hid (HV4.symm.trans (if_pos ⟨e1, e2⟩))
          have t5 : (net - sm != pay) = false := by simp [e2]
          clear HV4 e1 e2 a1 a2 a3 a4 hsb hss
          go_wp2
          go_ret
          exact ⟨ret_i HR.out.symm, B4⟩
end Go.Proofs.Ytfnjhalpedccaaa
