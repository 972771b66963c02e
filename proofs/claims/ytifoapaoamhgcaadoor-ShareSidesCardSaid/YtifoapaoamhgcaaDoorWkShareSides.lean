/- The walk of the law ShareSides. -/
import Derived.Test.YtifoapaoamhgcaaDoorShrE
import Derived.Test.YtifoapaoamhgcaaDoorOpenR
namespace Go.Proofs.YtifoapaoamhgcaaDoor
open Go.RowKit Go.Sort
set_option linter.unusedVariables false
set_option linter.unusedSimpArgs false

theorem lr_one (u v : Int) (r : Bool) (hr : (amtB u && amtB v) = r) (w : World) (n : Nat) (t : TypeId) (hn : w.heap.size = n) :
    Calls Tryd.prog 10 #[.slice (some ⟨n, 0, none⟩) 1 1] (w.alloc (.cells #[.int .i64 u, .int .i64 v] t)) fun e w' => e = .returned (.bool r) ∧ Below w.heap.size w w' := by
  have K := bx_at w [.int .i64 u, .int .i64 v] t hn
  have := lright_any (some ⟨n, 0, none⟩) 1 1 _ _ _ (shs_one K) (by omega)
  rw [show allS (fun _ => u) (fun _ => v) 1 = r by simp [allS, hr]] at this
  exact this.mono fun e w' hh => ⟨hh.1, below_step (below_new _ _) hh.2 (by simp)⟩
theorem okT_mono {X Y : Nat → Int} {k n : Nat} (hk : k < n) (h : okT X Y n = true) : okT X Y (k + 1) = true := by
  cases hq : okT X Y (k + 1)
  · rw [okT_stop hk hq] at h; cases h
  · rfl
set_option maxRecDepth 100000 in
set_option maxHeartbeats 8000000 in
theorem sh_long (A : Option Addr) (n q : Nat) (X Y : Nat → Int) (x : Int) (w : World) (hT : Tab w) (h : Shs w A n X Y) (hn : 60 < n) :
    Calls Tryd.prog 5 #[.slice A n q, .int .i64 x] w fun e w' => e = .returned (.bool true) ∧ Below w.heap.size w w' := by
  have q0 : decide (60 < (n : Int)) = true := decide_eq_true (by omega)
  go_enter Tryd.func5, Tryd.ntmps5
  go_wp2_with (fail)
  with_reducible refine (posts_any _ hT).mono ?_
  rintro e w1 ⟨rfl, B1⟩
  go_wp2
  go_ret
  exact ⟨rfl, B1⟩
set_option maxRecDepth 100000 in
set_option maxHeartbeats 8000000 in
theorem sh_ok (A : Option Addr) (n q : Nat) (X Y : Nat → Int) (x : Int) (w : World) (hT : Tab w) (h : Shs w A n X Y) (hn : ¬ 60 < n) (ho : okT X Y n = true) :
    Calls Tryd.prog 5 #[.slice A n q, .int .i64 x] w fun e w' => e = .returned (.bool true) ∧ Below w.heap.size w w' := by
  have q0 : decide (60 < (n : Int)) = false := decide_eq_false (by omega)
  have q00 : ¬ 60 < n := by omega
  go_enter Tryd.func5, Tryd.ntmps5
  go_wp2_with (fail)
  with_reducible refine (posts_any _ hT).mono ?_
  rintro e w1 ⟨rfl, B1⟩
  have h1 := h.below B1
  have cS := sides_any A n q w1 X Y h1 (by omega)
  rw [totV_is] at cS
  have cE := fun w h => empl_any A n q w X Y h (by omega)
  have cR := fun w h => empr_any A n q w X Y h (by omega)
  have cC := fun w h => cost_ok x A n q w X Y h (by omega) ho (amtB x && amtB (tsm Y n) && amtB (x + tsm Y n)) rfl
  have cA := fun w => add_any x (tsm Y n) w (amtB x && amtB (tsm Y n) && amtB (x + tsm Y n)) rfl
  rw [show tot0 X Y X n = tsm X n by simp [tot0, ho], show tot0 X Y Y n = tsm Y n by simp [tot0, ho], show totE X Y n = 0 by simp [totE, ho]] at cS
  simp only [show tot0 X Y X n = tsm X n by simp [tot0, ho], show totE X Y n = 0 by simp [totE, ho]] at cE
  simp only [show tot0 X Y Y n = tsm Y n by simp [tot0, ho], show totE X Y n = 0 by simp [totE, ho]] at cR
  generalize (if (amtB x && amtB (tsm Y n) && amtB (x + tsm Y n)) = true then x + tsm Y n else 0) = cv at *
  generalize (if (amtB x && amtB (tsm Y n) && amtB (x + tsm Y n)) = true then (0 : Int) else 10) = ce at *
  have HOK := Lib.hid ho
  clear ho hT
  go_wp2_with (fail)
  with_reducible refine cS.mono ?_
  rintro e w2 ⟨rfl, NB⟩
  have h2 := h1.below NB
  have B2 := below_step B1 NB B1.size
  have K5 := bx_new w2 [.int .i64 (tsm X n), .int .i64 (tsm Y n)] 29
  have NB2 := below_new w2 (.cells #[.int .i64 (tsm X n), .int .i64 (tsm Y n)] 29)
  have h3 := h2.below NB2
  have B3 := below_step B2 NB2 B2.size
  clear h1 h2 cS NB NB2 B1 B2
  go_wp2_with (fail)
  with_reducible refine (cE _ h3).mono ?_
  rintro e w3 ⟨rfl, NB⟩
  have h4 := h3.below NB
  have B4 := below_step B3 NB B3.size
  replace K5 := K5.below NB
  clear h3 cE NB B3
  go_wp2_with (fail)
  with_reducible refine (cR _ h4).mono ?_
  rintro e w4 ⟨rfl, NB⟩
  have h5 := h4.below NB
  have B5 := below_step B4 NB B4.size
  replace K5 := K5.below NB
  clear h4 cR NB B4
  go_wp2_with (fail)
  with_reducible refine (cC _ h5).mono ?_
  rintro e w5 ⟨rfl, NB⟩
  have h6 := h5.below NB
  have B6 := below_step B5 NB B5.size
  replace K5 := K5.below NB
  have K5b := K5
  have K6 := bx_new w5 [.int .i64 0, .int .i64 0] 29
  have NB2 := below_new w5 (.cells #[.int .i64 0, .int .i64 0] 29)
  have B7 := below_step B6 NB2 B6.size
  replace K5 := K5.below NB2
  have h5lt0 := K5b.lt
  have hlt52 : w2.heap.size < w5.heap.size := h5lt0
  clear h5 h6 cC NB NB2 B5 h5lt0 K5b
  go_wp2
  generalize w5.alloc (.cells #[.int .i64 0, .int .i64 0] 29) = w6 at *
  have hbw := B6.size
  generalize w5.heap.size = bw at *
  generalize w2.heap.size = bs at *
  clear B6
  go_loopw [46] (fun k W => ∃ i : Nat, i ≤ n ∧ k = .int .i64 i ∧ okT X Y i = true ∧ Bx W bw 29 [.int .i64 (tsm X i), .int .i64 (tsm Y i)] ∧ Bx W bs 29 [.int .i64 (tsm X n), .int .i64 (tsm Y n)] ∧ Below w.heap.size w W) (fun k _ => n - (intOf k).toNat)
  case atStart => exact ⟨0, Nat.zero_le _, rfl, rfl, K6, K5, B7⟩
  case round =>
    clear K6 K5 B7
    obtain ⟨i, hi, rfl, hok, K6, K5, hB⟩ := hrel
    by_cases hlt : i < n
    · obtain ⟨b, o, rfl, hc⟩ := id (h (by omega))
      obtain ⟨c0, c1⟩ := hc i hlt
      replace c0 := cell_later hB c0
      replace c1 := cell_later hB c1
      have HSU : Hid (okT X Y (i + 1) = (okT X Y i && ((amtB (X i) && amtB (tsm X i + X i)) && (amtB (Y i) && amtB (tsm Y i + Y i))))) := Lib.hid rfl
      have hts : Hid (tsm X (i + 1) = tsm X i + X i ∧ tsm Y (i + 1) = tsm Y i + Y i) := Lib.hid ⟨rfl, rfl⟩
      have hil : (i : Int) < (n : Int) := by omega
      obtain ⟨am1, am2⟩ := okT_amt hok
      have am3 := amtB_yes am1
      have am4 := amtB_yes am2
      have HOI := Lib.hid hok
      have HMO := Lib.hid (okT_mono hlt HOK.out)
      have h6lt := K6.lt
      have K8 := bx_new wr [.int .i64 (X i), .int .i64 (Y i)] 29
      have NB := below_new wr (.cells #[.int .i64 (X i), .int .i64 (Y i)] 29)
      replace K6 := K6.below NB
      replace K5 := K5.below NB
      have B8 := below_step hB NB hB.size
      have k8_0 := K8.cell (i := 0) rfl
      have k8_1 := K8.cell (i := 1) rfl
      have cL := fun r hr W nn t hn => lr_one (X i) (Y i) r hr W nn t hn
      have cM := fun r hr W nn t hn => lr_one (tsm X i + X i) (tsm Y i + Y i) r hr W nn t hn
      clear hc hok am1 am2 NB h hB
      generalize X i = xi at *
      generalize Y i = yi at *
      generalize tsm X i = u at *
      generalize tsm Y i = v at *
      have HSZ := Lib.hid (show (wr.alloc (.cells #[.int .i64 xi, .int .i64 yi] 29)).heap.size = wr.heap.size + 1 by simp)
      go_wp2_with (fail)
      generalize wr.alloc (.cells #[.int .i64 xi, .int .i64 yi] 29) = W8 at *
      generalize wr.heap.size = xb at *
      clear c0 c1
      cases hq1 : amtB xi && amtB yi
      · exfalso
        have := HMO.out
        rw [HSU.out] at this
        simp only [Bool.and_eq_true] at this
        rw [this.2.1.1, this.2.2.1] at hq1
        cases hq1
      · have hq1' := hq1
        simp only [Bool.and_eq_true] at hq1
        have x1 := amtB_yes hq1.1
        have x2 := amtB_yes hq1.2
        have hw0 : wrap64 (u + xi) = u + xi := IntWalk.wrap64_in _ (by omega)
        have hw1 : wrap64 (v + yi) = v + yi := IntWalk.wrap64_in _ (by omega)
        with_reducible refine (cL true hq1' W8 (xb + 1) _ HSZ.out).mono ?_
        rintro e wa ⟨rfl, NB⟩
        replace K8 := K8.below NB
        replace K6 := K6.below NB
        replace K5 := K5.below NB
        have B9 := below_step B8 NB B8.size
        clear NB cL B8 k8_0 k8_1
        have k8_0 := K8.cell (i := 0) rfl
        have k8_1 := K8.cell (i := 1) rfl
        have k6_0 := K6.cell (i := 0) rfl
        have k6_1 := K6.cell (i := 1) rfl
        have f6_0 := K6.fr 0
        have f6_1 := K6.fr 1
        have Z6 := (K6.set 0 (.int .i64 (u + xi))).set 1 (.int .i64 (v + yi))
        have Z5 := (K5.other (q := bw) (by omega) 0 (.int .i64 (u + xi))).other (q := bw) (by omega) 1 (.int .i64 (v + yi))
        have BZ := (B9.setCell (p := ⟨bw, 0, none⟩) (by show w.heap.size ≤ bw; omega) (.int .i64 (u + xi))).setCell (p := ⟨bw, 1, none⟩) (by show w.heap.size ≤ bw; omega) (.int .i64 (v + yi))
        have z6_0 := Z6.cell (i := 0) rfl
        have z6_1 := Z6.cell (i := 1) rfl
        clear K8 K6 K5 B9
        have HSW := Lib.hid (show ((wa.setCell ⟨bw, 0, none⟩ (.int .i64 (u + xi))).setCell ⟨bw, 1, none⟩ (.int .i64 (v + yi))).heap.size = wa.heap.size by simp [World.setCell])
        go_wp2_with (fail)
        generalize (wa.setCell ⟨bw, 0, none⟩ (.int .i64 (u + xi))).setCell ⟨bw, 1, none⟩ (.int .i64 (v + yi)) = wz at *
        clear k8_0 k8_1 k6_0 k6_1 f6_0 f6_1
        cases hq2 : amtB (u + xi) && amtB (v + yi)
        · exfalso
          have := HMO.out
          rw [HSU.out] at this
          simp only [Bool.and_eq_true] at this
          rw [this.2.1.2, this.2.2.2] at hq2
          cases hq2
        · with_reducible refine (cM true hq2 wz wa.heap.size _ HSW.out).mono ?_
          rintro e wc ⟨rfl, NB⟩
          have HN : Hid (okT X Y (i + 1) = true) := Lib.hid (by
            simp only [Bool.and_eq_true] at hq2
            rw [HSU.out, HOI.out, hq1.1, hq1.2, hq2.1, hq2.2]; rfl)
          replace Z6 := Z6.below NB
          replace Z5 := Z5.below NB
          have BC := below_step BZ NB BZ.size
          clear hq1 hq1' hq2 cM z6_0 z6_1 NB
          go_wp2
          refine ⟨⟨i + 1, by omega, by go_num, HN.out, by rw [hts.out.1, hts.out.2]; exact Z6, Z5, BC⟩, ?_⟩
          simp [intOf]; omega
    · obtain rfl : i = n := by omega
      have hnl : ¬ (i : Int) < (i : Int) := by omega
      have k6_0 := K6.cell (i := 0) rfl
      have k6_1 := K6.cell (i := 1) rfl
      have k5_0 := K5.cell (i := 0) rfl
      have k5_1 := K5.cell (i := 1) rfl
      clear h hok
      generalize tsm X i = u at *
      generalize tsm Y i = v at *
      go_wp2_with (fail)
      with_reducible refine (cA _).mono ?_
      rintro e wb ⟨rfl, NB⟩
      have BE := below_step hB NB hB.size
      go_wp2
      go_ret
      exact ⟨rfl, BE⟩
set_option maxRecDepth 100000 in
set_option maxHeartbeats 8000000 in
theorem sh_bad (A : Option Addr) (n q : Nat) (X Y : Nat → Int) (x : Int) (w : World) (hT : Tab w) (h : Shs w A n X Y) (hn : ¬ 60 < n) (ho : okT X Y n = false) :
    Calls Tryd.prog 5 #[.slice A n q, .int .i64 x] w fun e w' => e = .returned (.bool true) ∧ Below w.heap.size w w' := by
  have q0 : decide (60 < (n : Int)) = false := decide_eq_false (by omega)
  have q00 : ¬ 60 < n := by omega
  go_enter Tryd.func5, Tryd.ntmps5
  go_wp2_with (fail)
  with_reducible refine (posts_any _ hT).mono ?_
  rintro e w1 ⟨rfl, B1⟩
  have h1 := h.below B1
  have cS := sides_any A n q w1 X Y h1 (by omega)
  rw [totV_is] at cS
  have cE := fun w h => empl_any A n q w X Y h (by omega)
  have cR := fun w h => empr_any A n q w X Y h (by omega)
  have cC := fun w h => cost_bad x A n q w X Y h (by omega) ho
  rw [show tot0 X Y X n = 0 by simp [tot0, ho], show tot0 X Y Y n = 0 by simp [tot0, ho], show totE X Y n = 10 by simp [totE, ho]] at cS
  simp only [show tot0 X Y X n = 0 by simp [tot0, ho], show totE X Y n = 10 by simp [totE, ho]] at cE
  simp only [show tot0 X Y Y n = 0 by simp [tot0, ho], show totE X Y n = 10 by simp [totE, ho]] at cR
  have HOK := Lib.hid ho
  clear ho hT
  go_wp2_with (fail)
  with_reducible refine cS.mono ?_
  rintro e w2 ⟨rfl, NB⟩
  have h2 := h1.below NB
  have B2 := below_step B1 NB B1.size
  have K5 := bx_new w2 [.int .i64 0, .int .i64 0] 29
  have NB2 := below_new w2 (.cells #[.int .i64 0, .int .i64 0] 29)
  have h3 := h2.below NB2
  have B3 := below_step B2 NB2 B2.size
  clear h1 h2 cS NB NB2 B1 B2
  go_wp2_with (fail)
  with_reducible refine (cE _ h3).mono ?_
  rintro e w3 ⟨rfl, NB⟩
  have h4 := h3.below NB
  have B4 := below_step B3 NB B3.size
  replace K5 := K5.below NB
  clear h3 cE NB B3
  go_wp2_with (fail)
  with_reducible refine (cR _ h4).mono ?_
  rintro e w4 ⟨rfl, NB⟩
  have h5 := h4.below NB
  have B5 := below_step B4 NB B4.size
  replace K5 := K5.below NB
  clear h4 cR NB B4
  go_wp2_with (fail)
  with_reducible refine (cC _ h5).mono ?_
  rintro e w5 ⟨rfl, NB⟩
  have h6 := h5.below NB
  have B6 := below_step B5 NB B5.size
  replace K5 := K5.below NB
  have K5b := K5
  have K6 := bx_new w5 [.int .i64 0, .int .i64 0] 29
  have NB2 := below_new w5 (.cells #[.int .i64 0, .int .i64 0] 29)
  have B7 := below_step B6 NB2 B6.size
  replace K5 := K5.below NB2
  have h5lt0 := K5b.lt
  have hlt52 : w2.heap.size < w5.heap.size := h5lt0
  clear h5 h6 cC NB NB2 B5 h5lt0 K5b
  go_wp2
  generalize w5.alloc (.cells #[.int .i64 0, .int .i64 0] 29) = w6 at *
  have hbw := B6.size
  generalize w5.heap.size = bw at *
  generalize w2.heap.size = bs at *
  clear B6
  go_loopw [46] (fun k W => ∃ i : Nat, i ≤ n ∧ k = .int .i64 i ∧ okT X Y i = true ∧ Bx W bw 29 [.int .i64 (tsm X i), .int .i64 (tsm Y i)] ∧ Bx W bs 29 [.int .i64 0, .int .i64 0] ∧ Below w.heap.size w W) (fun k _ => n - (intOf k).toNat)
  case atStart => exact ⟨0, Nat.zero_le _, rfl, rfl, K6, K5, B7⟩
  case round =>
    clear K6 K5 B7
    obtain ⟨i, hi, rfl, hok, K6, K5, hB⟩ := hrel
    by_cases hlt : i < n
    · obtain ⟨b, o, rfl, hc⟩ := id (h (by omega))
      obtain ⟨c0, c1⟩ := hc i hlt
      replace c0 := cell_later hB c0
      replace c1 := cell_later hB c1
      have HSU : Hid (okT X Y (i + 1) = (okT X Y i && ((amtB (X i) && amtB (tsm X i + X i)) && (amtB (Y i) && amtB (tsm Y i + Y i))))) := Lib.hid rfl
      have hts : Hid (tsm X (i + 1) = tsm X i + X i ∧ tsm Y (i + 1) = tsm Y i + Y i) := Lib.hid ⟨rfl, rfl⟩
      have hil : (i : Int) < (n : Int) := by omega
      obtain ⟨am1, am2⟩ := okT_amt hok
      have am3 := amtB_yes am1
      have am4 := amtB_yes am2
      have HOI := Lib.hid hok
      have h6lt := K6.lt
      have K8 := bx_new wr [.int .i64 (X i), .int .i64 (Y i)] 29
      have NB := below_new wr (.cells #[.int .i64 (X i), .int .i64 (Y i)] 29)
      replace K6 := K6.below NB
      replace K5 := K5.below NB
      have B8 := below_step hB NB hB.size
      have k8_0 := K8.cell (i := 0) rfl
      have k8_1 := K8.cell (i := 1) rfl
      have cL := fun r hr W nn t hn => lr_one (X i) (Y i) r hr W nn t hn
      have cM := fun r hr W nn t hn => lr_one (tsm X i + X i) (tsm Y i + Y i) r hr W nn t hn
      clear hc hok am1 am2 NB h hB
      generalize X i = xi at *
      generalize Y i = yi at *
      generalize tsm X i = u at *
      generalize tsm Y i = v at *
      have HSZ := Lib.hid (show (wr.alloc (.cells #[.int .i64 xi, .int .i64 yi] 29)).heap.size = wr.heap.size + 1 by simp)
      go_wp2_with (fail)
      generalize wr.alloc (.cells #[.int .i64 xi, .int .i64 yi] 29) = W8 at *
      generalize wr.heap.size = xb at *
      clear c0 c1
      cases hq1 : amtB xi && amtB yi
      · with_reducible refine (cL false hq1 W8 (xb + 1) _ HSZ.out).mono ?_
        rintro e wb ⟨rfl, NB⟩
        have BE := below_step B8 NB B8.size
        clear NB hq1
        go_wp2
        go_ret
        exact ⟨rfl, BE⟩
      · have hq1' := hq1
        simp only [Bool.and_eq_true] at hq1
        have x1 := amtB_yes hq1.1
        have x2 := amtB_yes hq1.2
        have hw0 : wrap64 (u + xi) = u + xi := IntWalk.wrap64_in _ (by omega)
        have hw1 : wrap64 (v + yi) = v + yi := IntWalk.wrap64_in _ (by omega)
        with_reducible refine (cL true hq1' W8 (xb + 1) _ HSZ.out).mono ?_
        rintro e wa ⟨rfl, NB⟩
        replace K8 := K8.below NB
        replace K6 := K6.below NB
        replace K5 := K5.below NB
        have B9 := below_step B8 NB B8.size
        clear NB cL B8 k8_0 k8_1
        have k8_0 := K8.cell (i := 0) rfl
        have k8_1 := K8.cell (i := 1) rfl
        have k6_0 := K6.cell (i := 0) rfl
        have k6_1 := K6.cell (i := 1) rfl
        have f6_0 := K6.fr 0
        have f6_1 := K6.fr 1
        have Z6 := (K6.set 0 (.int .i64 (u + xi))).set 1 (.int .i64 (v + yi))
        have Z5 := (K5.other (q := bw) (by omega) 0 (.int .i64 (u + xi))).other (q := bw) (by omega) 1 (.int .i64 (v + yi))
        have BZ := (B9.setCell (p := ⟨bw, 0, none⟩) (by show w.heap.size ≤ bw; omega) (.int .i64 (u + xi))).setCell (p := ⟨bw, 1, none⟩) (by show w.heap.size ≤ bw; omega) (.int .i64 (v + yi))
        have z6_0 := Z6.cell (i := 0) rfl
        have z6_1 := Z6.cell (i := 1) rfl
        clear K8 K6 K5 B9
        have HSW := Lib.hid (show ((wa.setCell ⟨bw, 0, none⟩ (.int .i64 (u + xi))).setCell ⟨bw, 1, none⟩ (.int .i64 (v + yi))).heap.size = wa.heap.size by simp [World.setCell])
        go_wp2_with (fail)
        generalize (wa.setCell ⟨bw, 0, none⟩ (.int .i64 (u + xi))).setCell ⟨bw, 1, none⟩ (.int .i64 (v + yi)) = wz at *
        clear k8_0 k8_1 k6_0 k6_1 f6_0 f6_1
        cases hq2 : amtB (u + xi) && amtB (v + yi)
        · with_reducible refine (cM false hq2 wz wa.heap.size _ HSW.out).mono ?_
          rintro e wb ⟨rfl, NB⟩
          have BE := below_step BZ NB BZ.size
          clear NB hq1 hq2
          go_wp2
          go_ret
          exact ⟨rfl, BE⟩
        · with_reducible refine (cM true hq2 wz wa.heap.size _ HSW.out).mono ?_
          rintro e wc ⟨rfl, NB⟩
          have HN : Hid (okT X Y (i + 1) = true) := Lib.hid (by
            simp only [Bool.and_eq_true] at hq2
            rw [HSU.out, HOI.out, hq1.1, hq1.2, hq2.1, hq2.2]; rfl)
          replace Z6 := Z6.below NB
          replace Z5 := Z5.below NB
          have BC := below_step BZ NB BZ.size
          clear hq1 hq1' hq2 cM z6_0 z6_1 NB
          go_wp2
          refine ⟨⟨i + 1, by omega, by go_num, HN.out, by rw [hts.out.1, hts.out.2]; exact Z6, Z5, BC⟩, ?_⟩
          simp [intOf]; omega
    · obtain rfl : i = n := by omega
      have hnl : ¬ (i : Int) < (i : Int) := by omega
      exact absurd hok (by rw [HOK.out]; simp)
theorem wShareSides (A : Option Addr) (n q : Nat) (X Y : Nat → Int) (x : Int) (w : World) (hT : Tab w) (h : Shs w A n X Y) (hn : n ≤ 9223372036854775807) (hf : ∀ i, i < n → fitI (X i) ∧ fitI (Y i)) (hx : -9223372036854775808 ≤ x ∧ x ≤ 9223372036854775807) :
    Calls Tryd.prog 5 #[.slice A n q, .int .i64 x] w fun e w' => e = .returned (.bool true) ∧ Below w.heap.size w w' := by
  by_cases hn : 60 < n
  · exact sh_long A n q X Y x w hT h hn
  · cases ho : okT X Y n
    · exact sh_bad A n q X Y x w hT h hn ho
    · exact sh_ok A n q X Y x w hT h hn ho
end Go.Proofs.YtifoapaoamhgcaaDoor
