/- The law PieceAdds, walked. -/
import Derived.Test.YtcldknmhmbpboaaPcW
namespace Go.Proofs.Ytcldknmhmbpboaa
open Go.RowKit Go.Sort
set_option linter.unusedVariables false
set_option linter.unusedSimpArgs false

theorem nr_at {W : World} {A : Option Addr} {n : Nat} (h : Nr W A n) {i : Nat} (hi : i < n) : ∃ b o y, A = some ⟨b, o, none⟩ ∧ W.cell? ⟨b, o + i, none⟩ = some (.int .i64 y) ∧ 0 ≤ y ∧ y ≤ 10000000000 := by
  obtain ⟨b, o, e, hc⟩ := h (by omega)
  obtain ⟨y, h1, h2⟩ := hc i hi
  exact ⟨b, o, y, e, h1, h2⟩
set_option maxHeartbeats 8000000 in
set_option maxRecDepth 100000 in
theorem adds_ok (A B : Option Addr) (c d : Nat) (f g : Lf) (t : Int) (w : World) (h : Lm w A f) (h2 : Lm w B g) (hn : f.n ≤ 60) (hm : g.n ≤ 60) (hf : f.chk = 0) (hg : g.chk = 0) (ht : t = -1 ∨ t = 0 ∨ t = 1) :
    Calls Try.prog 4 #[.slice A f.n c, .slice B g.n d, .int .i64 t] w fun e w' => e = .returned (.bool true) ∧ Below w.heap.size w w' := by
  have d0 : decide (60 < (f.n : Int)) = false := by simp; omega
  have d1 : decide (60 < (g.n : Int)) = false := by simp; omega
  have d2 : decide (t < -1) = false := by simp; omega
  have d3 : decide (1 < t) = false := by simp; omega
  have cS := fun W h1 h2 => add_cap A B c d f g t W h1 h2 hf hg ht
  have cW := fun W hh => wrong_any A c f W hh (by omega)
  have cV := fun W hh => wrong_any B d g W hh (by omega)
  rw [hf] at cW
  rw [hg] at cV
  have kf := Lf.chk_zero hf
  have kg := Lf.chk_zero hg
  have HF := Lib.hid (And.intro kf (And.intro kg ht))
  have H := Lib.hid (And.intro h h2)
  have hn1 := kf.n1
  have hm1 := kg.n1
  clear hf hg h h2 kf kg ht
  go_enter Try.func4, Try.ntmps4
  go_wp2_with (fail)
  refine (goes_any _).mono ?_
  rintro e w1 ⟨rfl, hb1⟩
  go_wp2_with (fail)
  refine (cS _ (H.out.1.below hb1) (H.out.2.below hb1)).mono ?_
  rintro e w2 ⟨s, HR, hsn, hG, hcase, hb2⟩
  have B2 := below_step hb1 hb2 hb1.size
  have hs120 : s.n ≤ 120 := by omega
  rcases hcase with ⟨hz, SA, sc, rfl, LS, hcap⟩ | ⟨hz, rfl⟩
  · have cZ := fun W hh => wrong_any SA sc s W hh (by omega)
    rw [hz] at cZ
    have ks := Lf.chk_zero hz
    have HS := Lib.hid (And.intro ks HR)
    have hs1 := ks.n1
    clear hz ks HR hG cS
    go_wp2_with (fail)
    refine (cW _ (H.out.1.below B2)).mono ?_
    rintro e w3 ⟨rfl, hb3⟩
    have B3 := below_step B2 hb3 B2.size
    go_wp2_with (fail)
    refine (cV _ (H.out.2.below B3)).mono ?_
    rintro e w4 ⟨rfl, hb4⟩
    have B4 := below_step B3 hb4 B3.size
    have L4 := (LS.below hb3).below hb4
    go_wp2_with (fail)
    refine (near_any A B c d f g _ (H.out.1.below B4) (H.out.2.below B4) HF.out.1.rk HF.out.2.1.rk ⟨hn1, by omega⟩ ⟨hm1, by omega⟩).mono ?_
    rintro e w5 ⟨NA, nn, nc, xs, rfl, hnn, hNo, hNx, hb5⟩
    have N5 := nr_own hNo hNx
    have B5 := below_step B4 hb5 B4.size
    have L5 := Lib.hid (L4.below hb5)
    have HN5 := Lib.hid N5
    have BB5 := Lib.hid B5
    have hself := Below.refl w5.heap.size w5
    clear cW cV hb1 hb2 hb3 hb4 hb5 B2 B3 B4 L4 LS hNo hNx N5 B5
    go_wp2
    go_loopw [85] (fun k W => ∃ i : Nat, i ≤ nn ∧ k = .int .i64 i ∧ Below w5.heap.size w5 W) (fun k _ => nn - (intOf k).toNat)
    case atStart => exact ⟨0, Nat.zero_le _, rfl, hself⟩
    case round =>
      clear hself
      obtain ⟨i, hi, rfl, hb⟩ := hrel
      by_cases hlt : i < nn
      · obtain ⟨nb, no, x, rfl, x0, hx0, hxT⟩ := nr_at (HN5.out.below hb) hlt
        have Bw := below_step BB5.out hb BB5.out.size
        have c1 := fun W hh => lawat_any SA sc s x W hh (by omega) HS.out.1.rk hx0 hxT
        have c2 := fun W hh => lawat_any A c f x W hh (by omega) HF.out.1.rk hx0 hxT
        have c3 := fun W hh => lawat_any B d g x W hh (by omega) HF.out.2.1.rk hx0 hxT
        have v1 := HF.out.1.val_bd hx0 hxT
        have v2 := HF.out.2.1.val_bd hx0 hxT
        have tv := Lf.t_bd (lo := 0) (hi := 4000000000000000) HF.out.2.2 (x := g.val x) (by omega) (by omega) (by omega)
        have hsv := HS.out.2.val_is hx0 hxT
        unfold Lf.smH at hsv
        obtain ⟨ty, hty⟩ : ∃ ty, t * g.val x = ty := ⟨_, rfl⟩
        rw [hty] at tv hsv
        have u1 : IntKind.i64.wrap (t * g.val x) = ty := (IntWalk.i64_in _ (by omega)).trans hty
        have u2 : IntKind.i64.wrap (f.val x + ty) = f.val x + ty := IntWalk.i64_in _ (by omega)
        rw [hsv] at c1
        have e1 : ((f.val x + ty) != (f.val x + ty)) = false := by simp
        have LL := L5.out.below hb
        have LF := H.out.1.below Bw
        have LG := H.out.2.below Bw
        clear hx0 hxT v1 v2 tv hsv hty Bw
        generalize f.val x = y1 at *
        generalize g.val x = y2 at *
        go_wp2_with (fail)
        refine (c1 _ LL).mono ?_
        rintro e w6 ⟨rfl, hb6⟩
        go_wp2_with (fail)
        refine (c2 _ (LF.below hb6)).mono ?_
        rintro e w7 ⟨rfl, hb7⟩
        go_wp2_with (fail)
        refine (c3 _ ((LG.below hb6).below hb7)).mono ?_
        rintro e w8 ⟨rfl, hb8⟩
        have B8 := below_step (below_step (below_step hb hb6 hb.size) hb7 (below_step hb hb6 hb.size).size) hb8 (below_step (below_step hb hb6 hb.size) hb7 (below_step hb hb6 hb.size).size).size
        clear hb hb6 hb7 hb8 LL LF LG c1 c2 c3 x0
        go_wp2
        go_round
        case rel => exact ⟨i + 1, Nat.succ_le_of_lt hlt, by go_num, B8⟩
        case measure => exact meas_step hlt
      · obtain rfl : i = nn := by omega
        have B6 := below_step BB5.out hb BB5.out.size
        have L6 := L5.out.below hb
        have HL6 := Lib.hid L6
        have hself := Below.refl wr.heap.size wr
        have HB6 := Lib.hid B6
        clear hb B6 L6
        go_wp2
        generalize wr = w9 at *
        go_loopw [13] (fun k W => ∃ j : Nat, 1 ≤ j ∧ j ≤ s.n ∧ k = .int .i64 j ∧ Below w9.heap.size w9 W) (fun k _ => s.n - (intOf k).toNat)
        case atStart => exact ⟨1, Nat.le_refl _, hs1, rfl, hself⟩
        case round =>
          clear hself
          obtain ⟨j, hj1, hj, rfl, hb⟩ := hrel
          by_cases hlj : j < s.n
          · have LL := HL6.out.below hb
            obtain ⟨b3, o3, rfl, c0, c1, c2⟩ := lm_at LL hlj
            obtain ⟨bb, oo, hbb, p0, p1, p2⟩ := lm_at LL (i := j - 1) (by omega)
            obtain ⟨rfl, rfl⟩ : b3 = bb ∧ o3 = oo := by simpa using hbb
            have q0 := fun d os => cell_regrown c0 d os
            have q1 := fun d os => cell_regrown c1 d os
            have q2 := fun d os => cell_regrown c2 d os
            have r2 := fun d os => cell_regrown p2 d os
            have j1 : 0 ≤ (j : Int) - 1 := by omega
            have j2 : (j : Int) - 1 < (s.n : Int) := by omega
            have j3 : ((j : Int) - 1).toNat = j - 1 := by omega
            have j4 : IntKind.i64.wrap ((j : Int) - 1) = (j : Int) - 1 := IntWalk.i64_in _ (by omega)
            have j5 : 0 ≤ (j : Int) := by omega
            have j6 : (j : Int) ≤ (sc : Int) := by omega
            have j7 : IntKind.i64.wrap ((j : Int) + 1) = (j : Int) + 1 := IntWalk.i64_in _ (by omega)
            have hfj := HS.out.1.fb j hlj
            have hmo := HS.out.1.toOrd.mono (i := j - 1) (j := j) (by omega) hlj
            have hmg := HS.out.2.mg (j - 1) (by omega)
            rw [show j - 1 + 1 = j by omega] at hmg
            have hpv := HS.out.1.toOrd.pre_at hlj (by omega) (x := s.F j) (by omega)
            have cP := fun (d : Nat) (os : Array Obj) => Calls.regrown_of (d := d) (os := os) (w := wr) (at_pre _ sc s j (s.F j) _ (LL.below (below_regrown wr d os)) (by omega) (by omega) HS.out.1.rk hfj.1 hfj.2)
            rw [hpv] at cP
            have HJ := Lib.hid hj1
            clear c0 c1 c2 p0 p1 p2 hfj hmo hpv hj1
            by_cases hr : s.R j = s.R (j - 1)
            · have t1 : (s.R j == s.R (j - 1)) = true := by simp; exact hr
              have t2 : (s.ln (j - 1) (s.F j) == s.V j) = false := by simp; exact fun e => hmg ⟨hr, e⟩
              clear hr hmg LL
              go_wp2
              refine wp_region_quiet_below mixedP (by kernel_rfl) ?_
              iterate 21 (go_big_quiet_step (fail))
              go_big_quiet_step (exact cP _ _)
              repeat (go_big_quiet_step (fail))
              refine wpQuiet_nil ?_
              intro _ hw'
              obtain ⟨⟨dq, osq⟩, hw''⟩ := hw'
              subst hw''
              have BZ := below_step hb (below_regrown wr dq osq) hb.size
              clear q0 q1 q2 r2 cP hb
              generalize grow (redrawn wr dq) osq = WZ at *
              go_wp2
              go_round
              case rel => exact ⟨j + 1, Nat.le_add_left 1 j, Nat.succ_le_of_lt hlj, by go_num, BZ⟩
              case measure => exact meas_step hlj
            · have t1 : (s.R j == s.R (j - 1)) = false := by simp; exact hr
              clear hr hmg LL
              go_wp2
              refine wp_region_quiet_below mixedP (by kernel_rfl) ?_
              repeat (go_big_quiet_step (fail))
              refine wpQuiet_nil ?_
              intro _ hw'
              obtain ⟨⟨dq, osq⟩, hw''⟩ := hw'
              subst hw''
              have BZ := below_step hb (below_regrown wr dq osq) hb.size
              clear q0 q1 q2 r2 cP hb
              generalize grow (redrawn wr dq) osq = WZ at *
              go_wp2
              go_round
              case rel => exact ⟨j + 1, Nat.le_add_left 1 j, Nat.succ_le_of_lt hlj, by go_num, BZ⟩
              case measure => exact meas_step hlj
          · obtain rfl : j = s.n := by omega
            have LL := HL6.out.below hb
            have B6 := below_step HB6.out hb HB6.out.size
            clear hb
            go_wp2_with (fail)
            refine (cZ _ LL).mono ?_
            rintro e w10 ⟨rfl, hb10⟩
            have B10 := below_step B6 hb10 B6.size
            clear LL B6 hb10 cZ
            go_wp2
            go_ret
            exact ⟨rfl, B10⟩
  · have b1 : (s.chk != 0) = true := by simp; exact hz
    have hcc := HR.ord.chk_cases (by omega)
    have b2 : (s.chk == 50) = true ∨ ((s.chk == 50) = false ∧ (s.chk == 10) = true) := by
      rcases hcc with h | h | h
      · exact absurd h hz
      · exact .inl (by simp [h])
      · exact .inr (by simp [h])
    clear hz hcc HR hG cS
    generalize s.chk = q at *
    rcases b2 with b2 | ⟨b2, b3⟩
    all_goals
      go_wp2_with (fail)
      refine (cW _ (H.out.1.below B2)).mono ?_
      rintro e w3 ⟨rfl, hb3⟩
      have B3 := below_step B2 hb3 B2.size
      go_wp2_with (fail)
      refine (cV _ (H.out.2.below B3)).mono ?_
      rintro e w4 ⟨rfl, hb4⟩
      have B4 := below_step B3 hb4 B3.size
      clear hb1 hb2 hb3 hb4 B2 B3 cW cV
      go_wp2
      go_ret
      exact ⟨rfl, B4⟩
set_option maxHeartbeats 4000000 in
set_option maxRecDepth 100000 in
theorem wPieceAdds (A : Option Addr) (c : Nat) (f : Lf) (B : Option Addr) (d : Nat) (g : Lf) (t : Int) (w : World) (h : Lm w A f) (hnc : f.n ≤ 9223372036854775807 ∧ f.n ≤ c) (h2 : Lm w B g) (hmc : g.n ≤ 9223372036854775807 ∧ g.n ≤ d) (ht1 : -9223372036854775808 ≤ t) (ht2 : t ≤ 9223372036854775807) :
    Calls Try.prog 4 #[.slice A f.n c, .slice B g.n d, .int .i64 t] w fun e w' => e = .returned (.bool true) ∧ Below w.heap.size w w' := by
  by_cases hl : 60 < f.n ∨ 60 < g.n
  · rcases (show decide (60 < (f.n : Int)) = true ∨ (decide (60 < (f.n : Int)) = false ∧ decide (60 < (g.n : Int)) = true) from by simp only [decide_eq_true_eq, decide_eq_false_iff_not]; omega) with d1 | ⟨d1, d2⟩
    all_goals
      clear hl
      go_enter Try.func4, Try.ntmps4
      go_wp2_with (fail)
      refine (goes_any _).mono ?_
      rintro e w1 ⟨rfl, hb⟩
      go_wp2
      go_ret
      exact ⟨rfl, hb⟩
  · by_cases hok : (f.chk = 0 ∧ g.chk = 0) ∧ (t = -1 ∨ t = 0 ∨ t = 1)
    · exact adds_ok A B c d f g t w h h2 (by omega) (by omega) hok.1.1 hok.1.2 hok.2
    · have d0 : decide (60 < (f.n : Int)) = false := by simp; omega
      have d1 : decide (60 < (g.n : Int)) = false := by simp; omega
      have hbad : botE f g ≠ 0 ∨ t < -1 ∨ 1 < t := by
        by_cases h1 : botE f g = 0
        · right
          have h3 : f.chk = 0 := by
            by_cases h4 : f.chk = 0
            · exact h4
            · unfold botE at h1; rw [if_neg h4] at h1; exact h1
          have h5 : g.chk = 0 := by unfold botE at h1; rw [if_pos h3] at h1; exact h1
          rcases Classical.em (t = -1 ∨ t = 0 ∨ t = 1) with h6 | h6
          · exact absurd ⟨⟨h3, h5⟩, h6⟩ hok
          · omega
        · exact .inl h1
      have cS := fun W h1 h2 => add_bad A B c d f g t W h1 h2 (by omega) (by omega) _ rfl hbad
      have cW := fun W hh => wrong_any A c f W hh (by omega)
      have cV := fun W hh => wrong_any B d g W hh (by omega)
      by_cases hf : f.chk = 0
      · by_cases hg : g.chk = 0
        · rw [show botE f g = 0 by unfold botE; rw [if_pos hf, hg], if_pos rfl] at cS
          rw [hf] at cW
          rw [hg] at cV
          have ht : t < -1 ∨ 1 < t := by
            rcases hbad with h | h
            · exact absurd (show botE f g = 0 by unfold botE; rw [if_pos hf, hg]) h
            · exact h
          rcases (show decide (t < -1) = true ∨ (decide (t < -1) = false ∧ decide (1 < t) = true) from by simp only [decide_eq_true_eq, decide_eq_false_iff_not]; omega) with d2 | ⟨d2, d3⟩
          all_goals
            clear hl hok hbad hf hg ht
            go_enter Try.func4, Try.ntmps4
            go_wp2_with (fail)
            refine (goes_any _).mono ?_
            rintro e w1 ⟨rfl, hb⟩
            go_wp2_with (fail)
            refine (cS _ (h.below hb) (h2.below hb)).mono ?_
            rintro e w2 ⟨rfl, hb2⟩
            have B2 := below_step hb hb2 hb.size
            go_wp2_with (fail)
            refine (cW _ (h.below B2)).mono ?_
            rintro e w3 ⟨rfl, hb3⟩
            have B3 := below_step B2 hb3 B2.size
            go_wp2_with (fail)
            refine (cV _ (h2.below B3)).mono ?_
            rintro e w4 ⟨rfl, hb4⟩
            have B4 := below_step B3 hb4 B3.size
            go_wp2
            go_ret
            exact ⟨rfl, B4⟩
        · have e1 : (if botE f g = 0 then (1 : Int) else botE f g) = g.chk := by
            have : botE f g = g.chk := if_pos hf
            rw [this, if_neg hg]
          rw [e1] at cS
          rw [hf] at cW
          have b1 : (g.chk != 0) = true := by simp; exact hg
          have b2 : (g.chk == g.chk) = true := by simp
          clear hl hok hbad hf hg e1
          generalize g.chk = q at *
          go_enter Try.func4, Try.ntmps4
          go_wp2_with (fail)
          refine (goes_any _).mono ?_
          rintro e w1 ⟨rfl, hb⟩
          go_wp2_with (fail)
          refine (cS _ (h.below hb) (h2.below hb)).mono ?_
          rintro e w2 ⟨rfl, hb2⟩
          have B2 := below_step hb hb2 hb.size
          go_wp2_with (fail)
          refine (cW _ (h.below B2)).mono ?_
          rintro e w3 ⟨rfl, hb3⟩
          have B3 := below_step B2 hb3 B2.size
          go_wp2_with (fail)
          refine (cV _ (h2.below B3)).mono ?_
          rintro e w4 ⟨rfl, hb4⟩
          have B4 := below_step B3 hb4 B3.size
          go_wp2
          go_ret
          exact ⟨rfl, B4⟩
      · have e1 : (if botE f g = 0 then (1 : Int) else botE f g) = f.chk := by
          have : botE f g = f.chk := if_neg hf
          rw [this, if_neg hf]
        rw [e1] at cS
        have b1 : (f.chk != 0) = true := by simp; exact hf
        have b2 : (f.chk == f.chk) = true := by simp
        clear hl hok hbad hf e1
        generalize f.chk = q at *
        go_enter Try.func4, Try.ntmps4
        go_wp2_with (fail)
        refine (goes_any _).mono ?_
        rintro e w1 ⟨rfl, hb⟩
        go_wp2_with (fail)
        refine (cS _ (h.below hb) (h2.below hb)).mono ?_
        rintro e w2 ⟨rfl, hb2⟩
        have B2 := below_step hb hb2 hb.size
        go_wp2_with (fail)
        refine (cW _ (h.below B2)).mono ?_
        rintro e w3 ⟨rfl, hb3⟩
        have B3 := below_step B2 hb3 B2.size
        go_wp2
        go_ret
        exact ⟨rfl, B3⟩
end Go.Proofs.Ytcldknmhmbpboaa
