/- The law PieceShifts, walked. -/
import Derived.Test.YtcldknmhmbpboaaPcQ
import Derived.Test.YtcldknmhmbpboaaWkPieceLeast
namespace Go.Proofs.Ytcldknmhmbpboaa
open Go.RowKit Go.Sort
set_option linter.unusedVariables false
set_option linter.unusedSimpArgs false

set_option maxHeartbeats 8000000 in
set_option maxRecDepth 100000 in
theorem shifts_far (A : Option Addr) (c : Nat) (f : Lf) (t x : Int) (w : World) (h : Lm w A f) (hn : f.n ≤ 60) (hf : f.chk = 0) (ht : t < 0 ∨ 10000000000 < t) :
    Calls Try.prog 8 #[.slice A f.n c, .int .i64 t, .int .i64 x] w fun e w' => e = .returned (.bool true) ∧ Below w.heap.size w w' := by
  have d0 : decide (60 < (f.n : Int)) = false := by simp; omega
  have cS := fun W hh => shift_bad A c f t W hh (by omega) 1 (if_pos hf) (.inr ht)
  have cW := fun W hh => wrong_any A c f W hh (by omega)
  rw [hf] at cW
  have cM := fun W hh => steepest_ok A c f W hh hf
  have HOK := Lib.hid (Lf.chk_zero hf)
  have H := Lib.hid h
  clear hf h
  go_enter Try.func8, Try.ntmps8
  go_wp2_with (fail)
  refine (goes_any _).mono ?_
  rintro e w1 ⟨rfl, hb1⟩
  go_wp2_with (fail)
  refine (cS _ (H.out.below hb1)).mono ?_
  rintro e w2 ⟨rfl, hb2⟩
  have B2 := below_step hb1 hb2 hb1.size
  go_wp2_with (fail)
  refine (cW _ (H.out.below B2)).mono ?_
  rintro e w3 ⟨rfl, hb3⟩
  have B3 := below_step B2 hb3 B2.size
  clear hb1 hb2 hb3 B2 cS cW
  have H3 := Lib.hid (H.out.below B3)
  have HB3 := Lib.hid B3
  go_wp2_with (fail)
  refine (cM _ H3.out).mono ?_
  rintro e w4 ⟨rfl, hb4⟩
  have B4 := hb4
  clear cM hb4 B3
  go_wp2
  go_loopw [12, 51] (fun s12 k W => ∃ i : Nat, i ≤ f.n ∧ s12 = .bool (f.smB (f.stM f.n) i) ∧ k = .int .i64 i ∧ Below w3.heap.size w3 W) (fun _ k _ => f.n - (intOf k).toNat)
  case atStart => exact ⟨0, Nat.zero_le _, rfl, rfl, B4⟩
  case round =>
    clear B4
    obtain ⟨i, hi, rfl, rfl, hb⟩ := hrel
    by_cases hlt : i < f.n
    · have HL0 := H3.out.below hb
      obtain ⟨b, o, rfl, c0, c1, c2⟩ := lm_at HL0 hlt
      have NX' := below_new wr (.cells #[.int .i64 (f.F i), .int .i64 (f.V i), .int .i64 (f.R i)] 37)
      have HL := Lib.hid (HL0.below NX')
      have NX := below_step hb NX' hb.size
      have w1' : IntKind.i64.wrap ((i : Int) + 1) = (i : Int) + 1 := IntWalk.i64_in _ (by omega)
      have hfi := HOK.out.fb i hlt
      clear hb NX' HL0
      by_cases e : i + 1 < f.n
      · have t0 : decide ((i : Int) + 1 < (f.n : Int)) = true := by simp; omega
        have e1 : ((i : Int) + 1).toNat = i + 1 := by omega
        obtain ⟨bb, oo, hbb, n0, _, _⟩ := lm_at HL.out e
        obtain ⟨rfl, rfl⟩ : b = bb ∧ o = oo := by simpa using hbb
        have n1 := Lf.lst_in e
        have hfe := HOK.out.fb (i + 1) e
        have w4 : IntKind.i64.wrap (f.F (i + 1) - 1) = f.F (i + 1) - 1 := IntWalk.i64_in _ (by omega)
        have i1 : (i : Int) + 1 < (f.n : Int) := by omega
        have i0 : 0 ≤ (i : Int) + 1 := by omega
        clear hfe hfi
        by_cases hw : f.F i < f.lst i
        · have eB : f.smB (f.stM f.n) (i + 1) = (f.smB (f.stM f.n) i || decide (f.R i = f.stM f.n)) := if_pos hw
          have bd := Lf.st_bd f f.n i hlt hw
          have t1 : ((f.F (i + 1) - 1) == f.F i) = false := by rw [n1] at hw; simp; omega
          have d3 : decide (f.stM f.n < f.R i) = false := by simp; omega
          have d4 : decide (f.R i < f.stL f.n) = false := by simp; omega
          clear bd hw n1
          cases hb8 : f.smB (f.stM f.n) i
          · by_cases hr : f.R i = f.stM f.n
            · have t2 : (f.R i == f.stM f.n) = true := by simp; exact hr
              have HNX := Lib.hid (show f.smB (f.stM f.n) (i + 1) = true by rw [eB, hb8]; simp [hr])
              clear hr eB
              go_wp2
              go_round
              case rel => exact ⟨i + 1, Nat.succ_le_of_lt hlt, by rw [HNX.out], by go_num, NX⟩
              case measure => exact meas_step hlt
            · have t2 : (f.R i == f.stM f.n) = false := by simp; exact hr
              have HNX := Lib.hid (show f.smB (f.stM f.n) (i + 1) = false by rw [eB, hb8]; simp [hr])
              clear hr eB
              go_wp2
              go_round
              case rel => exact ⟨i + 1, Nat.succ_le_of_lt hlt, by rw [HNX.out], by go_num, NX⟩
              case measure => exact meas_step hlt
          · have HNX := Lib.hid (show f.smB (f.stM f.n) (i + 1) = true by rw [eB, hb8]; rfl)
            clear eB
            go_wp2
            go_round
            case rel => exact ⟨i + 1, Nat.succ_le_of_lt hlt, by rw [HNX.out], by go_num, NX⟩
            case measure => exact meas_step hlt
        · have eB : f.smB (f.stM f.n) (i + 1) = f.smB (f.stM f.n) i := if_neg hw
          have hlb := HOK.out.toOrd.lst_bd hlt
          have t1 : ((f.F (i + 1) - 1) == f.F i) = true := by rw [n1] at hw hlb; simp; omega
          have HNX := Lib.hid eB
          clear eB hw hlb n1
          go_wp2
          go_round
          case rel => exact ⟨i + 1, Nat.succ_le_of_lt hlt, by rw [HNX.out], by go_num, NX⟩
          case measure => exact meas_step hlt
      · have t0 : decide ((i : Int) + 1 < (f.n : Int)) = false := by simp; omega
        have n1 := Lf.lst_out e
        clear e hfi
        by_cases hw : f.F i < f.lst i
        · have eB : f.smB (f.stM f.n) (i + 1) = (f.smB (f.stM f.n) i || decide (f.R i = f.stM f.n)) := if_pos hw
          have bd := Lf.st_bd f f.n i hlt hw
          have t1 : ((10000000000) == f.F i) = false := by rw [n1] at hw; simp; omega
          have d3 : decide (f.stM f.n < f.R i) = false := by simp; omega
          have d4 : decide (f.R i < f.stL f.n) = false := by simp; omega
          clear bd hw n1
          cases hb8 : f.smB (f.stM f.n) i
          · by_cases hr : f.R i = f.stM f.n
            · have t2 : (f.R i == f.stM f.n) = true := by simp; exact hr
              have HNX := Lib.hid (show f.smB (f.stM f.n) (i + 1) = true by rw [eB, hb8]; simp [hr])
              clear hr eB
              go_wp2
              go_round
              case rel => exact ⟨i + 1, Nat.succ_le_of_lt hlt, by rw [HNX.out], by go_num, NX⟩
              case measure => exact meas_step hlt
            · have t2 : (f.R i == f.stM f.n) = false := by simp; exact hr
              have HNX := Lib.hid (show f.smB (f.stM f.n) (i + 1) = false by rw [eB, hb8]; simp [hr])
              clear hr eB
              go_wp2
              go_round
              case rel => exact ⟨i + 1, Nat.succ_le_of_lt hlt, by rw [HNX.out], by go_num, NX⟩
              case measure => exact meas_step hlt
          · have HNX := Lib.hid (show f.smB (f.stM f.n) (i + 1) = true by rw [eB, hb8]; rfl)
            clear eB
            go_wp2
            go_round
            case rel => exact ⟨i + 1, Nat.succ_le_of_lt hlt, by rw [HNX.out], by go_num, NX⟩
            case measure => exact meas_step hlt
        · have eB : f.smB (f.stM f.n) (i + 1) = f.smB (f.stM f.n) i := if_neg hw
          have hlb := HOK.out.toOrd.lst_bd hlt
          have t1 : ((10000000000) == f.F i) = true := by rw [n1] at hw hlb; simp; omega
          have HNX := Lib.hid eB
          clear eB hw hlb n1
          go_wp2
          go_round
          case rel => exact ⟨i + 1, Nat.succ_le_of_lt hlt, by rw [HNX.out], by go_num, NX⟩
          case measure => exact meas_step hlt
    · obtain rfl : i = f.n := by omega
      rw [Lf.st_all HOK.out]
      have L5 := H3.out.below hb
      have hb := below_step HB3.out hb HB3.out.size
      rcases (show decide (t < 0) = true ∨ (decide (t < 0) = false ∧ decide (10000000000 < t) = true) from by simp only [decide_eq_true_eq, decide_eq_false_iff_not]; omega) with d1 | ⟨d1, d2⟩
      all_goals
        clear ht L5
        go_wp2
        go_ret
        exact ⟨rfl, hb⟩
set_option maxHeartbeats 8000000 in
set_option maxRecDepth 100000 in
theorem shifts_ok (A : Option Addr) (c : Nat) (f : Lf) (t x : Int) (w : World) (h : Lm w A f) (hnc : f.n ≤ c) (hn : f.n ≤ 60) (hf : f.chk = 0) (h0 : 0 ≤ t) (hT : t ≤ 10000000000) :
    Calls Try.prog 8 #[.slice A f.n c, .int .i64 t, .int .i64 x] w fun e w' => e = .returned (.bool true) ∧ Below w.heap.size w w' := by
  obtain ⟨j0', hj0, hy0, hy1, hy2⟩ := info_parts infoI
  have Ji := Lib.hid hj0
  have Jz := Lib.hid hy0
  clear hj0 hy0
  have d0 : decide (60 < (f.n : Int)) = false := by simp; omega
  have g1 : decide (t < 0) = false := by simp; omega
  have g2 : decide (10000000000 < t) = false := by simp; omega
  have cS := fun W hh => shift_ok A c f t W hh hnc hf h0 hT
  have cO := fun W hh => shift_ok A c f 0 W hh hnc hf (by omega) (by omega)
  have cW := fun W hh => wrong_any A c f W hh (by omega)
  rw [hf] at cW
  have cM := fun W hh => steepest_ok A c f W hh hf
  have cQ := fun (B : Option Addr) (d : Nat) (g : Lf) W h1 h2 (hg : g.chk = 0) hv => same_ok A B c d f g W h1 h2 hf hg hv
  have HOK := Lib.hid (Lf.chk_zero hf)
  have H := Lib.hid h
  have HTT := Lib.hid (And.intro h0 hT)
  clear hf h h0 hT
  go_enter Try.func8, Try.ntmps8
  go_wp2_with (fail)
  refine (goes_any _).mono ?_
  rintro e w1 ⟨rfl, hb1⟩
  go_wp2_with (fail)
  refine (cS _ (H.out.below hb1)).mono ?_
  rintro e w2 ⟨s, HR, hsn, hsR, hcase, hb2⟩
  have B2 := below_step hb1 hb2 hb1.size
  rcases hcase with ⟨hz, SA, sc, rfl, LS⟩ | ⟨hz, rfl⟩
  · have cZ := fun W hh => wrong_any SA sc s W hh (by omega)
    rw [hz] at cZ
    have HS := Lib.hid (And.intro (Lf.chk_zero hz) HR)
    have HLS := Lib.hid LS
    go_wp2_with (fail)
    refine (cW _ (H.out.below B2)).mono ?_
    rintro e w3 ⟨rfl, hb3⟩
    have B3 := below_step B2 hb3 B2.size
    have HLS := Lib.hid (HLS.out.below hb3)
    have hs60 : s.n ≤ 60 := by omega
    clear hb1 hb2 hb3 B2 cS cW LS hz HR hsR
    have H3 := Lib.hid (H.out.below B3)
    have HB3 := Lib.hid B3
    go_wp2_with (fail)
    refine (cM _ H3.out).mono ?_
    rintro e w4 ⟨rfl, hb4⟩
    have B4 := hb4
    clear cM hb4 B3
    go_wp2
    go_loopw [12, 51] (fun s12 k W => ∃ i : Nat, i ≤ f.n ∧ s12 = .bool (f.smB (f.stM f.n) i) ∧ k = .int .i64 i ∧ Below w3.heap.size w3 W) (fun _ k _ => f.n - (intOf k).toNat)
    case atStart => exact ⟨0, Nat.zero_le _, rfl, rfl, B4⟩
    case round =>
      clear B4
      obtain ⟨i, hi, rfl, rfl, hb⟩ := hrel
      by_cases hlt : i < f.n
      · have HL0 := H3.out.below hb
        obtain ⟨b, o, rfl, c0, c1, c2⟩ := lm_at HL0 hlt
        have NX' := below_new wr (.cells #[.int .i64 (f.F i), .int .i64 (f.V i), .int .i64 (f.R i)] 37)
        have HL := Lib.hid (HL0.below NX')
        have NX := below_step hb NX' hb.size
        have w1' : IntKind.i64.wrap ((i : Int) + 1) = (i : Int) + 1 := IntWalk.i64_in _ (by omega)
        have hfi := HOK.out.fb i hlt
        clear hb NX' HL0
        by_cases e : i + 1 < f.n
        · have t0 : decide ((i : Int) + 1 < (f.n : Int)) = true := by simp; omega
          have e1 : ((i : Int) + 1).toNat = i + 1 := by omega
          obtain ⟨bb, oo, hbb, n0, _, _⟩ := lm_at HL.out e
          obtain ⟨rfl, rfl⟩ : b = bb ∧ o = oo := by simpa using hbb
          have n1 := Lf.lst_in e
          have hfe := HOK.out.fb (i + 1) e
          have w4 : IntKind.i64.wrap (f.F (i + 1) - 1) = f.F (i + 1) - 1 := IntWalk.i64_in _ (by omega)
          have i1 : (i : Int) + 1 < (f.n : Int) := by omega
          have i0 : 0 ≤ (i : Int) + 1 := by omega
          clear hfe hfi
          by_cases hw : f.F i < f.lst i
          · have eB : f.smB (f.stM f.n) (i + 1) = (f.smB (f.stM f.n) i || decide (f.R i = f.stM f.n)) := if_pos hw
            have bd := Lf.st_bd f f.n i hlt hw
            have t1 : ((f.F (i + 1) - 1) == f.F i) = false := by rw [n1] at hw; simp; omega
            have d3 : decide (f.stM f.n < f.R i) = false := by simp; omega
            have d4 : decide (f.R i < f.stL f.n) = false := by simp; omega
            clear bd hw n1
            cases hb8 : f.smB (f.stM f.n) i
            · by_cases hr : f.R i = f.stM f.n
              · have t2 : (f.R i == f.stM f.n) = true := by simp; exact hr
                have HNX := Lib.hid (show f.smB (f.stM f.n) (i + 1) = true by rw [eB, hb8]; simp [hr])
                clear hr eB
                go_wp2
                go_round
                case rel => exact ⟨i + 1, Nat.succ_le_of_lt hlt, by rw [HNX.out], by go_num, NX⟩
                case measure => exact meas_step hlt
              · have t2 : (f.R i == f.stM f.n) = false := by simp; exact hr
                have HNX := Lib.hid (show f.smB (f.stM f.n) (i + 1) = false by rw [eB, hb8]; simp [hr])
                clear hr eB
                go_wp2
                go_round
                case rel => exact ⟨i + 1, Nat.succ_le_of_lt hlt, by rw [HNX.out], by go_num, NX⟩
                case measure => exact meas_step hlt
            · have HNX := Lib.hid (show f.smB (f.stM f.n) (i + 1) = true by rw [eB, hb8]; rfl)
              clear eB
              go_wp2
              go_round
              case rel => exact ⟨i + 1, Nat.succ_le_of_lt hlt, by rw [HNX.out], by go_num, NX⟩
              case measure => exact meas_step hlt
          · have eB : f.smB (f.stM f.n) (i + 1) = f.smB (f.stM f.n) i := if_neg hw
            have hlb := HOK.out.toOrd.lst_bd hlt
            have t1 : ((f.F (i + 1) - 1) == f.F i) = true := by rw [n1] at hw hlb; simp; omega
            have HNX := Lib.hid eB
            clear eB hw hlb n1
            go_wp2
            go_round
            case rel => exact ⟨i + 1, Nat.succ_le_of_lt hlt, by rw [HNX.out], by go_num, NX⟩
            case measure => exact meas_step hlt
        · have t0 : decide ((i : Int) + 1 < (f.n : Int)) = false := by simp; omega
          have n1 := Lf.lst_out e
          clear e hfi
          by_cases hw : f.F i < f.lst i
          · have eB : f.smB (f.stM f.n) (i + 1) = (f.smB (f.stM f.n) i || decide (f.R i = f.stM f.n)) := if_pos hw
            have bd := Lf.st_bd f f.n i hlt hw
            have t1 : ((10000000000) == f.F i) = false := by rw [n1] at hw; simp; omega
            have d3 : decide (f.stM f.n < f.R i) = false := by simp; omega
            have d4 : decide (f.R i < f.stL f.n) = false := by simp; omega
            clear bd hw n1
            cases hb8 : f.smB (f.stM f.n) i
            · by_cases hr : f.R i = f.stM f.n
              · have t2 : (f.R i == f.stM f.n) = true := by simp; exact hr
                have HNX := Lib.hid (show f.smB (f.stM f.n) (i + 1) = true by rw [eB, hb8]; simp [hr])
                clear hr eB
                go_wp2
                go_round
                case rel => exact ⟨i + 1, Nat.succ_le_of_lt hlt, by rw [HNX.out], by go_num, NX⟩
                case measure => exact meas_step hlt
              · have t2 : (f.R i == f.stM f.n) = false := by simp; exact hr
                have HNX := Lib.hid (show f.smB (f.stM f.n) (i + 1) = false by rw [eB, hb8]; simp [hr])
                clear hr eB
                go_wp2
                go_round
                case rel => exact ⟨i + 1, Nat.succ_le_of_lt hlt, by rw [HNX.out], by go_num, NX⟩
                case measure => exact meas_step hlt
            · have HNX := Lib.hid (show f.smB (f.stM f.n) (i + 1) = true by rw [eB, hb8]; rfl)
              clear eB
              go_wp2
              go_round
              case rel => exact ⟨i + 1, Nat.succ_le_of_lt hlt, by rw [HNX.out], by go_num, NX⟩
              case measure => exact meas_step hlt
          · have eB : f.smB (f.stM f.n) (i + 1) = f.smB (f.stM f.n) i := if_neg hw
            have hlb := HOK.out.toOrd.lst_bd hlt
            have t1 : ((10000000000) == f.F i) = true := by rw [n1] at hw hlb; simp; omega
            have HNX := Lib.hid eB
            clear eB hw hlb n1
            go_wp2
            go_round
            case rel => exact ⟨i + 1, Nat.succ_le_of_lt hlt, by rw [HNX.out], by go_num, NX⟩
            case measure => exact meas_step hlt
      · obtain rfl : i = f.n := by omega
        rw [Lf.st_all HOK.out]
        have L5 := H3.out.below hb
        have hs1 := HS.out.1.n1
        have G5 := HLS.out.below hb
        clear L5
        go_wp2_with (fail)
        refine (near_one SA sc s _ G5 HS.out.1.rk ⟨hs1, by omega⟩).mono ?_
        rintro e w6 ⟨NA, nn, nc, xs, rfl, hn3, hnn, hNo, hNx, hb6⟩
        have hwr := hb.size
        have B6 := below_step hb hb6 hb.size
        have hNo6 := own_mono hNo hwr
        have HX := Lib.hid hNx
        clear hNo hNx hb hb6 G5
        go_upto_region 29 with fail
        rcases (show (decide (0 ≤ x) = true ∧ decide (x ≤ 10000000000) = true) ∨ (decide (0 ≤ x) = true ∧ decide (x ≤ 10000000000) = false) ∨ decide (0 ≤ x) = false from by simp only [decide_eq_true_eq, decide_eq_false_iff_not]; omega) with ⟨d2, d3⟩ | ⟨d2, d3⟩ | d2
        · have HX9 := Lib.hid (nms_add HX.out (of_decide_eq_true d2) (of_decide_eq_true d3))
          have NX := below_new w6 (.cells #[.int .i64 x] 2)
          have O9 := own_below hNo6 NX
          have b9 := below_step B6 NX B6.size
          have honex : ∀ u ∈ ([.int .i64 x] : List Value), u.oneCell' = true := by simp [Value.oneCell']
          have hc3 : Hid (nn + 1 ≤ maxLen) := Lib.hid (by unfold maxLen; omega)
          have hc4 : Hid ((nn + 1) * 8 ≤ 140737488355328) := Lib.hid (by omega)
          clear hNo6 NX B6
          go_wp2_with (refine wpList_append_lies _ rfl (.tmp 130) (.tmp 132) 34 rfl w3.heap.size 2 j0' (.int .i64 0) 1 8 Try.underlying34 Ji.out Jz.out hy1 hy2 (by rfl) (by decide) _ nn xs (by rfl) O9 ⟨_, 0, none⟩ 1 1 [.int .i64 x] (by rfl) (by rfl) (cells_at8 _ [.int .i64 x] _ rfl) honex (by decide) hc3.out hc4.out b9.size _ rfl ?_; intro g8 cap8 w8 hown8 hgrow hat hlt8; have B8 := b9.grown hgrow b9.size (fun j hj => (O9.lt j hj).1))
          have NR := nr_own hown8 HX9.out
          clear hown8 hgrow hat hlt8 O9 b9 honex hc3 hc4 d2 d3
          have BB8 := Lib.hid B8
          have HNR := Lib.hid NR
          have hself := Below.refl w8.heap.size w8
          clear NR B8
          go_loopw [136] (fun k W => ∃ i : Nat, i ≤ nn + 1 ∧ k = .int .i64 i ∧ Below w8.heap.size w8 W) (fun k _ => nn + 1 - (intOf k).toNat)
          case atStart => exact ⟨0, Nat.zero_le _, rfl, hself⟩
          case round =>
            clear hself
            obtain ⟨i, hi, rfl, hb⟩ := hrel
            have b5 := below_step BB8.out hb BB8.out.size
            have Bw := below_step HB3.out b5 HB3.out.size
            have LL := HLS.out.below b5
            have LF := H3.out.below b5
            by_cases hlt : i < nn + 1
            · obtain ⟨nb, no, z, hA, x0, hx0, hxT⟩ := nr_at (HNR.out.below hb) hlt
              first | (obtain ⟨rfl, rfl⟩ := hA) | (obtain ⟨rfl, rfl⟩ : _ = nb ∧ 0 = no := by simpa using hA)
              try rw [Nat.zero_add] at x0
              have u1 : IntKind.i64.wrap (z + t) = z + t := IntWalk.i64_in _ (by have := HTT.out; omega)
              by_cases hfar : 10000000000 < z + t
              · have d1 : decide (10000000000 < z + t) = true := decide_eq_true hfar
                clear hx0 hxT Bw hfar LL LF b5
                go_wp2
                go_round
                case rel => exact ⟨i + 1, Nat.succ_le_of_lt hlt, by go_num, hb⟩
                case measure => exact meas_step hlt
              · have d1 : decide (10000000000 < z + t) = false := decide_eq_false hfar
                have hTT := HTT.out
                have c1 := fun W hh => lawat_any SA sc s z W hh (by omega) HS.out.1.rk hx0 hxT
                have c2 := fun W hh => lawat_any A c f (z + t) W hh (by omega) HOK.out.rk (by omega) (by omega)
                have e3 : s.val z = f.val (z + t) := by rw [HS.out.2.val_is hx0 hxT]; unfold Lf.ext; rw [if_pos (by omega)]
                rw [e3] at c1
                clear hx0 hxT Bw e3 hfar hTT
                generalize f.val (z + t) = y1 at *
                have q1 : (y1 != y1) = false := by simp
                go_wp2_with (fail)
                refine (c1 _ LL).mono ?_
                rintro e v6 ⟨rfl, hb6⟩
                have B6 := below_step hb hb6 hb.size
                go_wp2_with (fail)
                refine (c2 _ (LF.below hb6)).mono ?_
                rintro e v7 ⟨rfl, hb7⟩
                have B7 := below_step B6 hb7 B6.size
                clear hb hb6 hb7 LL LF c1 c2 x0 B6 b5
                go_wp2
                go_round
                case rel => exact ⟨i + 1, Nat.succ_le_of_lt hlt, by go_num, B7⟩
                case measure => exact meas_step hlt
            · obtain rfl : i = nn + 1 := by omega
              go_wp2_with (fail)
              refine (cO _ LF).mono ?_
              rintro e v6 ⟨s0, R0, hn0, hR0, hcase, hb6⟩
              have hc0 : s0.chk = 0 := R0.chk_ok hR0 (fun z h0 hT => by show _ ≤ f.ext (z + 0) ∧ f.ext (z + 0) ≤ _; unfold Lf.ext; rw [if_pos (by omega), Int.add_zero]; exact HOK.out.val_bd h0 hT) (by omega)
              rcases hcase with ⟨_, A0, c0, rfl, L0⟩ | ⟨hne, _⟩
              case inr => exact absurd hc0 hne
              have B6 := below_step Bw hb6 Bw.size
              go_wp2_with (fail)
              refine (cZ _ (LL.below hb6)).mono ?_
              rintro e v7 ⟨rfl, hb7⟩
              have B7 := below_step B6 hb7 B6.size
              go_wp2_with (fail)
              refine (cQ A0 c0 s0 _ ((LF.below hb6).below hb7) (L0.below hb7) hc0 (fun z h0 hT => by rw [R0.val_is h0 hT]; show _ = f.ext (z + 0); unfold Lf.ext; rw [if_pos (by omega), Int.add_zero])).mono ?_
              rintro e v8 ⟨rfl, hb8⟩
              have B8'' := below_step B7 hb8 B7.size
              clear hb hb6 hb7 hb8 LL LF Bw B6 B7 b5 L0 R0 hR0
              go_wp2
              go_ret
              exact ⟨rfl, B8''⟩
        · have NR := nr_own hNo6 HX.out
          clear hNo6
          go_wp2
          have BB8 := Lib.hid B6
          have HNR := Lib.hid NR
          have hself := Below.refl w6.heap.size w6
          clear NR B6
          go_loopw [136] (fun k W => ∃ i : Nat, i ≤ nn ∧ k = .int .i64 i ∧ Below w6.heap.size w6 W) (fun k _ => nn - (intOf k).toNat)
          case atStart => exact ⟨0, Nat.zero_le _, rfl, hself⟩
          case round =>
            clear hself
            obtain ⟨i, hi, rfl, hb⟩ := hrel
            have b5 := below_step BB8.out hb BB8.out.size
            have Bw := below_step HB3.out b5 HB3.out.size
            have LL := HLS.out.below b5
            have LF := H3.out.below b5
            by_cases hlt : i < nn
            · obtain ⟨nb, no, z, hA, x0, hx0, hxT⟩ := nr_at (HNR.out.below hb) hlt
              first | (obtain ⟨rfl, rfl⟩ := hA) | (obtain ⟨rfl, rfl⟩ : _ = nb ∧ 0 = no := by simpa using hA)
              try rw [Nat.zero_add] at x0
              have u1 : IntKind.i64.wrap (z + t) = z + t := IntWalk.i64_in _ (by have := HTT.out; omega)
              by_cases hfar : 10000000000 < z + t
              · have d1 : decide (10000000000 < z + t) = true := decide_eq_true hfar
                clear hx0 hxT Bw hfar LL LF b5
                go_wp2
                go_round
                case rel => exact ⟨i + 1, Nat.succ_le_of_lt hlt, by go_num, hb⟩
                case measure => exact meas_step hlt
              · have d1 : decide (10000000000 < z + t) = false := decide_eq_false hfar
                have hTT := HTT.out
                have c1 := fun W hh => lawat_any SA sc s z W hh (by omega) HS.out.1.rk hx0 hxT
                have c2 := fun W hh => lawat_any A c f (z + t) W hh (by omega) HOK.out.rk (by omega) (by omega)
                have e3 : s.val z = f.val (z + t) := by rw [HS.out.2.val_is hx0 hxT]; unfold Lf.ext; rw [if_pos (by omega)]
                rw [e3] at c1
                clear hx0 hxT Bw e3 hfar hTT
                generalize f.val (z + t) = y1 at *
                have q1 : (y1 != y1) = false := by simp
                go_wp2_with (fail)
                refine (c1 _ LL).mono ?_
                rintro e v6 ⟨rfl, hb6⟩
                have B6 := below_step hb hb6 hb.size
                go_wp2_with (fail)
                refine (c2 _ (LF.below hb6)).mono ?_
                rintro e v7 ⟨rfl, hb7⟩
                have B7 := below_step B6 hb7 B6.size
                clear hb hb6 hb7 LL LF c1 c2 x0 B6 b5
                go_wp2
                go_round
                case rel => exact ⟨i + 1, Nat.succ_le_of_lt hlt, by go_num, B7⟩
                case measure => exact meas_step hlt
            · obtain rfl : i = nn := by omega
              go_wp2_with (fail)
              refine (cO _ LF).mono ?_
              rintro e v6 ⟨s0, R0, hn0, hR0, hcase, hb6⟩
              have hc0 : s0.chk = 0 := R0.chk_ok hR0 (fun z h0 hT => by show _ ≤ f.ext (z + 0) ∧ f.ext (z + 0) ≤ _; unfold Lf.ext; rw [if_pos (by omega), Int.add_zero]; exact HOK.out.val_bd h0 hT) (by omega)
              rcases hcase with ⟨_, A0, c0, rfl, L0⟩ | ⟨hne, _⟩
              case inr => exact absurd hc0 hne
              have B6 := below_step Bw hb6 Bw.size
              go_wp2_with (fail)
              refine (cZ _ (LL.below hb6)).mono ?_
              rintro e v7 ⟨rfl, hb7⟩
              have B7 := below_step B6 hb7 B6.size
              go_wp2_with (fail)
              refine (cQ A0 c0 s0 _ ((LF.below hb6).below hb7) (L0.below hb7) hc0 (fun z h0 hT => by rw [R0.val_is h0 hT]; show _ = f.ext (z + 0); unfold Lf.ext; rw [if_pos (by omega), Int.add_zero])).mono ?_
              rintro e v8 ⟨rfl, hb8⟩
              have B8'' := below_step B7 hb8 B7.size
              clear hb hb6 hb7 hb8 LL LF Bw B6 B7 b5 L0 R0 hR0
              go_wp2
              go_ret
              exact ⟨rfl, B8''⟩
        · have NR := nr_own hNo6 HX.out
          clear hNo6
          go_wp2
          have BB8 := Lib.hid B6
          have HNR := Lib.hid NR
          have hself := Below.refl w6.heap.size w6
          clear NR B6
          go_loopw [136] (fun k W => ∃ i : Nat, i ≤ nn ∧ k = .int .i64 i ∧ Below w6.heap.size w6 W) (fun k _ => nn - (intOf k).toNat)
          case atStart => exact ⟨0, Nat.zero_le _, rfl, hself⟩
          case round =>
            clear hself
            obtain ⟨i, hi, rfl, hb⟩ := hrel
            have b5 := below_step BB8.out hb BB8.out.size
            have Bw := below_step HB3.out b5 HB3.out.size
            have LL := HLS.out.below b5
            have LF := H3.out.below b5
            by_cases hlt : i < nn
            · obtain ⟨nb, no, z, hA, x0, hx0, hxT⟩ := nr_at (HNR.out.below hb) hlt
              first | (obtain ⟨rfl, rfl⟩ := hA) | (obtain ⟨rfl, rfl⟩ : _ = nb ∧ 0 = no := by simpa using hA)
              try rw [Nat.zero_add] at x0
              have u1 : IntKind.i64.wrap (z + t) = z + t := IntWalk.i64_in _ (by have := HTT.out; omega)
              by_cases hfar : 10000000000 < z + t
              · have d1 : decide (10000000000 < z + t) = true := decide_eq_true hfar
                clear hx0 hxT Bw hfar LL LF b5
                go_wp2
                go_round
                case rel => exact ⟨i + 1, Nat.succ_le_of_lt hlt, by go_num, hb⟩
                case measure => exact meas_step hlt
              · have d1 : decide (10000000000 < z + t) = false := decide_eq_false hfar
                have hTT := HTT.out
                have c1 := fun W hh => lawat_any SA sc s z W hh (by omega) HS.out.1.rk hx0 hxT
                have c2 := fun W hh => lawat_any A c f (z + t) W hh (by omega) HOK.out.rk (by omega) (by omega)
                have e3 : s.val z = f.val (z + t) := by rw [HS.out.2.val_is hx0 hxT]; unfold Lf.ext; rw [if_pos (by omega)]
                rw [e3] at c1
                clear hx0 hxT Bw e3 hfar hTT
                generalize f.val (z + t) = y1 at *
                have q1 : (y1 != y1) = false := by simp
                go_wp2_with (fail)
                refine (c1 _ LL).mono ?_
                rintro e v6 ⟨rfl, hb6⟩
                have B6 := below_step hb hb6 hb.size
                go_wp2_with (fail)
                refine (c2 _ (LF.below hb6)).mono ?_
                rintro e v7 ⟨rfl, hb7⟩
                have B7 := below_step B6 hb7 B6.size
                clear hb hb6 hb7 LL LF c1 c2 x0 B6 b5
                go_wp2
                go_round
                case rel => exact ⟨i + 1, Nat.succ_le_of_lt hlt, by go_num, B7⟩
                case measure => exact meas_step hlt
            · obtain rfl : i = nn := by omega
              go_wp2_with (fail)
              refine (cO _ LF).mono ?_
              rintro e v6 ⟨s0, R0, hn0, hR0, hcase, hb6⟩
              have hc0 : s0.chk = 0 := R0.chk_ok hR0 (fun z h0 hT => by show _ ≤ f.ext (z + 0) ∧ f.ext (z + 0) ≤ _; unfold Lf.ext; rw [if_pos (by omega), Int.add_zero]; exact HOK.out.val_bd h0 hT) (by omega)
              rcases hcase with ⟨_, A0, c0, rfl, L0⟩ | ⟨hne, _⟩
              case inr => exact absurd hc0 hne
              have B6 := below_step Bw hb6 Bw.size
              go_wp2_with (fail)
              refine (cZ _ (LL.below hb6)).mono ?_
              rintro e v7 ⟨rfl, hb7⟩
              have B7 := below_step B6 hb7 B6.size
              go_wp2_with (fail)
              refine (cQ A0 c0 s0 _ ((LF.below hb6).below hb7) (L0.below hb7) hc0 (fun z h0 hT => by rw [R0.val_is h0 hT]; show _ = f.ext (z + 0); unfold Lf.ext; rw [if_pos (by omega), Int.add_zero])).mono ?_
              rintro e v8 ⟨rfl, hb8⟩
              have B8'' := below_step B7 hb8 B7.size
              clear hb hb6 hb7 hb8 LL LF Bw B6 B7 b5 L0 R0 hR0
              go_wp2
              go_ret
              exact ⟨rfl, B8''⟩
  · -- what was shifted would be beyond the most
    have e10 : s.chk = 10 := by
      rcases Lf.sh_chk HOK.out HR hsR (by omega) with h | h
      · exact absurd h hz
      · exact h
    rw [e10]
    clear hz e10 HR hsR cS cO cQ hsn
    go_wp2_with (fail)
    refine (cW _ (H.out.below B2)).mono ?_
    rintro e w3 ⟨rfl, hb3⟩
    have B3 := below_step B2 hb3 B2.size
    clear hb1 hb2 hb3 B2 cW
    have H3 := Lib.hid (H.out.below B3)
    have HB3 := Lib.hid B3
    go_wp2_with (fail)
    refine (cM _ H3.out).mono ?_
    rintro e w4 ⟨rfl, hb4⟩
    have B4 := hb4
    clear cM hb4 B3
    go_wp2
    go_loopw [12, 51] (fun s12 k W => ∃ i : Nat, i ≤ f.n ∧ s12 = .bool (f.smB (f.stM f.n) i) ∧ k = .int .i64 i ∧ Below w3.heap.size w3 W) (fun _ k _ => f.n - (intOf k).toNat)
    case atStart => exact ⟨0, Nat.zero_le _, rfl, rfl, B4⟩
    case round =>
      clear B4
      obtain ⟨i, hi, rfl, rfl, hb⟩ := hrel
      by_cases hlt : i < f.n
      · have HL0 := H3.out.below hb
        obtain ⟨b, o, rfl, c0, c1, c2⟩ := lm_at HL0 hlt
        have NX' := below_new wr (.cells #[.int .i64 (f.F i), .int .i64 (f.V i), .int .i64 (f.R i)] 37)
        have HL := Lib.hid (HL0.below NX')
        have NX := below_step hb NX' hb.size
        have w1' : IntKind.i64.wrap ((i : Int) + 1) = (i : Int) + 1 := IntWalk.i64_in _ (by omega)
        have hfi := HOK.out.fb i hlt
        clear hb NX' HL0
        by_cases e : i + 1 < f.n
        · have t0 : decide ((i : Int) + 1 < (f.n : Int)) = true := by simp; omega
          have e1 : ((i : Int) + 1).toNat = i + 1 := by omega
          obtain ⟨bb, oo, hbb, n0, _, _⟩ := lm_at HL.out e
          obtain ⟨rfl, rfl⟩ : b = bb ∧ o = oo := by simpa using hbb
          have n1 := Lf.lst_in e
          have hfe := HOK.out.fb (i + 1) e
          have w4 : IntKind.i64.wrap (f.F (i + 1) - 1) = f.F (i + 1) - 1 := IntWalk.i64_in _ (by omega)
          have i1 : (i : Int) + 1 < (f.n : Int) := by omega
          have i0 : 0 ≤ (i : Int) + 1 := by omega
          clear hfe hfi
          by_cases hw : f.F i < f.lst i
          · have eB : f.smB (f.stM f.n) (i + 1) = (f.smB (f.stM f.n) i || decide (f.R i = f.stM f.n)) := if_pos hw
            have bd := Lf.st_bd f f.n i hlt hw
            have t1 : ((f.F (i + 1) - 1) == f.F i) = false := by rw [n1] at hw; simp; omega
            have d3 : decide (f.stM f.n < f.R i) = false := by simp; omega
            have d4 : decide (f.R i < f.stL f.n) = false := by simp; omega
            clear bd hw n1
            cases hb8 : f.smB (f.stM f.n) i
            · by_cases hr : f.R i = f.stM f.n
              · have t2 : (f.R i == f.stM f.n) = true := by simp; exact hr
                have HNX := Lib.hid (show f.smB (f.stM f.n) (i + 1) = true by rw [eB, hb8]; simp [hr])
                clear hr eB
                go_wp2
                go_round
                case rel => exact ⟨i + 1, Nat.succ_le_of_lt hlt, by rw [HNX.out], by go_num, NX⟩
                case measure => exact meas_step hlt
              · have t2 : (f.R i == f.stM f.n) = false := by simp; exact hr
                have HNX := Lib.hid (show f.smB (f.stM f.n) (i + 1) = false by rw [eB, hb8]; simp [hr])
                clear hr eB
                go_wp2
                go_round
                case rel => exact ⟨i + 1, Nat.succ_le_of_lt hlt, by rw [HNX.out], by go_num, NX⟩
                case measure => exact meas_step hlt
            · have HNX := Lib.hid (show f.smB (f.stM f.n) (i + 1) = true by rw [eB, hb8]; rfl)
              clear eB
              go_wp2
              go_round
              case rel => exact ⟨i + 1, Nat.succ_le_of_lt hlt, by rw [HNX.out], by go_num, NX⟩
              case measure => exact meas_step hlt
          · have eB : f.smB (f.stM f.n) (i + 1) = f.smB (f.stM f.n) i := if_neg hw
            have hlb := HOK.out.toOrd.lst_bd hlt
            have t1 : ((f.F (i + 1) - 1) == f.F i) = true := by rw [n1] at hw hlb; simp; omega
            have HNX := Lib.hid eB
            clear eB hw hlb n1
            go_wp2
            go_round
            case rel => exact ⟨i + 1, Nat.succ_le_of_lt hlt, by rw [HNX.out], by go_num, NX⟩
            case measure => exact meas_step hlt
        · have t0 : decide ((i : Int) + 1 < (f.n : Int)) = false := by simp; omega
          have n1 := Lf.lst_out e
          clear e hfi
          by_cases hw : f.F i < f.lst i
          · have eB : f.smB (f.stM f.n) (i + 1) = (f.smB (f.stM f.n) i || decide (f.R i = f.stM f.n)) := if_pos hw
            have bd := Lf.st_bd f f.n i hlt hw
            have t1 : ((10000000000) == f.F i) = false := by rw [n1] at hw; simp; omega
            have d3 : decide (f.stM f.n < f.R i) = false := by simp; omega
            have d4 : decide (f.R i < f.stL f.n) = false := by simp; omega
            clear bd hw n1
            cases hb8 : f.smB (f.stM f.n) i
            · by_cases hr : f.R i = f.stM f.n
              · have t2 : (f.R i == f.stM f.n) = true := by simp; exact hr
                have HNX := Lib.hid (show f.smB (f.stM f.n) (i + 1) = true by rw [eB, hb8]; simp [hr])
                clear hr eB
                go_wp2
                go_round
                case rel => exact ⟨i + 1, Nat.succ_le_of_lt hlt, by rw [HNX.out], by go_num, NX⟩
                case measure => exact meas_step hlt
              · have t2 : (f.R i == f.stM f.n) = false := by simp; exact hr
                have HNX := Lib.hid (show f.smB (f.stM f.n) (i + 1) = false by rw [eB, hb8]; simp [hr])
                clear hr eB
                go_wp2
                go_round
                case rel => exact ⟨i + 1, Nat.succ_le_of_lt hlt, by rw [HNX.out], by go_num, NX⟩
                case measure => exact meas_step hlt
            · have HNX := Lib.hid (show f.smB (f.stM f.n) (i + 1) = true by rw [eB, hb8]; rfl)
              clear eB
              go_wp2
              go_round
              case rel => exact ⟨i + 1, Nat.succ_le_of_lt hlt, by rw [HNX.out], by go_num, NX⟩
              case measure => exact meas_step hlt
          · have eB : f.smB (f.stM f.n) (i + 1) = f.smB (f.stM f.n) i := if_neg hw
            have hlb := HOK.out.toOrd.lst_bd hlt
            have t1 : ((10000000000) == f.F i) = true := by rw [n1] at hw hlb; simp; omega
            have HNX := Lib.hid eB
            clear eB hw hlb n1
            go_wp2
            go_round
            case rel => exact ⟨i + 1, Nat.succ_le_of_lt hlt, by rw [HNX.out], by go_num, NX⟩
            case measure => exact meas_step hlt
      · obtain rfl : i = f.n := by omega
        rw [Lf.st_all HOK.out]
        have L5 := H3.out.below hb
        have hb := below_step HB3.out hb HB3.out.size
        clear L5
        go_wp2
        go_ret
        exact ⟨rfl, hb⟩
set_option maxHeartbeats 4000000 in
set_option maxRecDepth 100000 in
theorem wPieceShifts (A : Option Addr) (c : Nat) (f : Lf) (t x : Int) (w : World) (h : Lm w A f) (hnc : f.n ≤ 9223372036854775807 ∧ f.n ≤ c) (ht1 : -9223372036854775808 ≤ t) (ht2 : t ≤ 9223372036854775807) (hx1 : -9223372036854775808 ≤ x) (hx2 : x ≤ 9223372036854775807) :
    Calls Try.prog 8 #[.slice A f.n c, .int .i64 t, .int .i64 x] w fun e w' => e = .returned (.bool true) ∧ Below w.heap.size w w' := by
  by_cases hl : 60 < f.n
  · have d1 : decide (60 < (f.n : Int)) = true := by simp; omega
    clear hl
    go_enter Try.func8, Try.ntmps8
    go_wp2_with (fail)
    refine (goes_any _).mono ?_
    rintro e w1 ⟨rfl, hb⟩
    go_wp2
    go_ret
    exact ⟨rfl, hb⟩
  · by_cases hc : f.chk = 0
    · by_cases ht : t < 0 ∨ 10000000000 < t
      · exact shifts_far A c f t x w h (by omega) hc ht
      · exact shifts_ok A c f t x w h hnc.2 (by omega) hc (by omega) (by omega)
    · have d1 : decide (60 < (f.n : Int)) = false := by simp; omega
      have cS := fun W hh => shift_bad A c f t W hh (by omega) f.chk (if_neg hc) (.inl hc)
      have cW := fun W hh => wrong_any A c f W hh (by omega)
      have b1 : (f.chk != 0) = true := by simp; exact hc
      have b2 : (f.chk == f.chk) = true := by simp
      clear hc hl
      generalize f.chk = q at *
      go_enter Try.func8, Try.ntmps8
      go_wp2_with (fail)
      refine (goes_any _).mono ?_
      rintro e w1 ⟨rfl, hb⟩
      go_wp2_with (fail)
      refine (cS _ (h.below hb)).mono ?_
      rintro e w2 ⟨rfl, hb2⟩
      have B2 := below_step hb hb2 hb.size
      go_wp2_with (fail)
      refine (cW _ (h.below B2)).mono ?_
      rintro e w3 ⟨rfl, hb3⟩
      have B3 := below_step B2 hb3 B2.size
      clear hb hb2 hb3 B2 cS cW
      go_wp2
      go_ret
      exact ⟨rfl, B3⟩
end Go.Proofs.Ytcldknmhmbpboaa
