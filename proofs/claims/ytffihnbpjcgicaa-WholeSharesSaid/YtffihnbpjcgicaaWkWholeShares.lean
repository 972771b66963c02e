/- The walk of the law WholeShares. -/
import Derived.Test.YtffihnbpjcgicaaWsH
import Derived.Deep.RegionHeld3
import Derived.Deep.CutBlock
import Derived.Deep.RegionLaw
import Derived.Deep.AppendLies
namespace Go.Proofs.Ytffihnbpjcgicaa
open Go.RowKit Go.Sort
set_option linter.unusedVariables false
set_option linter.unusedSimpArgs false

def f3 (a b d : Int) (k : Nat) : Int := if k = 0 then a else if k = 1 then b else d
theorem row_3b (w : World) (a b d : Int) (t : TypeId) : rowAt (w.alloc (.cells #[.int .i64 a, .int .i64 b, .int .i64 d] t)) (some ⟨w.heap.size, 0, none⟩) 3 fun k => .int .i64 (f3 a b d k) := fun _ =>
  ⟨_, 0, rfl, fun i hi => by
    have K := bx_new w [.int .i64 a, .int .i64 b, .int .i64 d] t
    rw [Nat.zero_add]
    rcases (show i = 0 ∨ i = 1 ∨ i = 2 by omega) with rfl | rfl | rfl
    · exact K.cell rfl
    · exact K.cell rfl
    · exact K.cell rfl⟩
theorem all_three (a b d : Int) : allB (f3 a b d) 3 = (amtB a && amtB b && amtB d) := by
  rw [allB_succ, allB_succ, allB_succ]
  simp [allB, f3]
theorem cat_lt {m : Nat} {f g : Nat → Int} {i : Nat} (h : i < m) : cat m f g i = f i := by simp [cat, h]
theorem cat_ge {m : Nat} {f g : Nat → Int} (i : Nat) : cat m f g (m + i) = g i := by
  have e : ¬ m + i < m := by omega
  simp [cat, e]
theorem yro_lt {W : World} {B p n : Nat} {X Y : Nat → Int} {k : Int} (h : YrO W B p n X Y k) : p < W.heap.size := by
  obtain ⟨b, K, _⟩ := h
  exact K.lt
set_option maxRecDepth 100000 in
set_option maxHeartbeats 16000000 in
theorem wWholeShares (T : TB) (A : Option Addr) (m q : Nat) (c x s : Nat → Int) (A2 : Option Addr) (m2 q2 : Nat) (c2 x2 s2 : Nat → Int) (w : World) (h : Tm w T) (hF : TFits T) (hl : BasM w A m c x s) (hm : m ≤ 9223372036854775807) (hA : A = none → q = 0) (hq : m ≤ q) (hl2 : BasM w A2 m2 c2 x2 s2) (hm2 : m2 ≤ 9223372036854775807) (hA2 : A2 = none → q2 = 0) (hq2 : m2 ≤ q2) :
    Calls Try.prog 3 #[.agg #[.slice T.AS T.nS T.cS, .slice T.AC T.nC T.cC, .slice T.AK T.nK T.cK, .int .i64 T.L, .int .i64 T.W], .slice A m q, .slice A2 m2 q2] w fun e w' => e = .returned (.bool true) ∧ Below w.heap.size w w' := by
  have hz := tsz_of hF
  clear hF
  have HQ := Lib.hid (And.intro hA (And.intro hA2 hq))
  clear hA hA2 hq hq2
  have K := bx_new w [.slice T.AS T.nS T.cS, .slice T.AC T.nC T.cC, .slice T.AK T.nK T.cK, .int .i64 T.L, .int .i64 T.W] 26
  have B := below_new w (.cells #[.slice T.AS T.nS T.cS, .slice T.AC T.nC T.cC, .slice T.AK T.nK T.cK, .int .i64 T.L, .int .i64 T.W] 26)
  have cN : Calls Try.prog 4 #[.int .i64 2] (w.alloc (.cells #[.slice T.AS T.nS T.cS, .slice T.AC T.nC T.cC, .slice T.AK T.nK T.cK, .int .i64 T.L, .int .i64 T.W] 26)) fun e w' => ∃ p, e = .returned (.tuple #[.pointer (some ⟨p, 0, none⟩), .int .i64 0]) ∧ YrO w' ((w.alloc (.cells #[.slice T.AS T.nS T.cS, .slice T.AC T.nC T.cC, .slice T.AK T.nK T.cK, .int .i64 T.L, .int .i64 T.W] 26))).heap.size p 2 (fun _ => 0) (fun _ => 0) 0 ∧ Below ((w.alloc (.cells #[.slice T.AS T.nS T.cS, .slice T.AC T.nC T.cC, .slice T.AK T.nK T.cK, .int .i64 T.L, .int .i64 T.W] 26))).heap.size (w.alloc (.cells #[.slice T.AS T.nS T.cS, .slice T.AC T.nC T.cC, .slice T.AK T.nK T.cK, .int .i64 T.L, .int .i64 T.W] 26)) w' := new_ok 2 (w.alloc (.cells #[.slice T.AS T.nS T.cS, .slice T.AC T.nC T.cC, .slice T.AK T.nK T.cK, .int .i64 T.L, .int .i64 T.W] 26)) (by omega)
  replace h := h.below B
  replace hl := hl.below B
  replace hl2 := hl2.below B
  go_enter Try.func3, Try.ntmps3
  go_wp2_with (fail)
  with_reducible refine cN.mono ?_
  rintro e w1 ⟨p0, rfl, hY0, hb⟩

  replace K := K.below hb
  replace h := h.below hb
  replace hl := hl.below hb
  replace hl2 := hl2.below hb
  replace B := below_step B hb B.size
  clear hb cN
  have cP := posted_ok hY0 (by omega)
  clear hY0
  go_wp2_with (fail)
  with_reducible refine cP.mono ?_
  rintro e w2 ⟨b0, rfl, _, _, hb⟩

  replace K := K.below hb
  replace h := h.below hb
  replace hl := hl.below hb
  replace hl2 := hl2.below hb
  replace B := below_step B hb B.size
  clear hb cP
  have cI := light_any T w2 h
  have k_0 := K.cell (i := 0) rfl
  have k_1 := K.cell (i := 1) rfl
  have k_2 := K.cell (i := 2) rfl
  have k_3 := K.cell (i := 3) rfl
  have k_4 := K.cell (i := 4) rfl
  go_wp2_with (fail)
  with_reducible refine cI.mono ?_
  rintro e w3 ⟨⟨lb, rfl⟩, hb⟩
  clear k_0 k_1 k_2 k_3 k_4

  replace K := K.below hb
  replace h := h.below hb
  replace hl := hl.below hb
  replace hl2 := hl2.below hb
  replace B := below_step B hb B.size
  clear hb cI
  cases lb
  · go_wp2
    go_ret
    exact ⟨rfl, B⟩
  have ck : Calls Try.prog 7 #[.agg #[.slice T.AS T.nS T.cS, .slice T.AC T.nC T.cC, .slice T.AK T.nK T.cK, .int .i64 T.L, .int .i64 T.W]] w3 fun e w' => e = .returned (.int .i64 T.chk) ∧ Below w3.heap.size w3 w' := check_tab w3 T h hz
  have k_0 := K.cell (i := 0) rfl
  have k_1 := K.cell (i := 1) rfl
  have k_2 := K.cell (i := 2) rfl
  have k_3 := K.cell (i := 3) rfl
  have k_4 := K.cell (i := 4) rfl
  go_wp2_with (fail)
  with_reducible refine ck.mono ?_
  rintro e w4 ⟨rfl, hb⟩
  clear k_0 k_1 k_2 k_3 k_4

  replace K := K.below hb
  replace h := h.below hb
  replace hl := hl.below hb
  replace hl2 := hl2.below hb
  replace B := below_step B hb B.size
  clear hb ck hz
  by_cases hc : T.chk = 0
  rotate_left
  · have e0 : (T.chk != 0) = true := by simp [hc]
    clear hc
    generalize T.chk = E at *
    go_wp2
    go_ret
    exact ⟨rfl, B⟩
  have TCH := Lib.hid (tc_of hc)
  rw [hc]
  clear hc
  by_cases h30 : 30 < m
  · have t1 : decide ((30 : Int) < (m : Int)) = true := decide_eq_true (by omega)
    clear h30 hm hm2
    go_wp2
    go_ret
    exact ⟨rfl, B⟩
  have t1 : decide ((30 : Int) < (m : Int)) = false := decide_eq_false (by omega)
  by_cases h31 : 30 < m2
  · have t2 : decide ((30 : Int) < (m2 : Int)) = true := decide_eq_true (by omega)
    clear h30 h31 hm hm2
    go_wp2
    go_ret
    exact ⟨rfl, B⟩
  have t2 : decide ((30 : Int) < (m2 : Int)) = false := decide_eq_false (by omega)
  have H30 := Lib.hid (And.intro (Nat.le_of_not_lt h30) (Nat.le_of_not_lt h31))
  have KP := bx_new w4 [.slice A m q, .slice A2 m2 q2] 27
  have NP := below_new w4 (.cells #[.slice A m q, .slice A2 m2 q2] 27)
  have cC := concat_two A A2 m m2 q q2 c x s c2 x2 s2 (w4.alloc (.cells #[.slice A m q, .slice A2 m2 q2] 27)) w4.heap.size (KP.cell (i := 0) rfl) (KP.cell (i := 1) rfl) (hl.below NP) (hl2.below NP) (by omega) (by omega) HQ.out.1 HQ.out.2.1
  have hb := NP

  replace K := K.below hb
  replace h := h.below hb
  replace hl := hl.below hb
  replace hl2 := hl2.below hb
  replace B := below_step B hb B.size
  clear hb NP KP h30 h31 hm hm2
  go_wp2_with (fail)
  with_reducible refine cC.mono ?_
  rintro e w5 ⟨v, rfl, hown, hb⟩

  replace K := K.below hb
  replace h := h.below hb
  replace hl := hl.below hb
  replace hl2 := hl2.below hb
  replace B := below_step B hb B.size
  obtain ⟨N, hN⟩ : ∃ N, N = m + m2 := ⟨_, rfl⟩
  rw [← hN] at hown
  obtain ⟨Ac, cc, rfl, _, _⟩ := own_len hown
  have HBS := Lib.hid (bas_own hown)
  have HN := Lib.hid hN
  have H60 : Hid (N ≤ 60) := Lib.hid (by have := H30.out; omega)
  have HS := Lib.hid h
  have HL := Lib.hid (And.intro hl hl2)
  have HKB := Lib.hid K
  have HB := Lib.hid B
  clear hb cC hown hN h hl hl2 K B
  go_wp2
  have Bw := Below.refl w5.heap.size w5
  go_loopw [64] (fun j X => ∃ i : Nat, i ≤ N ∧ j = .int .i64 i ∧ Smb (cat m c c2) (cat m x x2) (cat m s s2) i ∧ Below w5.heap.size w5 X) (fun j _ => N - (intOf j).toNat)
  case atStart => exact ⟨0, Nat.zero_le _, rfl, fun j hj => absurd hj (Nat.not_lt_zero _), Bw⟩
  case round =>
    clear Bw
    obtain ⟨i, hi, rfl, hW, hbX⟩ := hrel
    by_cases hlt : i < N
    · have hil : (i : Int) < (N : Int) := by omega
      have hwi : wrap64 ((i : Int) + 1) = (i : Int) + 1 := IntWalk.wrap64_in _ (by have := H60.out; omega)
      obtain ⟨b, o, rfl, hcs⟩ := HBS.out (by omega)
      obtain ⟨g0, g1, g2⟩ := hcs i hlt
      replace g0 := cell_later hbX g0
      replace g1 := cell_later hbX g1
      replace g2 := cell_later hbX g2
      have KX := bx_new wr [.int .i64 (cat m c c2 i), .int .i64 (cat m x x2 i), .int .i64 (cat m s s2 i)] 39
      have NX := below_new wr (.cells #[.int .i64 (cat m c c2 i), .int .i64 (cat m x x2 i), .int .i64 (cat m s s2 i)] 39)
      have hbX2 := below_step hbX NX hbX.size
      have B2 := below_step HB.out hbX2 HB.out.size
      have kx_0 := KX.cell (i := 0) rfl
      have kx_1 := KX.cell (i := 1) rfl
      have kx_2 := KX.cell (i := 2) rfl
      have HW := Lib.hid hW
      have HI := Lib.hid hlt
      clear hW hcs hbX NX KX hlt hi
      generalize hcv : cat m c c2 i = cv at *
      generalize hxv : cat m x x2 i = xv at *
      generalize hsv : cat m s s2 i = sv at *
      have HV := Lib.hid (And.intro hcv (And.intro hxv hsv))
      clear hcv hxv hsv
      by_cases hin : xv ≤ 100000000 ∧ sv ≤ 100000000
      rotate_left
      · have key : decide (100000000 < xv) = true ∨ (decide (100000000 < xv) = false ∧ decide (100000000 < sv) = true) := by
          simp only [decide_eq_true_eq, decide_eq_false_iff_not]
          omega
        clear hin hbX2
        rcases key with l0 | ⟨l0, l1⟩
        all_goals
          go_wp2
          go_ret
          exact ⟨rfl, B2⟩
      have l0 : decide (100000000 < xv) = false := decide_eq_false (by omega)
      have l1 : decide (100000000 < sv) = false := decide_eq_false (by omega)
      have HIN := Lib.hid hin
      clear hin B2
      have NR := below_new (wr.alloc (.cells #[.int .i64 cv, .int .i64 xv, .int .i64 sv] 39)) (.cells #[.int .i64 cv, .int .i64 xv, .int .i64 sv] 2)
      have hbX3 := below_step hbX2 NR hbX2.size
      have B3 := below_step HB.out hbX3 HB.out.size
      obtain ⟨rb, hrb⟩ : ∃ rb, allB (f3 cv xv sv) 3 = rb := ⟨_, rfl⟩
      have cR := tright_any (some ⟨(wr.alloc (.cells #[.int .i64 cv, .int .i64 xv, .int .i64 sv] 39)).heap.size, 0, none⟩) 3 3 _ (f3 cv xv sv) (row_3b (wr.alloc (.cells #[.int .i64 cv, .int .i64 xv, .int .i64 sv] 39)) cv xv sv 2) (by omega) rb hrb
      rw [show (wr.alloc (.cells #[.int .i64 cv, .int .i64 xv, .int .i64 sv] 39)).heap.size = wr.heap.size + 1 by simp] at cR
      rw [all_three] at hrb
      have HRB := Lib.hid hrb
      clear hrb NR hbX2
      go_wp2_with (fail)
      with_reducible refine cR.mono ?_
      rintro e w7 ⟨rfl, hw7⟩
      subst hw7
      clear kx_0 kx_1 kx_2
      clear cR g0 g1 g2
      generalize ((wr.alloc (.cells #[.int .i64 cv, .int .i64 xv, .int .i64 sv] 39)).alloc (.cells #[.int .i64 cv, .int .i64 xv, .int .i64 sv] 2)) = w8 at *
      cases rb
      · clear hbX3
        go_wp2
        go_ret
        exact ⟨rfl, B3⟩
      have hWn : Smb (cat m c c2) (cat m x x2) (cat m s s2) (i + 1) := fun j hj => by
        by_cases e : j = i
        · subst e
          have h1 := HRB.out
          simp only [Bool.and_eq_true] at h1
          obtain ⟨⟨a1, a2⟩, a3⟩ := h1
          have b2 := amtB_yes a2
          have b3 := amtB_yes a3
          rw [HV.out.1, HV.out.2.1, HV.out.2.2]
          exact ⟨a1, ⟨b2.1, HIN.out.1⟩, b3.1, HIN.out.2⟩
        · exact HW.out j (by omega)
      have HWN := Lib.hid hWn
      clear hWn B3
      go_wp2
      exact ⟨⟨i + 1, Nat.succ_le_of_lt HI.out, by go_num, HWN.out, hbX3⟩, by rw [hwi]; exact meas_step HI.out⟩
    · obtain rfl : i = N := by omega
      have hnl : ¬ (i : Int) < (i : Int) := by omega
      have S1 : Smb c x s m := fun k hk => by
        have := hW k (by rw [HN.out]; omega)
        rwa [cat_lt hk, cat_lt hk, cat_lt hk] at this
      have S2 : Smb c2 x2 s2 m2 := fun k hk => by
        have := hW (m + k) (by rw [HN.out]; omega)
        rwa [cat_ge, cat_ge, cat_ge] at this
      have HSM := Lib.hid (And.intro S1 S2)
      have hS := HS.out.below hbX
      have hL := HL.out.1.below hbX
      have hL2 := HL.out.2.below hbX
      have K := HKB.out.below hbX
      have B2 := below_step HB.out hbX HB.out.size
      have cN2 := new_ok T.nC wr (Nat.le_trans TCH.out.ok.c6 (by omega))
      have k_0 := K.cell (i := 0) rfl
      have k_1 := K.cell (i := 1) rfl
      have k_2 := K.cell (i := 2) rfl
      have k_3 := K.cell (i := 3) rfl
      have k_4 := K.cell (i := 4) rfl
      clear S1 S2 hW hbX hlt hi HS HL HKB HB HBS
      go_wp2_with (fail)
      with_reducible refine cN2.mono ?_
      rintro e w6 ⟨p, rfl, hYr, hb⟩
      clear k_0 k_1 k_2 k_3 k_4
      have HS := Lib.hid hS
      have HL := Lib.hid (And.intro hL hL2)
      have HKB := Lib.hid K
      have HB := Lib.hid B2
      have hY0 : YrO w6 wr.heap.size p T.nC (smS (yrA T x s) 0) (smS (yrB' T x s) 0) ((0 + min 0 m2 : Nat) : Int) := by
        rw [show smS (yrA T x s) 0 = fun _ => 0 from funext fun _ => rfl, show smS (yrB' T x s) 0 = fun _ => 0 from funext fun _ => rfl, show ((0 + min 0 m2 : Nat) : Int) = 0 by omega]
        exact hYr
      obtain ⟨wz, hwz⟩ : ∃ wz, wz = wr := ⟨_, rfl⟩
      subst hwz
      have HQQ := Lib.hid HQ.out.2.2
      clear cN2 hYr hS hL hL2 K B2 HQ
      go_wp2
      go_loopw [99] (fun jj X => ∃ j : Nat, j ≤ m ∧ jj = .int .i64 j ∧ YrO X wz.heap.size p T.nC (smS (yrA T x s) j) (smS (yrB' T x s) j) ((j + min j m2 : Nat) : Int) ∧ Below wz.heap.size wz X) (fun jj _ => m - (intOf jj).toNat)
      case atStart => exact ⟨0, Nat.zero_le _, rfl, hY0, hb⟩
      case round =>
        clear hY0 hb
        obtain ⟨j, hj, rfl, hYv, hBv⟩ := hrel
        by_cases hlj : j < m
        · have hjl : (j : Int) < (m : Int) := by omega
          have hwj : wrap64 ((j : Int) + 1) = (j : Int) + 1 := IntWalk.wrap64_in _ (by have := H30.out.1; omega)
          have hwk : IntKind.i64.wrap ((j : Int) + 1) = (j : Int) + 1 := IntWalk.i64_in _ (by have := H30.out.1; omega)
          have hjq : (j : Int) + 1 ≤ (q : Int) := by have := HQQ.out; omega
          have hjq0 : (j : Int) ≤ (q : Int) := by omega
          have hjn : (0 : Int) ≤ (j : Int) := by omega
          have hjn1 : (0 : Int) ≤ (j : Int) + 1 := by omega
          obtain ⟨b, o, rfl, _⟩ := HL.out.1 (by omega)
          have HJ : Hid (j + 1 ≤ m) := Lib.hid hlj
          by_cases ho : j < m2
          rotate_left
          · have hnm : ¬ (j : Int) < (m2 : Int) := by omega
            have hUV := due_six TCH.out (c := c) (x := x) (s := s) (m := j) (fun k hk => HSM.out.1 k (by omega)) (by have := H30.out.1; omega)
            have HKK : Hid ((0 : Int) ≤ ((j + min j m2 : Nat) : Int) ∧ ((j + min j m2 : Nat) : Int) ≤ 1000000) := Lib.hid (by have := H30.out; omega)
            have hkk : ((j + min j m2 : Nat) : Int) + 1 = ((j + 1 + min (j + 1) m2 : Nat) : Int) := by omega
            have HKQ := Lib.hid hkk
            clear hlj hj ho hkk
            generalize ((j + min j m2 : Nat) : Int) = kk at *
            have hSv := HS.out.below hBv
            have K := HKB.out.below hBv
            have D1 : Below wr.heap.size wr wr.drew := (Below.refl _ _).drew
            have cT := tod_sm T (some ⟨b, o, none⟩) (j + 1) q c x s wr.drew (hSv.below D1) TCH.out (bas_pre ((HL.out.1.below hBv).below D1) HJ.out) (fun k hk => HSM.out.1 k (Nat.lt_of_lt_of_le hk HJ.out)) (by have := H30.out.1; have := HJ.out; omega)
            have k_0 := K.cell (i := 0) rfl
            have k_1 := K.cell (i := 1) rfl
            have k_2 := K.cell (i := 2) rfl
            have k_3 := K.cell (i := 3) rfl
            have k_4 := K.cell (i := 4) rfl
            have S1 : (wr.drew.cell? ⟨w.heap.size, 0, none⟩ = some (.slice T.AS T.nS T.cS) ∧ wr.drew.cell? ⟨w.heap.size, 1, none⟩ = some (.slice T.AC T.nC T.cC) ∧ wr.drew.cell? ⟨w.heap.size, 2, none⟩ = some (.slice T.AK T.nK T.cK) ∧ wr.drew.cell? ⟨w.heap.size, 3, none⟩ = some (.int .i64 T.L) ∧ wr.drew.cell? ⟨w.heap.size, 4, none⟩ = some (.int .i64 T.W)) := ⟨k_0, k_1, k_2, k_3, k_4⟩
            have mk : ∀ X : World, Below wr.heap.size wr X → (X.cell? ⟨w.heap.size, 0, none⟩ = some (.slice T.AS T.nS T.cS) ∧ X.cell? ⟨w.heap.size, 1, none⟩ = some (.slice T.AC T.nC T.cC) ∧ X.cell? ⟨w.heap.size, 2, none⟩ = some (.slice T.AK T.nK T.cK) ∧ X.cell? ⟨w.heap.size, 3, none⟩ = some (.int .i64 T.L) ∧ X.cell? ⟨w.heap.size, 4, none⟩ = some (.int .i64 T.W)) := fun X hb => ⟨cell_later hb k_0, cell_later hb k_1, cell_later hb k_2, cell_later hb k_3, cell_later hb k_4⟩
            clear K hSv
            go_wp2
            go_cut [18, 19, 99] from 99 to 186 (fun s18 s19 s99 wx => s99 = .int .i64 (j : Int) ∧ ∃ bd : Nat, s18 = .slice (some ⟨bd, 0, none⟩) T.nC T.nC ∧ s19 = .int .i64 0 ∧ wr.heap.size ≤ bd ∧ ShB wx bd T.nC (smS (yrA T x s) (j + 1)) (smS (yrB' T x s) (j + 1)) ∧ Below wr.heap.size wr wx)
            case first =>
              as_aux_lemma =>
                clear hYv
                go_region_held3 (fun X => (X.cell? ⟨w.heap.size, 0, none⟩ = some (.slice T.AS T.nS T.cS) ∧ X.cell? ⟨w.heap.size, 1, none⟩ = some (.slice T.AC T.nC T.cC) ∧ X.cell? ⟨w.heap.size, 2, none⟩ = some (.slice T.AK T.nK T.cK) ∧ X.cell? ⟨w.heap.size, 3, none⟩ = some (.int .i64 T.L) ∧ X.cell? ⟨w.heap.size, 4, none⟩ = some (.int .i64 T.W)))
                  ((first | exact S1 | assumption))
                  (first
                    | (go_at_call 10; (with_reducible refine cT.mono ?_); rintro e w9 ⟨bd, rfl, hbd, hSh, hb9⟩; have hw9 := below_step D1 hb9 D1.size; have S9 := mk w9 hw9))
                all_goals
                  clear S1 S9 mk cT k_0 k_1 k_2 k_3 k_4
                  go_wp2_with fail
                  go_meet
                  case rel => exact ⟨rfl, bd, rfl, rfl, hbd, hSh, hw9⟩
            case rest =>
            obtain ⟨rfl, bd, rfl, rfl, hbd, hSh, hbc⟩ := hcut
            have hpl : p < wr.heap.size := yro_lt hYv
            have hYc := hYv.below hbc
            have hBc := below_step hBv hbc hBv.size
            have hE := dl_sm (due_six TCH.out (fun k hk => HSM.out.1 k (Nat.lt_of_lt_of_le hk HJ.out)) (by have := H30.out.1; have := HJ.out; omega) : ∀ i, i < T.nC → (0 ≤ smS (yrA T x s) (j + 1) i ∧ smS (yrA T x s) (j + 1) i ≤ 6000000000) ∧ 0 ≤ smS (yrB' T x s) (j + 1) i ∧ smS (yrB' T x s) (j + 1) i ≤ 6000000000) hUV
            have cR := reach_ok (some ⟨bd, 0, none⟩) T.nC hYc hSh.shs (Nat.le_trans TCH.out.ok.c6 (by omega)) hBc.size hE HKK.out.1 HKK.out.2
            clear hE hUV hYv hBv D1 S1 mk cT k_0 k_1 k_2 k_3 k_4 HKK
            go_wp2_with (fail)
            with_reducible refine cR.mono ?_
            rintro e w8 ⟨vr2, rfl, _, hY8, hsame, hsz, hBel⟩
            have hB8 := hBel _ hBc
            have hSh8 := shb_far hSh (hsame bd (World.rowIs.lt hSh) (by omega))
            have cP := posted_ok hY8 (Nat.le_trans TCH.out.ok.c6 (by omega))
            clear cR hYc hBc hbc hSh hsame hsz hBel hbd hpl
            go_wp2_with (fail)
            with_reducible refine cP.mono ?_
            rintro e w9 ⟨bp, rfl, _, hP, hb9⟩
            have hSh9 := hSh8.below hb9
            have hY9 := hY8.below hb9
            have hB9 := below_step hB8 hb9 hB8.size
            have cE := eqr2 (some ⟨bp, 0, none⟩) (some ⟨bd, 0, none⟩) T.nC T.nC T.nC w9 _ _ hP.shs hSh9.shs (Nat.le_trans TCH.out.ok.c6 (by omega))
            clear cP hSh8 hY8 hB8 hb9 hP
            go_wp2_with (fail)
            with_reducible refine cE.mono ?_
            rintro e w10 ⟨rfl, hb10⟩
            have hSh10 := hSh9.below hb10
            have hY10 := hY9.below hb10
            have hB10 := below_step hB9 hb10 hB9.size
            obtain ⟨su, sv, hTV, hu0, hv0⟩ := tot_sm TCH.out (c := c) (x := x) (s := s) (m := j + 1) (fun k hk => HSM.out.1 k (Nat.lt_of_lt_of_le hk HJ.out)) (by have := H30.out.1; have := HJ.out; omega)
            have cS := sides_any (some ⟨bd, 0, none⟩) T.nC T.nC w10 _ _ hSh10.shs (Nat.le_trans TCH.out.ok.c6 (by omega))
            rw [hTV] at cS
            clear cE hSh9 hY9 hB9 hb10
            go_wp2_with (fail)
            with_reducible refine cS.mono ?_
            rintro e w11 ⟨rfl, hb11⟩
            have KS := bx_new w11 [.int .i64 su, .int .i64 sv] 47
            have NS := below_new w11 (.cells #[.int .i64 su, .int .i64 sv] 47)
            have hSh12 := (hSh10.below hb11).below NS
            have hY12 := (hY10.below hb11).below NS
            have hB11 := below_step hB10 hb11 hB10.size
            have hB12 := below_step hB11 NS hB11.size
            have cO := total_any (some ⟨bd, 0, none⟩) T.nC T.nC _ _ _ hSh12.shs (Nat.le_trans TCH.out.ok.c6 (by omega))
            rw [hTV] at cO
            clear cS hSh10 hY10 hB10 hB11 hb11 NS hTV
            go_wp2_with (fail)
            with_reducible refine cO.mono ?_
            rintro e w13 ⟨rfl, hb13⟩
            replace KS := KS.below hb13
            have hY13 := hY12.below hb13
            have hB13 := below_step hB12 hb13 hB12.size
            have KO := bx_new w13 [.int .i64 su, .int .i64 sv] 47
            have NO := below_new w13 (.cells #[.int .i64 su, .int .i64 sv] 47)
            replace KS := KS.below NO
            have hY14 := Lib.hid (hY13.below NO)
            have hB14 := Lib.hid (below_step hB13 NO hB13.size)
            have u1 : decide (su < 0) = false := decide_eq_false (by omega)
            have u2 : decide (sv < 0) = false := decide_eq_false (by omega)
            have hne := neq_sh su sv
            have ks_0 := KS.cell (i := 0) rfl
            have ks_1 := KS.cell (i := 1) rfl
            have ko_0 := KO.cell (i := 0) rfl
            have ko_1 := KO.cell (i := 1) rfl
            clear cO hSh12 hY12 hB12 hb13 hY13 hB13 NO KS KO hu0 hv0
            go_wp2
            exact ⟨⟨j + 1, HJ.out, by go_num, by have := hY14.out; rwa [HKQ.out] at this, hB14.out⟩, by first | exact meas_step HJ.out | (rw [hwj]; exact meas_step HJ.out)⟩
          · have hnm : (j : Int) < (m2 : Int) := by omega
            have hUV0 := due_six TCH.out (c := c) (x := x) (s := s) (m := j) (fun k hk => HSM.out.1 k (by omega)) (by have := H30.out.1; omega)
            have hsmo : Smb (cat j c (fun _ => c2 j)) (cat j x (fun _ => x2 j)) (cat j s (fun _ => s2 j)) (j + 1) := fun k hk => by
              rcases Nat.lt_or_ge k j with e | e
              · rw [cat_lt e, cat_lt e, cat_lt e]; exact HSM.out.1 k (by omega)
              · obtain rfl : k = j := by omega
                have e1 := cat_ge (m := k) (f := c) (g := fun _ => c2 k) 0
                have e2 := cat_ge (m := k) (f := x) (g := fun _ => x2 k) 0
                have e3 := cat_ge (m := k) (f := s) (g := fun _ => s2 k) 0
                rw [Nat.add_zero] at e1 e2 e3
                rw [e1, e2, e3]; exact HSM.out.2 k (by omega)
            have hUV := due_six TCH.out hsmo (by have := H30.out.1; omega)
            have HKK0 : Hid ((0 : Int) ≤ ((j + min j m2 : Nat) : Int) ∧ ((j + min j m2 : Nat) : Int) ≤ 1000000) := Lib.hid (by have := H30.out; omega)
            have HKK : Hid ((0 : Int) ≤ ((j + min j m2 : Nat) : Int) + 1 ∧ ((j + min j m2 : Nat) : Int) + 1 ≤ 1000000) := Lib.hid (by have := H30.out; omega)
            have hkk : ((j + min j m2 : Nat) : Int) + 1 + 1 = ((j + 1 + min (j + 1) m2 : Nat) : Int) := by omega
            have HKQ := Lib.hid hkk
            obtain ⟨b2, o2, rfl, hc2⟩ := HL.out.2 (by omega)
            obtain ⟨d0, d1, d2⟩ := hc2 j ho
            replace d0 := cell_later hBv d0
            replace d1 := cell_later hBv d1
            replace d2 := cell_later hBv d2
            have hc3 : Hid (j + 1 ≤ maxLen) := Lib.hid (by have := H30.out.1; unfold maxLen; omega)
            have hc4 : Hid ((j + 1) * 24 ≤ 140737488355328) := Lib.hid (by have := H30.out.1; omega)
            have hj3 : Hid (j + 1 ≤ 60) := Lib.hid (by have := H30.out.1; omega)
            have hlst : ∀ V, Below wr.heap.size wr V → BasM V (some ⟨b, o, none⟩) j c x s := fun V hb => (bas_pre (HL.out.1.below hBv) (by omega)).below hb
            have hSv := HS.out.below hBv
            have K := HKB.out.below hBv
            clear hlj hj ho hkk hc2
            generalize ((j + min j m2 : Nat) : Int) = kk at *
            have cl : ∀ V, Below wr.heap.size wr V → Calls Try.prog 11 #[.slice (some ⟨b, o, none⟩) j q] V (ClP 39 3 (bs3 c x s j) j V) := fun V hb => clo3b (some ⟨b, o, none⟩) j q V c x s (hlst V hb) (by have := hj3.out; omega) (fun e => nomatch e)
            obtain ⟨i0, hi0, hz0, hz1, hz2⟩ := info_parts infoBs
            have Hi := Lib.hid hi0
            have Hz := Lib.hid hz0
            have k_0 := K.cell (i := 0) rfl
            have k_1 := K.cell (i := 1) rfl
            have k_2 := K.cell (i := 2) rfl
            have k_3 := K.cell (i := 3) rfl
            have k_4 := K.cell (i := 4) rfl
            have hw : Below wr.heap.size wr wr.drew := (Below.refl _ _).drew
            have hwa : Below wr.heap.size wr (wr.drew.alloc (.cells #[.int .i64 (c2 j), .int .i64 (x2 j), .int .i64 (s2 j)] 39)) := hw.alloc hw.size _
            have hwb : Below wr.heap.size wr (wr.alloc (.cells #[.int .i64 (c2 j), .int .i64 (x2 j), .int .i64 (s2 j)] 39)).drew := (below_new wr _).drew
            have KA : Bx (wr.drew.alloc (.cells #[.int .i64 (c2 j), .int .i64 (x2 j), .int .i64 (s2 j)] 39)) wr.heap.size 39 [.int .i64 (c2 j), .int .i64 (x2 j), .int .i64 (s2 j)] := bx_at wr.drew [.int .i64 (c2 j), .int .i64 (x2 j), .int .i64 (s2 j)] 39 rfl
            have KB : Bx (wr.alloc (.cells #[.int .i64 (c2 j), .int .i64 (x2 j), .int .i64 (s2 j)] 39)).drew wr.heap.size 39 [.int .i64 (c2 j), .int .i64 (x2 j), .int .i64 (s2 j)] := bx_new wr [.int .i64 (c2 j), .int .i64 (x2 j), .int .i64 (s2 j)] 39
            have S1 : (wr.drew.cell? ⟨w.heap.size, 0, none⟩ = some (.slice T.AS T.nS T.cS) ∧ wr.drew.cell? ⟨w.heap.size, 1, none⟩ = some (.slice T.AC T.nC T.cC) ∧ wr.drew.cell? ⟨w.heap.size, 2, none⟩ = some (.slice T.AK T.nK T.cK) ∧ wr.drew.cell? ⟨w.heap.size, 3, none⟩ = some (.int .i64 T.L) ∧ wr.drew.cell? ⟨w.heap.size, 4, none⟩ = some (.int .i64 T.W) ∧ wr.drew.cell? ⟨b2, o2 + j * 3, none⟩ = some (.int .i64 (c2 j)) ∧ wr.drew.cell? ⟨b2, o2 + j * 3 + 1, none⟩ = some (.int .i64 (x2 j)) ∧ wr.drew.cell? ⟨b2, o2 + j * 3 + 2, none⟩ = some (.int .i64 (s2 j))) := ⟨k_0, k_1, k_2, k_3, k_4, d0, d1, d2⟩
            have mk9 : ∀ X : World, Below wr.heap.size wr X → (X.cell? ⟨w.heap.size, 0, none⟩ = some (.slice T.AS T.nS T.cS) ∧ X.cell? ⟨w.heap.size, 1, none⟩ = some (.slice T.AC T.nC T.cC) ∧ X.cell? ⟨w.heap.size, 2, none⟩ = some (.slice T.AK T.nK T.cK) ∧ X.cell? ⟨w.heap.size, 3, none⟩ = some (.int .i64 T.L) ∧ X.cell? ⟨w.heap.size, 4, none⟩ = some (.int .i64 T.W) ∧ X.cell? ⟨b2, o2 + j * 3, none⟩ = some (.int .i64 (c2 j)) ∧ X.cell? ⟨b2, o2 + j * 3 + 1, none⟩ = some (.int .i64 (x2 j)) ∧ X.cell? ⟨b2, o2 + j * 3 + 2, none⟩ = some (.int .i64 (s2 j))) := fun X hb => ⟨cell_later hb k_0, cell_later hb k_1, cell_later hb k_2, cell_later hb k_3, cell_later hb k_4, cell_later hb d0, cell_later hb d1, cell_later hb d2⟩
            have hone : ∀ u ∈ ([.int .i64 (c2 j), .int .i64 (x2 j), .int .i64 (s2 j)] : List Value), u.oneCell' = true := by simp [Value.oneCell']
            have mkT : ∀ (X : World) (g9 cap9 : Nat), Below wr.heap.size wr X → X.ownsRow wr.heap.size 39 3 (.slice (some ⟨g9, 0, none⟩) (j + 1) cap9) (j + 1) (bs3 c x s j ++ [.int .i64 (c2 j), .int .i64 (x2 j), .int .i64 (s2 j)]) → Calls Try.prog 10 #[.agg #[.slice T.AS T.nS T.cS, .slice T.AC T.nC T.cC, .slice T.AK T.nK T.cK, .int .i64 T.L, .int .i64 T.W], .slice (some ⟨g9, 0, none⟩) (j + 1) cap9] X fun e w' => ∃ b, e = .returned (.tuple #[.slice (some ⟨b, 0, none⟩) T.nC T.nC, .int .i64 0]) ∧ X.heap.size ≤ b ∧ ShB w' b T.nC (smS (yrA T (cat j x (fun _ => x2 j)) (cat j s (fun _ => s2 j))) (j + 1)) (smS (yrB' T (cat j x (fun _ => x2 j)) (cat j s (fun _ => s2 j))) (j + 1)) ∧ Below X.heap.size X w' := fun X g9 cap9 hb hO => by
              have e := bs3_cat c x s (fun _ => c2 j) (fun _ => x2 j) (fun _ => s2 j) j 1
              have O9 : X.ownsRow wr.heap.size 39 3 (.slice (some ⟨g9, 0, none⟩) (j + 1) cap9) (j + 1) (bs3 (cat j c (fun _ => c2 j)) (cat j x (fun _ => x2 j)) (cat j s (fun _ => s2 j)) (j + 1)) := by
                rw [← e]
                exact hO
              exact tod_sm T (some ⟨g9, 0, none⟩) (j + 1) cap9 _ _ _ X (hSv.below hb) TCH.out (bas_own O9) hsmo hj3.out
            clear hi0 hz0 K hlst
            go_wp2
            go_cut [14, 15, 99] from 99 to 186 (fun s14 s15 s99 wx => s99 = .int .i64 (j : Int) ∧ ∃ bo : Nat, s14 = .slice (some ⟨bo, 0, none⟩) T.nC T.nC ∧ s15 = .int .i64 0 ∧ wr.heap.size ≤ bo ∧ ShB wx bo T.nC (smS (yrA T (cat j x (fun _ => x2 j)) (cat j s (fun _ => s2 j))) (j + 1)) (smS (yrB' T (cat j x (fun _ => x2 j)) (cat j s (fun _ => s2 j))) (j + 1)) ∧ Below wr.heap.size wr wx)
            case first =>
              clear hYv hUV hUV0 hsmo hSv
              go_region_law
                (first
                  | (refine step_append_lies _ (by rfl) (.tmp 111) (.tmp 116) 27 (by rfl) wr.heap.size 39 i0 (.agg #[.int .i64 0, .int .i64 0, .int .i64 0]) 3 24 Try.underlying27 Hi.out Hz.out hz1 hz2 (by rfl) (by decide) (.slice A6 j c6) j (bs3 c x s j) (by rfl) hown7 ⟨_, 0, none⟩ 1 1 [.int .i64 (c2 j), .int .i64 (x2 j), .int .i64 (s2 j)] (by rfl) (by rfl) (bx_add K7) hone (by decide) hc3.out hc4.out hw7.size _ rfl ?_; intro g9 cap9 w9 hown9 hgrow hat hlt9; have hw9 := hw7.grown hgrow hw7.size (fun k hk => (hown7.lt k hk).1); obtain ⟨p0, p1, p2, p3, p4, p5, p6, p7⟩ := mk9 w9 hw9)
                  | (go_simp; go_at_call 11; (with_reducible refine (cl _ hw).mono ?_); rintro e w6 ⟨v, rfl, hown, hb⟩; obtain ⟨A6, c6, rfl, _, _⟩ := own_len hown; have hw6 := below_step hw hb hw.size; have K7 := bx_new w6 [.int .i64 (c2 j), .int .i64 (x2 j), .int .i64 (s2 j)] 39; have hw7 := hw6.alloc hw6.size (.cells #[.int .i64 (c2 j), .int .i64 (x2 j), .int .i64 (s2 j)] 39); have hown7 := own_mono (own_below hown (below_new w6 (.cells #[.int .i64 (c2 j), .int .i64 (x2 j), .int .i64 (s2 j)] 39))) (show wr.heap.size ≤ _ from hw.size); obtain ⟨p0, p1, p2, p3, p4, p5, p6, p7⟩ := mk9 w6 hw6; obtain ⟨r0, r1, r2, r3, r4, r5, r6, r7⟩ := mk9 (w6.alloc (.cells #[.int .i64 (c2 j), .int .i64 (x2 j), .int .i64 (s2 j)] 39)) hw7)
                  | (go_simp; go_at_call 11; (with_reducible refine (cl _ hwa).mono ?_); rintro e w6 ⟨v, rfl, hown, hb⟩; obtain ⟨A6, c6, rfl, _, _⟩ := own_len hown; have hw7 := below_step hwa hb hwa.size; have K7 := KA.below hb; have hown7 := own_mono hown (show wr.heap.size ≤ _ from hwa.size); obtain ⟨p0, p1, p2, p3, p4, p5, p6, p7⟩ := mk9 w6 hw7)
                  | (go_simp; go_at_call 11; (with_reducible refine (cl _ hwb).mono ?_); rintro e w6 ⟨v, rfl, hown, hb⟩; obtain ⟨A6, c6, rfl, _, _⟩ := own_len hown; have hw7 := below_step hwb hb hwb.size; have K7 := KB.below hb; have hown7 := own_mono hown (show wr.heap.size ≤ _ from hwb.size); obtain ⟨p0, p1, p2, p3, p4, p5, p6, p7⟩ := mk9 w6 hw7)
                  | (go_simp; go_at_call 10; (with_reducible refine (mkT w9 g9 cap9 hw9 hown9).mono ?_); rintro e w10 ⟨bo, rfl, hbo, hSh, hb10⟩; have hw10 := below_step hw9 hb10 hw9.size))
              all_goals
                have hbo2 := Nat.le_trans hw9.size hbo
                clear S1 mk9 mkT cl hown9 hgrow hat hlt9 hw9 K7 hown7 hw7 KA KB hwa hwb hw
                go_wp2_with fail
                go_meet
                case rel => exact ⟨rfl, bo, rfl, rfl, hbo2, hSh, hw10⟩
            case rest =>
            obtain ⟨rfl, bo, rfl, rfl, hbo, hSh, hbc⟩ := hcut
            have hYc := hYv.below hbc
            have hBc := below_step hBv hbc hBv.size
            have hE := dl_sm hUV hUV0
            have cR0 := reach_ok (some ⟨bo, 0, none⟩) T.nC hYc hSh.shs (Nat.le_trans TCH.out.ok.c6 (by omega)) hBc.size hE HKK0.out.1 HKK0.out.2
            clear k_0 k_1 k_2 k_3 k_4
            clear hE hUV0 hYv hBv S1 mk9 mkT cl hone hc3 hc4 hw hwa hwb KA KB hbo hSv d0 d1 d2 hsmo hj3 hz1 hz2 Hi Hz
            go_wp2_with (fail)
            with_reducible refine cR0.mono ?_
            rintro e w7 ⟨vr1, rfl, _, hYv, _, _, hBel⟩
            have hBv := hBel _ hBc
            clear hBel hBc hbc hYc cR0 hSh HKK0
            have hSv := HS.out.below hBv
            have K := HKB.out.below hBv
            have D1 : Below w7.heap.size w7 w7.drew := (Below.refl _ _).drew
            have cT := tod_sm T (some ⟨b, o, none⟩) (j + 1) q c x s w7.drew (hSv.below D1) TCH.out (bas_pre ((HL.out.1.below hBv).below D1) HJ.out) (fun k hk => HSM.out.1 k (Nat.lt_of_lt_of_le hk HJ.out)) (by have := H30.out.1; have := HJ.out; omega)
            have k_0 := K.cell (i := 0) rfl
            have k_1 := K.cell (i := 1) rfl
            have k_2 := K.cell (i := 2) rfl
            have k_3 := K.cell (i := 3) rfl
            have k_4 := K.cell (i := 4) rfl
            have S1 : (w7.drew.cell? ⟨w.heap.size, 0, none⟩ = some (.slice T.AS T.nS T.cS) ∧ w7.drew.cell? ⟨w.heap.size, 1, none⟩ = some (.slice T.AC T.nC T.cC) ∧ w7.drew.cell? ⟨w.heap.size, 2, none⟩ = some (.slice T.AK T.nK T.cK) ∧ w7.drew.cell? ⟨w.heap.size, 3, none⟩ = some (.int .i64 T.L) ∧ w7.drew.cell? ⟨w.heap.size, 4, none⟩ = some (.int .i64 T.W)) := ⟨k_0, k_1, k_2, k_3, k_4⟩
            have mk : ∀ X : World, Below w7.heap.size w7 X → (X.cell? ⟨w.heap.size, 0, none⟩ = some (.slice T.AS T.nS T.cS) ∧ X.cell? ⟨w.heap.size, 1, none⟩ = some (.slice T.AC T.nC T.cC) ∧ X.cell? ⟨w.heap.size, 2, none⟩ = some (.slice T.AK T.nK T.cK) ∧ X.cell? ⟨w.heap.size, 3, none⟩ = some (.int .i64 T.L) ∧ X.cell? ⟨w.heap.size, 4, none⟩ = some (.int .i64 T.W)) := fun X hb => ⟨cell_later hb k_0, cell_later hb k_1, cell_later hb k_2, cell_later hb k_3, cell_later hb k_4⟩
            clear K hSv
            go_wp2
            go_cut [18, 19, 99] from 99 to 186 (fun s18 s19 s99 wx => s99 = .int .i64 (j : Int) ∧ ∃ bd : Nat, s18 = .slice (some ⟨bd, 0, none⟩) T.nC T.nC ∧ s19 = .int .i64 0 ∧ w7.heap.size ≤ bd ∧ ShB wx bd T.nC (smS (yrA T x s) (j + 1)) (smS (yrB' T x s) (j + 1)) ∧ Below w7.heap.size w7 wx)
            case first =>
              as_aux_lemma =>
                clear hYv
                go_region_held3 (fun X => (X.cell? ⟨w.heap.size, 0, none⟩ = some (.slice T.AS T.nS T.cS) ∧ X.cell? ⟨w.heap.size, 1, none⟩ = some (.slice T.AC T.nC T.cC) ∧ X.cell? ⟨w.heap.size, 2, none⟩ = some (.slice T.AK T.nK T.cK) ∧ X.cell? ⟨w.heap.size, 3, none⟩ = some (.int .i64 T.L) ∧ X.cell? ⟨w.heap.size, 4, none⟩ = some (.int .i64 T.W)))
                  ((first | exact S1 | assumption))
                  (first
                    | (go_at_call 10; (with_reducible refine cT.mono ?_); rintro e w9 ⟨bd, rfl, hbd, hSh, hb9⟩; have hw9 := below_step D1 hb9 D1.size; have S9 := mk w9 hw9))
                all_goals
                  clear S1 S9 mk cT k_0 k_1 k_2 k_3 k_4
                  go_wp2_with fail
                  go_meet
                  case rel => exact ⟨rfl, bd, rfl, rfl, hbd, hSh, hw9⟩
            case rest =>
            obtain ⟨rfl, bd, rfl, rfl, hbd, hSh, hbc⟩ := hcut
            have hpl : p < w7.heap.size := yro_lt hYv
            have hYc := hYv.below hbc
            have hBc := below_step hBv hbc hBv.size
            have hE := dl_sm (due_six TCH.out (fun k hk => HSM.out.1 k (Nat.lt_of_lt_of_le hk HJ.out)) (by have := H30.out.1; have := HJ.out; omega) : ∀ i, i < T.nC → (0 ≤ smS (yrA T x s) (j + 1) i ∧ smS (yrA T x s) (j + 1) i ≤ 6000000000) ∧ 0 ≤ smS (yrB' T x s) (j + 1) i ∧ smS (yrB' T x s) (j + 1) i ≤ 6000000000) hUV
            have cR := reach_ok (some ⟨bd, 0, none⟩) T.nC hYc hSh.shs (Nat.le_trans TCH.out.ok.c6 (by omega)) hBc.size hE HKK.out.1 HKK.out.2
            clear hE hUV hYv hBv D1 S1 mk cT k_0 k_1 k_2 k_3 k_4 HKK
            go_wp2_with (fail)
            with_reducible refine cR.mono ?_
            rintro e w8 ⟨vr2, rfl, _, hY8, hsame, hsz, hBel⟩
            have hB8 := hBel _ hBc
            have hSh8 := shb_far hSh (hsame bd (World.rowIs.lt hSh) (by omega))
            have cP := posted_ok hY8 (Nat.le_trans TCH.out.ok.c6 (by omega))
            clear cR hYc hBc hbc hSh hsame hsz hBel hbd hpl
            go_wp2_with (fail)
            with_reducible refine cP.mono ?_
            rintro e w9 ⟨bp, rfl, _, hP, hb9⟩
            have hSh9 := hSh8.below hb9
            have hY9 := hY8.below hb9
            have hB9 := below_step hB8 hb9 hB8.size
            have cE := eqr2 (some ⟨bp, 0, none⟩) (some ⟨bd, 0, none⟩) T.nC T.nC T.nC w9 _ _ hP.shs hSh9.shs (Nat.le_trans TCH.out.ok.c6 (by omega))
            clear cP hSh8 hY8 hB8 hb9 hP
            go_wp2_with (fail)
            with_reducible refine cE.mono ?_
            rintro e w10 ⟨rfl, hb10⟩
            have hSh10 := hSh9.below hb10
            have hY10 := hY9.below hb10
            have hB10 := below_step hB9 hb10 hB9.size
            obtain ⟨su, sv, hTV, hu0, hv0⟩ := tot_sm TCH.out (c := c) (x := x) (s := s) (m := j + 1) (fun k hk => HSM.out.1 k (Nat.lt_of_lt_of_le hk HJ.out)) (by have := H30.out.1; have := HJ.out; omega)
            have cS := sides_any (some ⟨bd, 0, none⟩) T.nC T.nC w10 _ _ hSh10.shs (Nat.le_trans TCH.out.ok.c6 (by omega))
            rw [hTV] at cS
            clear cE hSh9 hY9 hB9 hb10
            go_wp2_with (fail)
            with_reducible refine cS.mono ?_
            rintro e w11 ⟨rfl, hb11⟩
            have KS := bx_new w11 [.int .i64 su, .int .i64 sv] 47
            have NS := below_new w11 (.cells #[.int .i64 su, .int .i64 sv] 47)
            have hSh12 := (hSh10.below hb11).below NS
            have hY12 := (hY10.below hb11).below NS
            have hB11 := below_step hB10 hb11 hB10.size
            have hB12 := below_step hB11 NS hB11.size
            have cO := total_any (some ⟨bd, 0, none⟩) T.nC T.nC _ _ _ hSh12.shs (Nat.le_trans TCH.out.ok.c6 (by omega))
            rw [hTV] at cO
            clear cS hSh10 hY10 hB10 hB11 hb11 NS hTV
            go_wp2_with (fail)
            with_reducible refine cO.mono ?_
            rintro e w13 ⟨rfl, hb13⟩
            replace KS := KS.below hb13
            have hY13 := hY12.below hb13
            have hB13 := below_step hB12 hb13 hB12.size
            have KO := bx_new w13 [.int .i64 su, .int .i64 sv] 47
            have NO := below_new w13 (.cells #[.int .i64 su, .int .i64 sv] 47)
            replace KS := KS.below NO
            have hY14 := Lib.hid (hY13.below NO)
            have hB14 := Lib.hid (below_step hB13 NO hB13.size)
            have u1 : decide (su < 0) = false := decide_eq_false (by omega)
            have u2 : decide (sv < 0) = false := decide_eq_false (by omega)
            have hne := neq_sh su sv
            have ks_0 := KS.cell (i := 0) rfl
            have ks_1 := KS.cell (i := 1) rfl
            have ko_0 := KO.cell (i := 0) rfl
            have ko_1 := KO.cell (i := 1) rfl
            clear cO hSh12 hY12 hB12 hb13 hY13 hB13 NO KS KO hu0 hv0
            go_wp2
            exact ⟨⟨j + 1, HJ.out, by go_num, by have := hY14.out; rwa [HKQ.out] at this, hB14.out⟩, by first | exact meas_step HJ.out | (rw [hwj]; exact meas_step HJ.out)⟩
        · obtain rfl : m = j := by omega
          have hnl2 : ¬ (m : Int) < (m : Int) := by omega
          have BF := below_step HB.out hBv HB.out.size
          have hw1 : wrap64 ((m : Int) + (m : Int)) = (m : Int) + (m : Int) := IntWalk.wrap64_in _ (by have := H30.out.1; omega)
          have hw2 : wrap64 ((m : Int) + (m2 : Int)) = (m : Int) + (m2 : Int) := IntWalk.wrap64_in _ (by have := H30.out; omega)
          have cQ := posts_is hYv
          clear hYv hBv hlj hj
          rcases Nat.le_total m m2 with e | e
          · have e1 : min (m : Int) (m2 : Int) = (m : Int) := by omega
            rw [show ((m + min m m2 : Nat) : Int) = (m : Int) + (m : Int) by omega] at cQ
            have n3 : ((m : Int) + (m : Int) == (m : Int) + (m : Int)) = true := by simp
            clear e
            go_wp2_with (fail)
            with_reducible refine cQ.mono ?_
            rintro e w8 ⟨rfl, rfl⟩
            go_wp2
            go_ret
            exact ⟨rfl, BF⟩
          · have e1 : min (m : Int) (m2 : Int) = (m2 : Int) := by omega
            rw [show ((m + min m m2 : Nat) : Int) = (m : Int) + (m2 : Int) by omega] at cQ
            have n3 : ((m : Int) + (m2 : Int) == (m : Int) + (m2 : Int)) = true := by simp
            clear e
            go_wp2_with (fail)
            with_reducible refine cQ.mono ?_
            rintro e w8 ⟨rfl, rfl⟩
            go_wp2
            go_ret
            exact ⟨rfl, BF⟩
end Go.Proofs.Ytffihnbpjcgicaa
