/- The walk of the law WholeTax. -/
import Derived.Test.YtffihnbpjcgicaaDoorWtA
import Derived.Deep.RegionHeld3
import Derived.Deep.CutBlock
import Derived.StillTailTactics
import Derived.Deep.RegionLaw
import Derived.Deep.AppendLies
namespace Go.Proofs.YtffihnbpjcgicaaDoor
open Go.RowKit Go.Sort
set_option linter.unusedVariables false
set_option linter.unusedSimpArgs false

set_option maxRecDepth 100000 in
set_option maxHeartbeats 16000000 in
theorem wWholeTax (T : TB) (A : Option Addr) (m q : Nat) (g : Nat → St) (A2 : Option Addr) (m2 q2 : Nat) (cs : Nat → Int) (w : World) (hK : Kinds w) (h : Tm w T) (hF : TFits T) (hA : Sts w A m g) (hm : m ≤ 9223372036854775807) (hg : ∀ i, i < m → (g i).F) (hC : rowAt w A2 m2 fun i => .int .i64 (cs i)) (hm2 : m2 ≤ 9223372036854775807) (hcb : ∀ i, -9223372036854775808 ≤ cs i ∧ cs i ≤ 9223372036854775807) :
    Calls Tryd.prog 8 #[.agg #[.slice T.AS T.nS T.cS, .slice T.AC T.nC T.cC, .slice T.AK T.nK T.cK, .int .i64 T.L, .int .i64 T.W], .slice A m q, .slice A2 m2 q2] w fun e w' => e = .returned (.bool true) ∧ Below w.heap.size w w' := by
  have hz := tsz_of hF
  have HG := Lib.hid hg
  obtain ⟨i0, hi0, hz0, hz1, hz2⟩ := info_parts infoPy
  have Hi := Lib.hid hi0
  have Hz := Lib.hid hz0
  clear hF hg hi0 hz0 hcb
  have K := bx_new w [.slice T.AS T.nS T.cS, .slice T.AC T.nC T.cC, .slice T.AK T.nK T.cK, .int .i64 T.L, .int .i64 T.W] 71
  have B := below_new w (.cells #[.slice T.AS T.nS T.cS, .slice T.AC T.nC T.cC, .slice T.AK T.nK T.cK, .int .i64 T.L, .int .i64 T.W] 71)
  have cL := Hd.limit_ok none none none 0 0 0 0 0 0 5000 0 10 (w.alloc (.cells #[.slice T.AS T.nS T.cS, .slice T.AC T.nC T.cC, .slice T.AK T.nK T.cK, .int .i64 T.L, .int .i64 T.W] 71)) (by omega) rfl
  rw [show Hd.limV 5000 10 = 5 from by decide] at cL
  replace h := h.below B
  replace hK := hK.below B
  replace hA := hA.below B
  replace hC := row_later hC B
  have z0 : (w.alloc (.cells #[.slice T.AS T.nS T.cS, .slice T.AC T.nC T.cC, .slice T.AK T.nK T.cK, .int .i64 T.L, .int .i64 T.W] 71)).heap.size = w.heap.size + 1 := by simp
  clear z0
  go_enter Tryd.func8, Tryd.ntmps8
  go_wp2_with (fail)
  with_reducible refine cL.mono ?_
  rintro e w1 ⟨rfl, hb⟩
  replace hK := hK.below hb

  replace K := K.below hb
  replace h := h.below hb
  replace hA := hA.below hb
  replace hC := row_later hC hb
  replace B := below_step B hb B.size
  clear hb cL
  go_wp2_with (fail)
  with_reducible refine (new_ok 4 2024 4 6 (by omega) (by omega) yrB_24 _ hK).mono ?_
  rintro e w2 ⟨p, rfl, hp, hY, hb⟩

  replace K := K.below hb
  replace h := h.below hb
  replace hA := hA.below hb
  replace hC := row_later hC hb
  replace B := below_step B hb B.size
  clear hb hK
  have cI := light_any T w2 h
  have k_0 := K.cell (i := 0) rfl
  have k_1 := K.cell (i := 1) rfl
  have k_2 := K.cell (i := 2) rfl
  have k_3 := K.cell (i := 3) rfl
  have k_4 := K.cell (i := 4) rfl
  go_wp2_with (fail)
  with_reducible refine cI.mono ?_
  rintro e w3 ⟨⟨lb, rfl⟩, hb⟩
  clear k_0 k_1 k_2 k_3 k_4

  replace K := K.below hb
  replace h := h.below hb
  replace hA := hA.below hb
  replace hC := row_later hC hb
  replace B := below_step B hb B.size
  replace hY := hY.below hb
  clear hb cI
  cases lb
  · go_wp2
    go_ret
    exact ⟨rfl, B⟩
  have ck : Calls Tryd.prog 31 #[.agg #[.slice T.AS T.nS T.cS, .slice T.AC T.nC T.cC, .slice T.AK T.nK T.cK, .int .i64 T.L, .int .i64 T.W]] w3 fun e w' => e = .returned (.int .i64 T.chk) ∧ Below w3.heap.size w3 w' := check_tab w3 T h hz
  have k_0 := K.cell (i := 0) rfl
  have k_1 := K.cell (i := 1) rfl
  have k_2 := K.cell (i := 2) rfl
  have k_3 := K.cell (i := 3) rfl
  have k_4 := K.cell (i := 4) rfl
  go_wp2_with (fail)
  with_reducible refine ck.mono ?_
  rintro e w4 ⟨rfl, hb⟩
  clear k_0 k_1 k_2 k_3 k_4

  replace K := K.below hb
  replace h := h.below hb
  replace hA := hA.below hb
  replace hC := row_later hC hb
  replace B := below_step B hb B.size
  replace hY := hY.below hb
  clear hb ck hz
  by_cases hc : T.chk = 0
  rotate_left
  · have e0 : (T.chk != 0) = true := by simp [hc]
    clear hc
    generalize T.chk = E at *
    go_wp2
    go_ret
    exact ⟨rfl, B⟩
  have TGH := Lib.hid (tg_of hc)
  rw [hc]
  clear hc
  by_cases h12 : 12 < m
  · have t1 : decide ((12 : Int) < (m : Int)) = true := decide_eq_true (by omega)
    clear h12 hm hm2
    go_wp2
    go_ret
    exact ⟨rfl, B⟩
  have t1 : decide ((12 : Int) < (m : Int)) = false := decide_eq_false (by omega)
  by_cases hmm : m2 = m
  rotate_left
  · have t2 : ((m2 : Int) != (m : Int)) = true := by
      rw [bne_iff_ne]
      intro e
      exact hmm (by omega)
    clear h12 hm hm2 hmm
    go_wp2
    go_ret
    exact ⟨rfl, B⟩
  subst hmm
  have t2 : ((m2 : Int) != (m2 : Int)) = false := by simp
  have H12 := Lib.hid (Nat.le_of_not_lt h12)
  have HS := Lib.hid h
  have HYY := Lib.hid hY
  have HA := Lib.hid hA
  have HC := Lib.hid hC
  have HKB := Lib.hid K
  have HB := Lib.hid B
  clear h hY hA hC K B hp hm hm2 h12
  go_wp2
  have Bw := Below.refl w4.heap.size w4
  go_loopw [72] (fun j X => ∃ i : Nat, i ≤ m2 ∧ j = .int .i64 i ∧ WtI T g cs i ∧ Below w4.heap.size w4 X) (fun j _ => m2 - (intOf j).toNat)
  case atStart => exact ⟨0, Nat.zero_le _, rfl, fun j hj => absurd hj (Nat.not_lt_zero _), Bw⟩
  case round =>
    clear Bw
    obtain ⟨i, hi, rfl, hW, hbX⟩ := hrel
    by_cases hlt : i < m2
    · have hil : (i : Int) < (m2 : Int) := by omega
      obtain ⟨b, o, rfl, hcs⟩ := HA.out (by omega)
      obtain ⟨g0, g1, g2, g3, g4, g5⟩ := hcs i hlt
      obtain ⟨b2, o2, rfl, hcc⟩ := HC.out (by omega)
      have gc := hcc i hlt
      dsimp only at gc
      replace g0 := cell_later hbX g0
      replace g1 := cell_later hbX g1
      replace g2 := cell_later hbX g2
      replace g3 := cell_later hbX g3
      replace g4 := cell_later hbX g4
      replace g5 := cell_later hbX g5
      replace gc := cell_later hbX gc
      have hgF := HG.out i hlt
      have KX := bx_new wr [.int .i64 (g i).s, .int .i64 (g i).k, .int .i64 (g i).a, .int .i64 (g i).f, .bool (g i).x, .int .i64 (g i).y] 85
      have NX := below_new wr (.cells #[.int .i64 (g i).s, .int .i64 (g i).k, .int .i64 (g i).a, .int .i64 (g i).f, .bool (g i).x, .int .i64 (g i).y] 85)
      have kx_0 := KX.cell (i := 0) rfl
      have kx_1 := KX.cell (i := 1) rfl
      have kx_2 := KX.cell (i := 2) rfl
      have kx_3 := KX.cell (i := 3) rfl
      have kx_4 := KX.cell (i := 4) rfl
      have kx_5 := KX.cell (i := 5) rfl
      have gd := cell_later NX gc
      have hbX2 := below_step hbX NX hbX.size
      have B2 := below_step HB.out hbX2 HB.out.size
      have K := HKB.out.below hbX2
      have k_0 := K.cell (i := 0) rfl
      have k_1 := K.cell (i := 1) rfl
      have k_2 := K.cell (i := 2) rfl
      have k_3 := K.cell (i := 3) rfl
      have k_4 := K.cell (i := 4) rfl
      have HW := Lib.hid hW
      clear hW hcs hcc hbX NX
      by_cases hin : (-1000000000 ≤ (g i).y ∧ (g i).y ≤ 1000000000) ∧ -1000000000 ≤ cs i ∧ cs i ≤ 1000000000
      rotate_left
      · have key : decide (1000000000 < (g i).y) = true ∨ (decide (1000000000 < (g i).y) = false ∧ decide ((g i).y < -1000000000) = true) ∨ (decide (1000000000 < (g i).y) = false ∧ decide ((g i).y < -1000000000) = false ∧ decide (1000000000 < cs i) = true) ∨ (decide (1000000000 < (g i).y) = false ∧ decide ((g i).y < -1000000000) = false ∧ decide (1000000000 < cs i) = false ∧ decide (cs i < -1000000000) = true) := by
          simp only [decide_eq_true_eq, decide_eq_false_iff_not]
          omega
        clear hin hbX2 hgF
        generalize (g i).y = yy at *
        generalize cs i = cc at *
        rcases key with l0 | ⟨l0, l1⟩ | ⟨l0, l1, l2⟩ | ⟨l0, l1, l2, l3⟩
        all_goals
          go_wp2
          go_ret
          exact ⟨rfl, B2⟩
      have l0 : decide (1000000000 < (g i).y) = false := decide_eq_false (by omega)
      have l1 : decide ((g i).y < -1000000000) = false := decide_eq_false (by omega)
      have l2 : decide (1000000000 < cs i) = false := decide_eq_false (by omega)
      have l3 : decide (cs i < -1000000000) = false := decide_eq_false (by omega)
      have cF := fits_tab T (g i).s (g i).k (g i).a (g i).f (g i).x (wr.alloc (.cells #[.int .i64 (g i).s, .int .i64 (g i).k, .int .i64 (g i).a, .int .i64 (g i).f, .bool (g i).x, .int .i64 (g i).y] 85)) (HS.out.1.below hbX2) TGH.out.z hgF.1.1 hgF.1.2
      have HIN := Lib.hid hin
      clear hin hgF gc B2
      generalize hE : fitsV T (g i).s (g i).k (g i).a (g i).f = E at *
      have HE := Lib.hid hE
      clear hE
      go_wp2_with (fail)
      with_reducible refine cF.mono ?_
      rintro e w6 ⟨rfl, hb⟩
      clear k_0 k_1 k_2 k_3 k_4
      clear kx_0 kx_1 kx_2 kx_3 kx_4 kx_5
      have hbX3 := below_step hbX2 hb hbX2.size
      have B3 := below_step HB.out hbX3 HB.out.size
      clear cF hbX2 hb K KX gd
      generalize (wr.alloc (.cells #[.int .i64 (g i).s, .int .i64 (g i).k, .int .i64 (g i).a, .int .i64 (g i).f, .bool (g i).x, .int .i64 (g i).y] 85)) = w7 at *
      by_cases hE0 : E = 0
      rotate_left
      · have e0 : (E != 0) = true := by simp [hE0]
        clear hE0 hbX3
        go_wp2
        go_ret
        exact ⟨rfl, B3⟩
      subst hE0
      have hWn : WtI T g cs (i + 1) := fun j hj => by
        by_cases e : j = i
        · subst e; exact ⟨fitsV_zero HE.out, HE.out, HIN.out⟩
        · exact HW.out j (by omega)
      have HWN := Lib.hid hWn
      have hwi : wrap64 ((i : Int) + 1) = (i : Int) + 1 := IntWalk.wrap64_in _ (by have := H12.out; omega)
      clear hWn
      go_wp2
      exact ⟨⟨i + 1, Nat.succ_le_of_lt hlt, by go_num, HWN.out, hbX3⟩, by rw [hwi]; exact meas_step hlt⟩
    · obtain rfl : i = m2 := by omega
      have hnl : ¬ (i : Int) < (i : Int) := by omega
      obtain ⟨y1, y2, y3⟩ := wt_year TGH.out H12.out hW
      have yD := wt_ok TGH.out H12.out hW
      have hS := HS.out.1.below hbX
      have hY := HYY.out.below hbX
      have hA := HA.out.below hbX
      have hC := row_later HC.out hbX
      have K := HKB.out.below hbX
      have B2 := below_step HB.out hbX HB.out.size
      have cy := tyear_tab T p 4 2024 4 6 A i q g wr hS TGH.out hY yrB_24 (by omega) (by omega) hA HG.out (by rw [cnt_24]; have := H12.out; omega) (by have := H12.out; omega)
      have k_0 := K.cell (i := 0) rfl
      have k_1 := K.cell (i := 1) rfl
      have k_2 := K.cell (i := 2) rfl
      have k_3 := K.cell (i := 3) rfl
      have k_4 := K.cell (i := 4) rfl
      clear hW hbX hlt hi hS hY HS HYY HA HC HKB HB HG
      go_wp2_with (fail)
      with_reducible refine cy.mono ?_
      rintro e w5 hP
      obtain ⟨v, x, rfl, hv1, hv2, hb⟩ := typ_both hP
      obtain ⟨rfl, hIw⟩ := hv1 y1
      clear k_0 k_1 k_2 k_3 k_4
      have hI1 : w5.ownsRow wr.heap.size 2 1 v i (iv (tyL (nom 4) (cnt 4 2024 4 6) T g i)) := by have := hIw; unfold Iw at this; rw [show (tyL (nom 4) (cnt 4 2024 4 6) T g i).length = i from tyL_len _ _ _ _ _] at this; exact this
      obtain ⟨Ag, cg, rfl, _, _⟩ := own_len' hI1
      have HRG := Lib.hid (iw_row hI1 (F := fun j => dD T g j) y2)
      have HA := Lib.hid (hA.below hb)
      have HC := Lib.hid (row_later hC hb)
      have HKB := Lib.hid (K.below hb)
      have HB := Lib.hid (below_step B2 hb B2.size)
      have HD := Lib.hid yD
      clear hP hv1 hv2 hb hIw hI1 y1 y2 y3 hA hC K B2 cy yD
      go_wp2
      have Bw := Below.refl w5.heap.size w5
      go_loopw [15, 118] (fun pv jj X => ∃ j : Nat, j ≤ i ∧ jj = .int .i64 j ∧ X.ownsRow w5.heap.size 91 3 pv j (pyL (wP T g cs) j) ∧ Below w5.heap.size w5 X) (fun _ jj _ => i - (intOf jj).toNat)
      case atStart => exact ⟨0, Nat.zero_le _, rfl, World.ownsRow_nil _ _ _ _, Bw⟩
      case round =>
        clear Bw
        obtain ⟨j, hj, rfl, hown, hbX⟩ := hrel
        by_cases hlj : j < i
        · have hjl : (j : Int) < (i : Int) := by omega
          have hwj : wrap64 ((j : Int) + 1) = (j : Int) + 1 := IntWalk.wrap64_in _ (by have := H12.out; omega)
          have hj12 : j + 1 ≤ 12 := by have := H12.out; omega
          obtain ⟨b, o, rfl, hcs⟩ := HA.out (by omega)
          have g4 := (hcs j hlj).2.2.2.2.1
          obtain ⟨b2, o2, rfl, hcc⟩ := HC.out (by omega)
          have gc := hcc j hlj
          obtain ⟨bg, og, rfl, hcg⟩ := HRG.out (by omega)
          have gr := hcg j hlj
          dsimp only at gc gr
          replace g4 := cell_later hbX g4
          replace gc := cell_later hbX gc
          replace gr := cell_later hbX gr
          obtain ⟨yE, s1, s2, hd, lim, D, e1, e2, e3, e4, e5, e6, e7, e8, e9, e10⟩ := wt_at TGH.out HD.out (j := j) (by omega)
          have HE1 := Lib.hid (And.intro yE (And.intro e1 (And.intro e2 (And.intro e3 (And.intro e4 e5)))))
          have HE6 := Lib.hid e6
          have HE7 := Lib.hid e7
          have HE8 := Lib.hid e8
          have HE9 := Lib.hid e9
          have HE10 := Lib.hid e10
          have HNX : Hid (pyL (wP T g cs) (j + 1) = pyL (wP T g cs) j ++ [.int .i64 (cs j), .int .i64 (dD T g j), .bool (!(g j).x)]) := Lib.hid rfl
          have hB5 := Lib.hid hbX.size
          have hO : ∀ W, Below wr.heap.size wr W → W.ownsRow w5.heap.size 91 3 u15 j (pyL (wP T g cs) j) := fun W h => own_below hown h
          have hB : ∀ W, Below wr.heap.size wr W → w5.heap.size ≤ W.heap.size := fun W h => Nat.le_trans hB5.out h.size
          have hF : ∀ W w9, Below wr.heap.size wr W → W.grownBy w9 u15.ownBlock → Below w5.heap.size w5 w9 := fun W w9 h hg => (below_step hbX h hB5.out).grown hg (hB W h) (fun k hk => ((hO W h).lt k hk).1)
          have hone : ∀ u ∈ [Value.int .i64 (cs j), .int .i64 (dD T g j), .bool (!(g j).x)], u.oneCell' = true := by simp [Value.oneCell']
          have hc3 : Hid (j + 1 ≤ maxLen) := Lib.hid (by unfold maxLen; omega)
          have hc4 : Hid ((j + 1) * 24 ≤ 140737488355328) := Lib.hid (by omega)
          have HHX := Lib.hid hbX
          have HJ12 := Lib.hid hj12
          have HLJ := Lib.hid hlj
          clear hcs hcc hcg hown hbX hj12 hlj hj yE e1 e2 e3 e4 e5 e6 e7 e8 e9 e10
          generalize hgx : (g j).x = gx at *
          have HGX := Lib.hid hgx
          clear hgx
          go_wp2
          go_cut [15, 118] from 118 to 208 (fun s15 s118 wx => s118 = .int .i64 (j : Int) ∧ ∃ (A9 : Option Addr) (c9 : Nat), s15 = .slice A9 (j + 1) c9 ∧ wx.ownsRow w5.heap.size 91 3 (.slice A9 (j + 1) c9) (j + 1) (pyL (wP T g cs) (j + 1)) ∧ Below w5.heap.size w5 wx)
          case first =>
            go_region_law (refine step_append_lies _ (by rfl) (.tmp 121) (.tmp 138) 89 (by rfl) w5.heap.size 91 i0 (.agg #[.int .i64 0, .int .i64 0, .bool false]) 3 24 Tryd.underlying89 Hi.out Hz.out hz1 hz2 (by rfl) (by decide) u15 j (pyL (wP T g cs) j) (by rfl) (hO _ (by first | exact Below.alloc (Below.refl _ _) (Nat.le_refl _) _ | exact ((Below.refl _ _).drew).alloc (Nat.le_refl _) _ | exact ((Below.refl _ _).alloc (Nat.le_refl _) _).drew)) ⟨wr.heap.size, 0, none⟩ 1 1 [.int .i64 (cs j), .int .i64 (dD T g j), .bool (!gx)] (by rfl) (by rfl) (cells_at3 _ _ _ _ _ rfl) hone (by decide) hc3.out hc4.out (hB _ (by first | exact Below.alloc (Below.refl _ _) (Nat.le_refl _) _ | exact ((Below.refl _ _).drew).alloc (Nat.le_refl _) _ | exact ((Below.refl _ _).alloc (Nat.le_refl _) _).drew)) _ rfl ?_; intro h9 cap9 w9 hown9 hgrow hat hlt9; have B9 := hF _ _ (by first | exact Below.alloc (Below.refl _ _) (Nat.le_refl _) _ | exact ((Below.refl _ _).drew).alloc (Nat.le_refl _) _ | exact ((Below.refl _ _).alloc (Nat.le_refl _) _).drew) hgrow)
            all_goals
              clear hO hB hF hone gc gr g4 hgrow hat hlt9
              go_wp2_with fail
              go_meet
              case rel => exact ⟨rfl, _, _, rfl, by rw [HNX.out]; exact hown9, B9⟩
          case rest =>
          obtain ⟨rfl, A9, c9, rfl, hown9, B9⟩ := hcut
          clear hO hB hF hone gc gr g4 hB5 hc3 hc4 HHX HNX
          have K9 := HKB.out.below B9
          have k_0 := K9.cell (i := 0) rfl
          have k_1 := K9.cell (i := 1) rfl
          have k_2 := K9.cell (i := 2) rfl
          have k_3 := K9.cell (i := 3) rfl
          have k_4 := K9.cell (i := 4) rfl
          have cY := hyear_ok T.AS T.AC T.AK T.nS T.nC T.nK T.cS T.cC T.cK T.L T.W A9 (j + 1) c9 (wP T g cs) wc s1 s2 (pys_own hown9) (by have := HJ12.out; omega) HE1.out.1 HE1.out.2.1
          go_wp2_with (fail)
          with_reducible refine cY.mono ?_
          rintro e w6 ⟨Ah, ch, rfl, hRh, hb6⟩
          clear k_0 k_1 k_2 k_3 k_4
          obtain ⟨bh, oh, rfl, hch⟩ := hRh (Nat.succ_pos _)
          have gh := hch j (Nat.lt_succ_self _)
          dsimp only at gh
          rw [HE1.out.2.2.1] at gh
          have B6 := below_step B9 hb6 B9.size
          have own6 := own_below hown9 hb6
          have KS := bx_new w6 [.int .i64 s1, .int .i64 s2] 93
          have NS := below_new w6 (.cells #[.int .i64 s1, .int .i64 s2] 93)
          have B7 := below_step B6 NS B6.size
          have own7 := own_below own6 NS
          replace gh := cell_later NS gh
          obtain ⟨_, _, hA0, hcs⟩ := HA.out (Nat.lt_of_le_of_lt (Nat.zero_le _) HLJ.out)
          obtain ⟨rfl, rfl, _⟩ := Addr.mk.inj (Option.some.inj hA0)
          have g4 := (hcs j HLJ.out).2.2.2.2.1
          rw [HGX.out] at g4
          obtain ⟨_, _, hA0, hcc⟩ := HC.out (Nat.lt_of_le_of_lt (Nat.zero_le _) HLJ.out)
          obtain ⟨rfl, rfl, _⟩ := Addr.mk.inj (Option.some.inj hA0)
          have gc := hcc j HLJ.out
          obtain ⟨_, _, hA0, hcg⟩ := HRG.out (Nat.lt_of_le_of_lt (Nat.zero_le _) HLJ.out)
          obtain ⟨rfl, rfl, _⟩ := Addr.mk.inj (Option.some.inj hA0)
          have gr := hcg j HLJ.out
          dsimp only at gc gr
          rw [HE1.out.2.2.2.2.1] at gr
          replace g4 := cell_later B7 g4
          replace gc := cell_later B7 gc
          replace gr := cell_later B7 gr
          have K7 := HKB.out.below B7
          have cD : ∀ W, Calls Tryd.prog 35 #[.agg #[.int .i64 s1, .int .i64 s2]] W fun e w' => e = .returned (.int .i64 D) ∧ Below W.heap.size W w' := fun W => by
            have h1 := HE1.out.2.2.2.2.2
            have h2 := HE6.out
            have := Hd.due_any s1 s2 W (by omega) (by omega)
            rwa [h1] at this
          have cM : ∀ W, Calls Tryd.prog 28 #[.agg #[.slice T.AS T.nS T.cS, .slice T.AC T.nC T.cC, .slice T.AK T.nK T.cK, .int .i64 T.L, .int .i64 T.W], .int .i64 (cs j)] W fun e w' => e = .returned (.tuple #[.int .i64 lim, .int .i64 0]) ∧ Below W.heap.size W w' := fun W => by
            have := Hd.limit_ok T.AS T.AC T.AK T.nS T.nC T.nK T.cS T.cC T.cK T.L T.W (cs j) W HE10.out (rateB_mk TGH.out.ok.l0 TGH.out.ok.l1)
            rwa [HE1.out.2.2.2.1] at this
          have n1 : (D != D) = false := by simp
          have n2 : ((j : Int) + 1 != (j : Int) + 1) = false := by simp
          have hwk : IntKind.i64.wrap ((j : Int) + 1) = (j : Int) + 1 := IntWalk.i64_in _ (by have := HJ12.out; omega)
          clear cY hRh hch hb6 hown9 B9 B6 own6 NS hcs hcc hcg hA0
          have ks_0 := KS.cell (i := 0) rfl
          have ks_1 := KS.cell (i := 1) rfl
          have k_0 := K7.cell (i := 0) rfl
          have k_1 := K7.cell (i := 1) rfl
          have k_2 := K7.cell (i := 2) rfl
          have k_3 := K7.cell (i := 3) rfl
          have k_4 := K7.cell (i := 4) rfl
          go_wp2
          generalize (w6.alloc (.cells #[.int .i64 s1, .int .i64 s2] 93)) = w7 at *
          have D1 : Below w7.heap.size w7 w7.drew := (Below.refl _ _).drew
          go_cut [118, 164] from 118 to 208 (fun s118 s164 wx => s118 = .int .i64 (j : Int) ∧ s164 = .bool false ∧ Below w7.heap.size w7 wx)
          case first =>
            as_aux_lemma =>
              have S1 : w7.drew.cell? ⟨w6.heap.size, 0, none⟩ = some (.int .i64 s1) ∧ w7.drew.cell? ⟨w6.heap.size, 1, none⟩ = some (.int .i64 s2) ∧ w7.drew.cell? ⟨bg, og + j, none⟩ = some (.int .i64 D) ∧ Below w7.heap.size w7 w7.drew := ⟨ks_0, ks_1, gr, D1⟩
              have mk : ∀ V : World, Below w7.heap.size w7 V → (V.cell? ⟨w6.heap.size, 0, none⟩ = some (.int .i64 s1) ∧ V.cell? ⟨w6.heap.size, 1, none⟩ = some (.int .i64 s2) ∧ V.cell? ⟨bg, og + j, none⟩ = some (.int .i64 D) ∧ Below w7.heap.size w7 V) := fun V hb => ⟨cell_later hb ks_0, cell_later hb ks_1, cell_later hb gr, hb⟩
              clear K7 KS own7 B7 g4 gc gh
              go_region_held3 (fun X => X.cell? ⟨w6.heap.size, 0, none⟩ = some (.int .i64 s1) ∧ X.cell? ⟨w6.heap.size, 1, none⟩ = some (.int .i64 s2) ∧ X.cell? ⟨bg, og + j, none⟩ = some (.int .i64 D) ∧ Below w7.heap.size w7 X)
                ((first | exact S1 | assumption))
                (first
                  | (go_at_call 35; (with_reducible refine (cD _).mono ?_); rintro e w8 ⟨rfl, hb8⟩; have SW := mk w8 (below_step D1 hb8 D1.size)))
              all_goals
                rename_i hH
                go_wp2_with fail
                go_meet
                case rel => exact ⟨rfl, by first | rfl | (rw [hwk]; simp), hH.2.2.2⟩
          case rest =>
          obtain ⟨rfl, rfl, hbc⟩ := hcut
          clear k_0 k_1 k_2 k_3 k_4
          clear ks_0 ks_1
          have own8 := own_below own7 hbc
          have B8 := below_step B7 hbc B7.size
          replace KS := KS.below hbc
          replace K7 := K7.below hbc
          replace g4 := cell_later hbc g4
          replace gc := cell_later hbc gc
          replace gr := cell_later hbc gr
          replace gh := cell_later hbc gh
          clear cD own7 B7 hbc D1
          have k_0 := K7.cell (i := 0) rfl
          have k_1 := K7.cell (i := 1) rfl
          have k_2 := K7.cell (i := 2) rfl
          have k_3 := K7.cell (i := 3) rfl
          have k_4 := K7.cell (i := 4) rfl
          go_wp2
          have D1 : Below wc.heap.size wc wc.drew := (Below.refl _ _).drew
          go_cut [20, 21, 118] from 118 to 208 (fun s20 s21 s118 wx => s20 = .int .i64 lim ∧ s21 = .int .i64 0 ∧ s118 = .int .i64 (j : Int) ∧ Below wc.heap.size wc wx)
          case first =>
            as_aux_lemma =>
              have S1 : wc.drew.cell? ⟨w.heap.size, 0, none⟩ = some (.slice T.AS T.nS T.cS) ∧ wc.drew.cell? ⟨w.heap.size, 1, none⟩ = some (.slice T.AC T.nC T.cC) ∧ wc.drew.cell? ⟨w.heap.size, 2, none⟩ = some (.slice T.AK T.nK T.cK) ∧ wc.drew.cell? ⟨w.heap.size, 3, none⟩ = some (.int .i64 T.L) ∧ wc.drew.cell? ⟨w.heap.size, 4, none⟩ = some (.int .i64 T.W) ∧ wc.drew.cell? ⟨b2, o2 + j, none⟩ = some (.int .i64 (cs j)) ∧ Below wc.heap.size wc wc.drew := ⟨k_0, k_1, k_2, k_3, k_4, gc, D1⟩
              have mk : ∀ V : World, Below wc.heap.size wc V → (V.cell? ⟨w.heap.size, 0, none⟩ = some (.slice T.AS T.nS T.cS) ∧ V.cell? ⟨w.heap.size, 1, none⟩ = some (.slice T.AC T.nC T.cC) ∧ V.cell? ⟨w.heap.size, 2, none⟩ = some (.slice T.AK T.nK T.cK) ∧ V.cell? ⟨w.heap.size, 3, none⟩ = some (.int .i64 T.L) ∧ V.cell? ⟨w.heap.size, 4, none⟩ = some (.int .i64 T.W) ∧ V.cell? ⟨b2, o2 + j, none⟩ = some (.int .i64 (cs j)) ∧ Below wc.heap.size wc V) := fun V hb => ⟨cell_later hb k_0, cell_later hb k_1, cell_later hb k_2, cell_later hb k_3, cell_later hb k_4, cell_later hb gc, hb⟩
              clear K7 KS own8 B8 g4 gr gh
              go_region_held3 (fun X => X.cell? ⟨w.heap.size, 0, none⟩ = some (.slice T.AS T.nS T.cS) ∧ X.cell? ⟨w.heap.size, 1, none⟩ = some (.slice T.AC T.nC T.cC) ∧ X.cell? ⟨w.heap.size, 2, none⟩ = some (.slice T.AK T.nK T.cK) ∧ X.cell? ⟨w.heap.size, 3, none⟩ = some (.int .i64 T.L) ∧ X.cell? ⟨w.heap.size, 4, none⟩ = some (.int .i64 T.W) ∧ X.cell? ⟨b2, o2 + j, none⟩ = some (.int .i64 (cs j)) ∧ Below wc.heap.size wc X)
                ((first | exact S1 | assumption))
                (first
                  | (go_at_call 28; (with_reducible refine (cM _).mono ?_); rintro e w8 ⟨rfl, hb8⟩; have SW := mk w8 (below_step D1 hb8 D1.size)))
              all_goals
                rename_i hH
                go_wp2_with fail
                go_meet
                case rel => exact ⟨rfl, rfl, rfl, hH.2.2.2.2.2.2⟩
          case rest =>
          obtain ⟨rfl, rfl, rfl, hbc⟩ := hcut
          clear k_0 k_1 k_2 k_3 k_4
          have own9 := own_below own8 hbc
          have B9 := below_step B8 hbc B8.size
          replace KS := KS.below hbc
          replace g4 := cell_later hbc g4
          replace gh := cell_later hbc gh
          have ks_0 := KS.cell (i := 0) rfl
          have ks_1 := KS.cell (i := 1) rfl
          clear cM own8 B8 hbc D1 K7 KS gc gr n1 n2 hwk
          have f1 : decide (lim < hd) = false := decide_eq_false (Int.not_lt.2 HE7.out)
          have key : (gx = false ∨ (gx = true ∧ decide (hd < 0) = false)) ∧ (decide (0 < s2) = false ∨ (decide (0 < s2) = true ∧ (hd != lim) = false)) := by
            refine ⟨?_, ?_⟩
            · cases hx : gx
              · exact .inl rfl
              · exact .inr ⟨rfl, decide_eq_false (Int.not_lt.2 (HE8.out hx))⟩
            · by_cases h : 0 < s2
              · exact .inr ⟨decide_eq_true h, by rw [HE9.out h]; simp⟩
              · exact .inl (decide_eq_false h)
          have HOW := Lib.hid own9
          have HBW := Lib.hid B9
          clear own9 B9
          obtain ⟨k1, k2⟩ := key
          clear HE1 HE6 HE7 HE8 HE9 HE10 HGX
          rcases k1 with rfl | ⟨rfl, k1⟩ <;> rcases k2 with k2 | ⟨k2, k3⟩
          all_goals
            go_wp2
            exact ⟨⟨j + 1, Nat.succ_le_of_lt HLJ.out, by go_num, HOW.out, HBW.out⟩, by rw [hwj]; exact meas_step HLJ.out⟩
        · obtain rfl : i = j := by omega
          have hnl2 : ¬ (i : Int) < (i : Int) := by omega
          have B8 := below_step HB.out hbX HB.out.size
          have K8 := HKB.out.below hbX
          have k_0 := K8.cell (i := 0) rfl
          have k_1 := K8.cell (i := 1) rfl
          have k_2 := K8.cell (i := 2) rfl
          have k_3 := K8.cell (i := 3) rfl
          have k_4 := K8.cell (i := 4) rfl
          rcases Nat.eq_zero_or_pos i with h0 | h0
          · have n0 : ((i : Int) == 0) = true := by rw [h0]; rfl
            clear h0 hown hbX hj hlj K8
            go_wp2
            go_ret
            exact ⟨rfl, B8⟩
          have n0 : ((i : Int) == 0) = false := by rw [beq_eq_false_iff_ne]; omega
          by_cases hL : T.L = 0
          · have l0 : (T.L == 0) = true := by rw [hL]; rfl
            clear h0 hL hown hbX hj hlj K8
            go_wp2
            go_ret
            exact ⟨rfl, B8⟩
          have l0 : (T.L == 0) = false := by rw [beq_eq_false_iff_ne]; exact hL
          obtain ⟨k, rfl⟩ : ∃ k, i = k + 1 := ⟨i - 1, by omega⟩
          have hk12 : k + 1 ≤ 12 := H12.out
          have hwk : wrap64 ((k : Int) + 1 - 1) = (k : Int) := by rw [show (k : Int) + 1 - 1 = (k : Int) by omega]; exact IntWalk.wrap64_in _ (by omega)
          have hkl : (k : Int) < (k : Int) + 1 := by omega
          have hk0 : (0 : Int) ≤ (k : Int) := by omega
          obtain ⟨bg, og, rfl, hcg⟩ := HRG.out (Nat.succ_pos _)
          have gr := hcg k (Nat.lt_succ_self _)
          dsimp only at gr
          replace gr := cell_later hbX gr
          have hDb : 0 ≤ dD T g k ∧ dD T g k ≤ 100000000000 := ⟨(HD.out k (Nat.lt_succ_self _)).2.2.1, (HD.out k (Nat.lt_succ_self _)).2.2.2⟩
          generalize hDD : dD T g k = D at *
          have HDD := Lib.hid hDD
          obtain ⟨yE, s1, s2, lim, e1, e2, e3, e4⟩ := wt_tail TGH.out HD.out hDb
          have HE1 := Lib.hid (And.intro yE (And.intro e1 e2))
          have HWQ := Lib.hid (wq_list T g cs (k + 1) D)
          have hwd : wrap64 (D - lim) = D - lim := IntWalk.wrap64_in _ (by omega)
          have key : (s2 == 0) = true ∨ ((s2 == 0) = false ∧ decide (-100000000000 < D - lim) = true ∧ decide (0 < s2) = true ∧ decide (lim < D) = true) := by
            rcases e4 with e | ⟨e, e'⟩
            · exact .inl (by rw [e]; rfl)
            · exact .inr ⟨by rw [beq_eq_false_iff_ne]; omega, decide_eq_true (by omega), decide_eq_true e', decide_eq_true e⟩
          have hcA := cells_at3 wr (.int .i64 100000000000) (.int .i64 D) (.bool true) 91 rfl
          have hone : ∀ u ∈ [Value.int .i64 100000000000, .int .i64 D, .bool true], u.oneCell' = true := by simp [Value.oneCell']
          have hc3 : k + 1 + 1 ≤ maxLen := by unfold maxLen; omega
          have hc4 : (k + 1 + 1) * 24 ≤ 140737488355328 := by omega
          have hc5 : w5.heap.size ≤ (wr.alloc (.cells #[.int .i64 100000000000, .int .i64 D, .bool true] 91)).heap.size := Nat.le_trans hbX.size (below_new wr _).size
          have ownA := own_below hown (below_new wr (.cells #[.int .i64 100000000000, .int .i64 D, .bool true] 91))
          have Ba := below_step hbX (below_new wr (.cells #[.int .i64 100000000000, .int .i64 D, .bool true] 91)) hbX.size
          have HKY := Lib.hid key
          have HDL := Lib.hid hDb
          have HK12 := Lib.hid hk12
          have hlt5 : Hid (bg < w5.heap.size) := Lib.hid (World.block_lt_of_cell? w5 _ (hcg k (Nat.lt_succ_self _)))
          clear hown hbX hj hlj h0 hL hDb yE e1 e2 e3 e4 key hcg hk12 hDD
          go_wp2_with (at_builtin; refine wpList_append_own _ rfl _ _ 89 rfl w5.heap.size 91 i0 (.agg #[.int .i64 0, .int .i64 0, .bool false]) 3 24 Tryd.underlying89 Hi.out Hz.out hz1 hz2 rfl (by decide) _ _ _ rfl ownA ⟨wr.heap.size, 0, none⟩ 1 1 _ rfl rfl hcA hone hc3 hc4 hc5 ?_; intro va wa hownA hgA _; have BA : Below w5.heap.size w5 wa := Ba.grown hgA hc5 (fun k hk => (ownA.lt k hk).1); have KA := HKB.out.below BA; have q_0 := KA.cell (i := 0) rfl; have q_1 := KA.cell (i := 1) rfl; have q_2 := KA.cell (i := 2) rfl; have q_3 := KA.cell (i := 3) rfl; have q_4 := KA.cell (i := 4) rfl; clear hgA)
          clear k_0 k_1 k_2 k_3 k_4
          clear q_0 q_1 q_2 q_3 q_4
          clear hcA hone hc3 hc4 hc5 ownA Ba gr K8 B8
          obtain ⟨Av, cv, rfl, _, _⟩ := own_len' hownA
          rw [← HWQ.out] at hownA
          have cY := hyear_ok T.AS T.AC T.AK T.nS T.nC T.nK T.cS T.cC T.cK T.L T.W Av (k + 1 + 1) cv (wQ T g cs (k + 1) D) wa s1 s2 (pys_own hownA) (by have := HK12.out; omega) HE1.out.1 HE1.out.2.1
          with_reducible refine cY.mono ?_
          rintro e w6 ⟨Ah, ch, rfl, _, hb6⟩
          have B6 := below_step BA hb6 BA.size
          have KS := bx_new w6 [.int .i64 s1, .int .i64 s2] 93
          have NS := below_new w6 (.cells #[.int .i64 s1, .int .i64 s2] 93)
          have B7 := below_step B6 NS B6.size
          have K7 := HKB.out.below B7
          have cM : ∀ W, Calls Tryd.prog 28 #[.agg #[.slice T.AS T.nS T.cS, .slice T.AC T.nC T.cC, .slice T.AK T.nK T.cK, .int .i64 T.L, .int .i64 T.W], .int .i64 100000000000] W fun e w' => e = .returned (.tuple #[.int .i64 lim, .int .i64 0]) ∧ Below W.heap.size W w' := fun W => by
            have := Hd.limit_ok T.AS T.AC T.AK T.nS T.nC T.nK T.cS T.cC T.cK T.L T.W 100000000000 W (by omega) (rateB_mk TGH.out.ok.l0 TGH.out.ok.l1)
            rwa [HE1.out.2.2] at this
          have k_0 := K7.cell (i := 0) rfl
          have k_1 := K7.cell (i := 1) rfl
          have k_2 := K7.cell (i := 2) rfl
          have k_3 := K7.cell (i := 3) rfl
          have k_4 := K7.cell (i := 4) rfl
          clear cY hb6 B6 NS hownA KA BA
          go_wp2_with (fail)
          with_reducible refine (cM _).mono ?_
          rintro e w8 ⟨rfl, hb8⟩
          clear k_0 k_1 k_2 k_3 k_4
          replace KS := KS.below hb8
          have B9 := below_step B7 hb8 B7.size
          have BF := below_step HB.out B9 HB.out.size
          obtain ⟨_, _, hA0, hcg⟩ := HRG.out (Nat.succ_pos _)
          obtain ⟨rfl, rfl, _⟩ := Addr.mk.inj (Option.some.inj hA0)
          have gr := hcg k (Nat.lt_succ_self _)
          dsimp only at gr
          rw [HDD.out] at gr
          replace gr := cell_later B9 gr
          have ks_0 := KS.cell (i := 0) rfl
          have ks_1 := KS.cell (i := 1) rfl
          clear cM hb8 B7 B9 hcg hA0 KS K7
          rcases HKY.out with k1 | ⟨k1, k2, k3, k4⟩
          all_goals
            go_wp2
            go_ret
            exact ⟨rfl, BF⟩
end Go.Proofs.YtffihnbpjcgicaaDoor
