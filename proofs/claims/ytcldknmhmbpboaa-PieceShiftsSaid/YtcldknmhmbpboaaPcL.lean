/- What a stretch's choose answers: the lesser of two pieces, or the greater one, or both where they cross. -/
import Derived.Test.YtcldknmhmbpboaaPcK
namespace Go.Proofs.Ytcldknmhmbpboaa
open Go.RowKit Go.Sort
set_option linter.unusedVariables false
set_option linter.unusedSimpArgs false

theorem Lf.Seg.comm {q : Lf} {a e r s : Int} {h : Int → Int} (S : Lf.Seg q a e r s h) : Lf.Seg q a e s r h := ⟨S.n, S.z, S.up, S.as, fun i hi => (S.rt i hi).symm⟩
theorem own_two (W : World) (a v r b u s : Int) {n : Nat} (hn : W.heap.size = n) : Lm (W.alloc (.cells #[.int .i64 a, .int .i64 v, .int .i64 r, .int .i64 b, .int .i64 u, .int .i64 s] 37)) (some ⟨n, 0, none⟩) (Lf.two a v r b u s) := fun _ => by
  have K := bx_at W [.int .i64 a, .int .i64 v, .int .i64 r, .int .i64 b, .int .i64 u, .int .i64 s] 37 hn
  refine ⟨n, 0, rfl, fun i hi => ?_⟩
  have hi2 : i < 2 := hi
  rcases (show i = 0 ∨ i = 1 by omega) with rfl | rfl
  · exact ⟨K.cell (i := 0) rfl, K.cell (i := 1) rfl, K.cell (i := 2) rfl⟩
  · exact ⟨K.cell (i := 3) rfl, K.cell (i := 4) rfl, K.cell (i := 5) rfl⟩
theorem held_wp {P : Program} {c : Code} {Q : Exit → Act → World → Prop} {a : Act} {W : World} (S : World → Prop) (h : S W) (k : ∀ W, S W → c.wp P Q a W) : c.wp P Q a W := k W h
/-- each piece goes as one of two lines -/
def Lk (q : Lf) (a hv r tv s : Int) : Prop := ∀ i, i < q.n → (q.R i = r ∧ q.V i = hv + (q.F i - a) * r) ∨ (q.R i = s ∧ q.V i = tv + (q.F i - a) * s)
theorem Lk.comm {q : Lf} {a hv r tv s : Int} (h : Lk q a hv r tv s) : Lk q a tv s hv r := fun i hi => (h i hi).symm
theorem lk_one (a hv r tv s : Int) : Lk (Lf.one a hv r) a hv r tv s := fun i _ => .inl ⟨rfl, by show hv = hv + (a - a) * r; rw [Int.sub_self, Int.zero_mul, Int.add_zero]⟩
theorem lk_two (a hv r c tv s : Int) : Lk (Lf.two a hv r c (tv + (c - a) * s) s) a hv r tv s := fun i hi => by
  have hi2 : i < 2 := hi
  rcases (show i = 0 ∨ i = 1 by omega) with rfl | rfl
  · exact .inl ⟨rfl, by show hv = hv + (a - a) * r; rw [Int.sub_self, Int.zero_mul, Int.add_zero]⟩
  · exact .inr ⟨rfl, rfl⟩
/-- how choose of a stretch ends -/
def ChP (a e v1 r1 v2 r2 : Int) (h : Int → Int) (w : World) (en : Ending) (w' : World) : Prop :=
  ∃ (q : Lf) (g c : Nat), Lf.Seg q a e r1 r2 h ∧ Lk q a v1 r1 v2 r2 ∧ en = .returned (.slice (some ⟨g, 0, none⟩) q.n c) ∧ w.heap.size ≤ g ∧ Lm w' (some ⟨g, 0, none⟩) q ∧ Below w.heap.size w w'
set_option maxHeartbeats 4000000 in
set_option maxRecDepth 100000 in
theorem schoose_any (sg a e v1 r1 v2 r2 : Int) (w : World) (hs : sg = 1 ∨ sg = -1) (ha : 0 ≤ a) (hae : a ≤ e) (he : e ≤ 10000000000) (hr1 : -40000 ≤ r1 ∧ r1 ≤ 40000) (hr2 : -40000 ≤ r2 ∧ r2 ≤ 40000)
    (hv1 : -4000000000000000 ≤ v1 ∧ v1 ≤ 4000000000000000) (hv2 : -4000000000000000 ≤ v2 ∧ v2 ≤ 4000000000000000) (hl1 : -4000000000000000 ≤ v1 + (e - a) * r1 ∧ v1 + (e - a) * r1 ≤ 4000000000000000) (hl2 : -4000000000000000 ≤ v2 + (e - a) * r2 ∧ v2 + (e - a) * r2 ≤ 4000000000000000) :
    Calls Try.prog 38 #[.agg #[.int .i64 a, .int .i64 e, .int .i64 a, .int .i64 v1, .int .i64 r1, .int .i64 a, .int .i64 v2, .int .i64 r2], .int .i64 sg] w (ChP a e v1 r1 v2 r2 (fun x => Lf.pick sg (v1 + (x - a) * r1) (v2 + (x - a) * r2)) w) := by
  have KX := bx_new w [.int .i64 a, .int .i64 e, .int .i64 a, .int .i64 v1, .int .i64 r1, .int .i64 a, .int .i64 v2, .int .i64 r2] 60
  have NX := below_new w (.cells #[.int .i64 a, .int .i64 e, .int .i64 a, .int .i64 v1, .int .i64 r1, .int .i64 a, .int .i64 v2, .int .i64 r2] 60)
  have hlw : w.heap.size < (w.alloc (.cells #[.int .i64 a, .int .i64 e, .int .i64 a, .int .i64 v1, .int .i64 r1, .int .i64 a, .int .i64 v2, .int .i64 r2] 60)).heap.size := by simp
  go_enter Try.func38, Try.ntmps38
  go_upto_region 1 with fail
  generalize w.alloc (.cells #[.int .i64 a, .int .i64 e, .int .i64 a, .int .i64 v1, .int .i64 r1, .int .i64 a, .int .i64 v2, .int .i64 r2] 60) = w1 at *
  have x_0 := KX.cell (i := 0) rfl
  have x_1 := KX.cell (i := 1) rfl
  have x_2 := KX.cell (i := 2) rfl
  have x_3 := KX.cell (i := 3) rfl
  have x_4 := KX.cell (i := 4) rfl
  have x_5 := KX.cell (i := 5) rfl
  have x_6 := KX.cell (i := 6) rfl
  have x_7 := KX.cell (i := 7) rfl
  go_cut [5, 6] from 5 to 14 (fun s5 s6 wx => ∃ p q, s5 = .pointer (some ⟨p, 0, none⟩) ∧ s6 = .pointer (some ⟨q, 0, none⟩) ∧ p ≠ q ∧ w1.heap.size ≤ p ∧ w1.heap.size ≤ q ∧ Bx wx p 37 [.int .i64 a, .int .i64 v1, .int .i64 r1] ∧ Bx wx q 37 [.int .i64 a, .int .i64 v2, .int .i64 r2] ∧ Below w1.heap.size w1 wx)
  case first =>
    have P1 : Bx ((w1.alloc (.cells #[.int .i64 a, .int .i64 v2, .int .i64 r2] 37)).alloc (.cells #[.int .i64 a, .int .i64 v1, .int .i64 r1] 37)).drew (w1.heap.size + 1) 37 [.int .i64 a, .int .i64 v1, .int .i64 r1] := bx_at (w1.alloc (.cells #[.int .i64 a, .int .i64 v2, .int .i64 r2] 37)) [.int .i64 a, .int .i64 v1, .int .i64 r1] _ (by simp)
    have Q1 : Bx ((w1.alloc (.cells #[.int .i64 a, .int .i64 v2, .int .i64 r2] 37)).alloc (.cells #[.int .i64 a, .int .i64 v1, .int .i64 r1] 37)).drew w1.heap.size 37 [.int .i64 a, .int .i64 v2, .int .i64 r2] := (bx_new w1 [.int .i64 a, .int .i64 v2, .int .i64 r2] _).alloc _
    have R1 : Below w1.heap.size w1 ((w1.alloc (.cells #[.int .i64 a, .int .i64 v2, .int .i64 r2] 37)).alloc (.cells #[.int .i64 a, .int .i64 v1, .int .i64 r1] 37)).drew := ((below_new w1 _).alloc (by simp) _).drew
    have P2 : Bx ((w1.alloc (.cells #[.int .i64 a, .int .i64 v1, .int .i64 r1] 37)).alloc (.cells #[.int .i64 a, .int .i64 v2, .int .i64 r2] 37)).drew w1.heap.size 37 [.int .i64 a, .int .i64 v1, .int .i64 r1] := (bx_new w1 [.int .i64 a, .int .i64 v1, .int .i64 r1] _).alloc _
    have Q2 : Bx ((w1.alloc (.cells #[.int .i64 a, .int .i64 v1, .int .i64 r1] 37)).alloc (.cells #[.int .i64 a, .int .i64 v2, .int .i64 r2] 37)).drew (w1.heap.size + 1) 37 [.int .i64 a, .int .i64 v2, .int .i64 r2] := bx_at (w1.alloc (.cells #[.int .i64 a, .int .i64 v1, .int .i64 r1] 37)) [.int .i64 a, .int .i64 v2, .int .i64 r2] _ (by simp)
    have R2 : Below w1.heap.size w1 ((w1.alloc (.cells #[.int .i64 a, .int .i64 v1, .int .i64 r1] 37)).alloc (.cells #[.int .i64 a, .int .i64 v2, .int .i64 r2] 37)).drew := ((below_new w1 _).alloc (by simp) _).drew
    have e1 : w1.heap.size + 1 ≠ w1.heap.size := by omega
    have l1 : w1.heap.size ≤ w1.heap.size + 1 := Nat.le_succ _
    have RA := Lib.hid (And.intro P1 (And.intro Q1 R1))
    have RB := Lib.hid (And.intro P2 (And.intro Q2 R2))
    clear P1 Q1 R1 P2 Q2 R2
    go_region
    all_goals
      go_wp2_with fail
      go_meet
      case rel =>
        first
          | exact ⟨_, _, rfl, rfl, e1, l1, Nat.le_refl _, RA.out.1, RA.out.2.1, RA.out.2.2⟩
          | exact ⟨_, _, rfl, rfl, e1.symm, Nat.le_refl _, l1, RB.out.1, RB.out.2.1, RB.out.2.2⟩
  case rest =>
    obtain ⟨p, q, rfl, rfl, hpq, hp1, hq1, KP, KQ, hb1⟩ := hcut
    clear x_0 x_1 x_2 x_3 x_4 x_5 x_6 x_7
    have KB := KX.below hb1
    have BB := below_step NX hb1 NX.size
    have hzb := hb1.size
    have hpb : w.heap.size ≠ p := by omega
    have hqb : w.heap.size ≠ q := by omega
    have hpw : w.heap.size ≤ p := by omega
    have hqw : w.heap.size ≤ q := by omega
    have pr1 := Lf.prod_bd (d := e - a) (r := r1) (by omega) (by omega) (by omega) (by omega)
    have pr2 := Lf.prod_bd (d := e - a) (r := r2) (by omega) (by omega) (by omega) (by omega)
    have cA2 := fun W => lat_any a v2 r2 e W (by omega) (by omega) (by omega)
    have cA1 := fun W => lat_any a v1 r1 e W (by omega) (by omega) (by omega)
    have S1 := fun h1 h2 => Lf.seg_one (sg := sg) (a := a) (e := e) (hv := v1) (hr := r1) (tv := v2) (tr := r2) hs h1 h2
    have S2 := fun h1 h2 => Lf.seg_one (sg := sg) (a := a) (e := e) (hv := v2) (hr := r2) (tv := v1) (tr := r1) hs h1 h2
    have T1 := fun h1 h2 => Lf.seg_two (sg := sg) (a := a) (e := e) (hv := v1) (hr := r1) (tv := v2) (tr := r2) hs hae h1 h2
    have T2 := fun h1 h2 => Lf.seg_two (sg := sg) (a := a) (e := e) (hv := v2) (hr := r2) (tv := v1) (tr := r1) hs hae h1 h2
    have neg1 : sg * (v1 - v2) = -(sg * (v2 - v1)) := by rw [← Int.mul_neg, Int.neg_sub]
    have neg2 : sg * (v1 + (e - a) * r1 - (v2 + (e - a) * r2)) = -(sg * (v2 + (e - a) * r2 - (v1 + (e - a) * r1))) := by rw [← Int.mul_neg, Int.neg_sub]
    rw [neg1, neg2] at S2 T2
    have HT1 := Lib.hid T1
    have HT2 := Lib.hid T2
    have HS1 := Lib.hid S1
    have HS2 := Lib.hid S2
    clear S1 S2 T1 T2 neg1 neg2
    have sD := Lf.t_bd (t := sg) (lo := 0) (hi := 8000000000000000) (by omega) (x := v2 - v1) (by omega) (by omega) (by omega)
    have sL := Lf.t_bd (t := sg) (lo := 0) (hi := 8000000000000000) (by omega) (x := v2 + (e - a) * r2 - (v1 + (e - a) * r1)) (by omega) (by omega) (by omega)
    have u1 : IntKind.i64.wrap (v2 - v1) = v2 - v1 := IntWalk.i64_in _ (by omega)
    have u3 : IntKind.i64.wrap (v2 + (e - a) * r2 - (v1 + (e - a) * r1)) = v2 + (e - a) * r2 - (v1 + (e - a) * r1) := IntWalk.i64_in _ (by omega)
    obtain ⟨D, hD⟩ : ∃ D, sg * (v2 - v1) = D := ⟨_, rfl⟩
    obtain ⟨L, hL⟩ : ∃ L, sg * (v2 + (e - a) * r2 - (v1 + (e - a) * r1)) = L := ⟨_, rfl⟩
    rw [hD] at sD
    rw [hL] at sL
    have u2 : IntKind.i64.wrap (sg * (v2 - v1)) = D := (IntWalk.i64_in _ (by omega)).trans hD
    have u4 : IntKind.i64.wrap (sg * (v2 + (e - a) * r2 - (v1 + (e - a) * r1))) = L := (IntWalk.i64_in _ (by omega)).trans hL
    rw [hD, hL] at HT1 HT2 HS1 HS2
    have HH := Lib.hid (And.intro ha (And.intro hae (And.intro he (And.intro hr1 (And.intro hr2 (And.intro hv1 hv2))))))
    clear ha hae he hr1 hr2 hv1 hv2 hl1 hl2 pr1 pr2 NX hlw KX hb1 hp1 hq1 hD hL
    generalize hy1 : v1 + (e - a) * r1 = y1 at *
    generalize hy2 : v2 + (e - a) * r2 = y2 at *
    clear hy1 hy2
    have x_0 := KB.cell (i := 0) rfl
    have x_1 := KB.cell (i := 1) rfl
    have x_2 := KB.cell (i := 2) rfl
    have x_3 := KB.cell (i := 3) rfl
    have x_4 := KB.cell (i := 4) rfl
    have x_5 := KB.cell (i := 5) rfl
    have x_6 := KB.cell (i := 6) rfl
    have x_7 := KB.cell (i := 7) rfl
    have j_0 := KP.cell (i := 0) rfl
    have jf_0 := KP.fr 0
    have j_1 := KP.cell (i := 1) rfl
    have jf_1 := KP.fr 1
    have j_2 := KP.cell (i := 2) rfl
    have jf_2 := KP.fr 2
    have k_0 := KQ.cell (i := 0) rfl
    have kf_0 := KQ.fr 0
    have k_1 := KQ.cell (i := 1) rfl
    have kf_1 := KQ.fr 1
    have k_2 := KQ.cell (i := 2) rfl
    have kf_2 := KQ.fr 2
    go_upto_region 3 with fail
    have kb_1 := fun d os => cell_regrown x_1 d os
    have kp_0 := fun d os => cell_regrown j_0 d os
    have kp_1 := fun d os => cell_regrown j_1 d os
    have kp_2 := fun d os => cell_regrown j_2 d os
    have kq_0 := fun d os => cell_regrown k_0 d os
    have kq_1 := fun d os => cell_regrown k_1 d os
    have kq_2 := fun d os => cell_regrown k_2 d os
    have cR1 := fun (d : Nat) (os : Array Obj) => Calls.regrown_of (d := d) (os := os) (w := wc) (cA1 _)
    have cR2 := fun (d : Nat) (os : Array Obj) => Calls.regrown_of (d := d) (os := os) (w := wc) (cA2 _)
    refine wp_region_quiet_below mixedP (by kernel_rfl) ?_
    iterate 4 (go_big_quiet_step (fail))
    go_big_quiet_step (exact cR2 _ _)
    iterate 3 (go_big_quiet_step (fail))
    go_big_quiet_step (exact cR1 _ _)
    repeat (go_big_quiet_step (fail))
    refine wpQuiet_nil ?_
    intro _ hw'
    obtain ⟨⟨dq, osq⟩, hw''⟩ := hw'
    subst hw''
    clear x_0 x_1 x_2 x_3 x_4 x_5 x_6 x_7
    clear j_0 j_1 j_2 jf_0 jf_1 jf_2
    clear k_0 k_1 k_2 kf_0 kf_1 kf_2
    have BX := below_regrown wc dq osq
    replace KP := KP.below BX
    replace KQ := KQ.below BX
    replace KB := KB.below BX
    replace BB := below_step BB BX BB.size
    clear kb_1 kp_0 kp_1 kp_2 kq_0 kq_1 kq_2 cR1 cR2 cA1 cA2 BX u1 u2 u3 u4 hzb
    generalize grow (redrawn wc dq) osq = W at *
    by_cases hsw : D < 0 ∨ (D = 0 ∧ L < 0)
    · have n1 : IntKind.i64.wrap (-D) = -D := IntWalk.i64_in _ (by omega)
      have n2 : IntKind.i64.wrap (-L) = -L := IntWalk.i64_in _ (by omega)
      have j_0 := KP.cell (i := 0) rfl
      have jf_0 := KP.fr 0
      have j_1 := KP.cell (i := 1) rfl
      have jf_1 := KP.fr 1
      have j_2 := KP.cell (i := 2) rfl
      have jf_2 := KP.fr 2
      have k_0 := KQ.cell (i := 0) rfl
      have kf_0 := KQ.fr 0
      have k_1 := KQ.cell (i := 1) rfl
      have kf_1 := KQ.fr 1
      have k_2 := KQ.cell (i := 2) rfl
      have kf_2 := KQ.fr 2
      have hD0 : D ≤ 0 := by omega
      have hDL : 0 ≤ -L ∨ 0 < -D := by omega
      rcases (show D < 0 ∨ (¬ D < 0 ∧ D = 0 ∧ L < 0) by omega) with h1 | ⟨h1, h2, h3⟩
      · have d1 : decide (D < 0) = true := decide_eq_true h1
        clear h1 hsw
        go_upto_region 6 with fail
        refine held_wp (fun X => Bx X p 37 [.int .i64 a, .int .i64 v2, .int .i64 r2] ∧ Bx X q 37 [.int .i64 a, .int .i64 v1, .int .i64 r1] ∧ Bx X w.heap.size 60 [.int .i64 a, .int .i64 e, .int .i64 a, .int .i64 v1, .int .i64 r1, .int .i64 a, .int .i64 v2, .int .i64 r2] ∧ Below w.heap.size w X) ⟨((((((KP.set 0 (.int .i64 a)).set 1 (.int .i64 v2)).set 2 (.int .i64 r2)).other hpq.symm 0 _).other hpq.symm 1 _).other hpq.symm 2 _), ((((((KQ.other hpq 0 _).other hpq 1 _).other hpq 2 _).set 0 (.int .i64 a)).set 1 (.int .i64 v1)).set 2 (.int .i64 r1)), ((((((KB.other hpb.symm 0 _).other hpb.symm 1 _).other hpb.symm 2 _).other hqb.symm 0 _).other hqb.symm 1 _).other hqb.symm 2 _), ((((((BB.setCell (p := ⟨p, 0, none⟩) hpw _).setCell (p := ⟨p, 1, none⟩) hpw _).setCell (p := ⟨p, 2, none⟩) hpw _).setCell (p := ⟨q, 0, none⟩) hqw _).setCell (p := ⟨q, 1, none⟩) hqw _).setCell (p := ⟨q, 2, none⟩) hqw _)⟩ ?_
        clear KP KQ KB BB j_0 j_1 j_2 jf_0 jf_1 jf_2 k_0 k_1 k_2 kf_0 kf_1 kf_2
        rintro W2 ⟨KP, KQ, KB, BB⟩
        have hD0' : 0 ≤ -D := by omega
        obtain ⟨D', hD'⟩ : ∃ D', -D = D' := ⟨_, rfl⟩
        obtain ⟨L', hL'⟩ : ∃ L', -L = L' := ⟨_, rfl⟩
        rw [hD', hL'] at HS2 HT2
        rw [hD'] at hD0' n1
        rw [hL'] at n2
        rw [hD', hL']
        have sD' : -8000000000000000 ≤ D' ∧ D' ≤ 8000000000000000 := by omega
        have hDL' : 0 ≤ L' ∨ 0 < D' := by omega
        clear hDL hD0 sD sL hD' hL'
        by_cases hge : 0 ≤ L'
        · have g1 : decide (0 ≤ L') = true := decide_eq_true hge
          have j_0 := KP.cell (i := 0) rfl
          have j_1 := KP.cell (i := 1) rfl
          have j_2 := KP.cell (i := 2) rfl
          have SS := (by have S0 := HS2.out hD0' hge; rw [show (fun x => Lf.pick sg (v2 + (x - a) * r2) (v1 + (x - a) * r1)) = (fun x => Lf.pick sg (v1 + (x - a) * r1) (v2 + (x - a) * r2)) from funext fun x => Lf.pick_comm _ _ _] at S0; exact S0.comm)
          have B9 := BB.alloc BB.size (.cells #[.int .i64 a, .int .i64 v2, .int .i64 r2] 37)
          have HR : ChP a e v1 r1 v2 r2 (fun x => Lf.pick sg (v1 + (x - a) * r1) (v2 + (x - a) * r2)) w (.returned (.slice (some ⟨W2.heap.size, 0, none⟩) 1 1)) (W2.alloc (.cells #[.int .i64 a, .int .i64 v2, .int .i64 r2] 37)) := ⟨Lf.one a v2 r2, W2.heap.size, 1, SS, (Lk.comm (lk_one a v2 r2 v1 r1)), rfl, BB.size, (own_one W2 a v2 r2 rfl 0 (Nat.zero_le _)).lm, B9⟩
          have HRR := Lib.hid HR
          clear HR SS B9 hge hDL' KP KQ KB BB HH
          go_wp2
          go_ret
          exact HRR.out
        · have g1 : decide (0 ≤ L') = false := decide_eq_false hge
          obtain ⟨N0, K0, ce, SG⟩ := HT2.out (by omega) (by omega)
          have j_0 := KP.cell (i := 0) rfl
          have j_1 := KP.cell (i := 1) rfl
          have j_2 := KP.cell (i := 2) rfl
          have k_0 := KQ.cell (i := 0) rfl
          have k_1 := KQ.cell (i := 1) rfl
          have k_2 := KQ.cell (i := 2) rfl
          have x_0 := KB.cell (i := 0) rfl
          have x_1 := KB.cell (i := 1) rfl
          have x_2 := KB.cell (i := 2) rfl
          have x_3 := KB.cell (i := 3) rfl
          have x_4 := KB.cell (i := 4) rfl
          have x_5 := KB.cell (i := 5) rfl
          have x_6 := KB.cell (i := 6) rfl
          have x_7 := KB.cell (i := 7) rfl
          have h := HH.out
          have m0 := Lf.t_bd (t := sg) (lo := 0) (hi := 80000) (by omega) (x := r2 - r1) (by omega) (by omega) (by omega)
          have m1 : IntKind.i64.wrap (r2 - r1) = r2 - r1 := IntWalk.i64_in _ (by omega)
          obtain ⟨N, hN⟩ : ∃ N, sg * (r2 - r1) = N := ⟨_, rfl⟩
          rw [hN] at N0 K0 ce SG m0
          have m2 : IntKind.i64.wrap (sg * (r2 - r1)) = N := (IntWalk.i64_in _ (by omega)).trans hN
          obtain ⟨K, hK⟩ : ∃ K, D' / N = K := ⟨_, rfl⟩
          have tK : Int.tdiv D' N = K := by rw [Int.tdiv_eq_ediv_of_nonneg hD0']; exact hK
          rw [hK] at K0 ce SG
          have m3 : IntKind.i64.wrap K = K := IntWalk.i64_in _ (by omega)
          have m4 : IntKind.i64.wrap (a + K) = a + K := IntWalk.i64_in _ (by omega)
          have m5 : IntKind.i64.wrap (a + K + 1) = a + K + 1 := IntWalk.i64_in _ (by omega)
          have nz : (N == 0) = false := by simp; omega
          have nz2 : ¬ N = 0 := by omega
          have nz3 : ¬ N = -1 := by omega
          have pb := Lf.prod_bd (d := a + K + 1 - a) (r := r1) (by omega) (by omega) (by omega) (by omega)
          have cS := fun X => since_any a v1 r1 (a + K + 1) X (by omega) (by omega) (by omega)
          have SS := (by have S0 := SG; rw [show (fun x => Lf.pick sg (v2 + (x - a) * r2) (v1 + (x - a) * r1)) = (fun x => Lf.pick sg (v1 + (x - a) * r1) (v2 + (x - a) * r2)) from funext fun x => Lf.pick_comm _ _ _] at S0; exact S0.comm)
          obtain ⟨y, hy⟩ : ∃ y, v1 + (a + K + 1 - a) * r1 = y := ⟨_, rfl⟩
          have LK := (Lk.comm (lk_two a v2 r2 (a + K + 1) v1 r1))
          rw [hy] at cS SS LK
          have HLK := Lib.hid LK
          clear LK
          have HSS := Lib.hid SS
          clear h m0 hN hK N0 K0 ce SG pb hge hy SS hDL'
          go_upto_region 9 with fail
          go_quiet (fail)
          rename_i nq _ _
          have KP3 := KP.below (below_drewN (Below.refl _ _) nq)
          have KQ3 := KQ.below (below_drewN (Below.refl _ _) nq)
          have B3 := below_drewN BB nq
          clear j_0 j_1 j_2
          clear k_0 k_1 k_2
          clear x_0 x_1 x_2 x_3 x_4 x_5 x_6 x_7
          clear KP KQ KB BB m1 m2 m3 m4 m5 nz nz2 nz3 tK g1 HH
          generalize W2.drewN nq = W3 at *
          have j_0 := KP3.cell (i := 0) rfl
          have j_1 := KP3.cell (i := 1) rfl
          have j_2 := KP3.cell (i := 2) rfl
          have k_0 := KQ3.cell (i := 0) rfl
          have k_1 := KQ3.cell (i := 1) rfl
          have k_2 := KQ3.cell (i := 2) rfl
          go_upto_region 10 with fail
          go_region_with (go_at_call 35; (with_reducible refine (cS _).mono ?_); rintro e w6 ⟨rfl, hb⟩; have KP6 := KP3.below (show Below W3.heap.size W3 w6 from below_step (Below.refl _ _).drew hb (Nat.le_refl _)); have B6 := below_step B3.drew hb B3.size; have h6_0 := KP6.cell (i := 0) rfl; have h6_1 := KP6.cell (i := 1) rfl; have h6_2 := KP6.cell (i := 2) rfl)
          all_goals
            have HR : ChP a e v1 r1 v2 r2 (fun x => Lf.pick sg (v1 + (x - a) * r1) (v2 + (x - a) * r2)) w (.returned (.slice (some ⟨w6.heap.size, 0, none⟩) 2 2)) (w6.alloc (.cells #[.int .i64 a, .int .i64 v2, .int .i64 r2, .int .i64 (a + K + 1), .int .i64 y, .int .i64 r1] 37)) := ⟨Lf.two a v2 r2 (a + K + 1) y r1, w6.heap.size, 2, HSS.out, HLK.out, rfl, B6.size, own_two w6 a v2 r2 (a + K + 1) y r1 rfl, B6.alloc B6.size _⟩
            have HRR := Lib.hid HR
            clear HR KP6 B6 h6_0 h6_1 h6_2 hb KP3 KQ3 B3
            go_wp2
            go_ret
            exact HRR.out
      · have d1 : decide (D < 0) = false := decide_eq_false h1
        have d2 : (D == 0) = true := by simp; exact h2
        have d3 : decide (L < 0) = true := decide_eq_true h3
        clear h1 h2 h3 hsw
        go_upto_region 6 with fail
        refine held_wp (fun X => Bx X p 37 [.int .i64 a, .int .i64 v2, .int .i64 r2] ∧ Bx X q 37 [.int .i64 a, .int .i64 v1, .int .i64 r1] ∧ Bx X w.heap.size 60 [.int .i64 a, .int .i64 e, .int .i64 a, .int .i64 v1, .int .i64 r1, .int .i64 a, .int .i64 v2, .int .i64 r2] ∧ Below w.heap.size w X) ⟨((((((KP.set 0 (.int .i64 a)).set 1 (.int .i64 v2)).set 2 (.int .i64 r2)).other hpq.symm 0 _).other hpq.symm 1 _).other hpq.symm 2 _), ((((((KQ.other hpq 0 _).other hpq 1 _).other hpq 2 _).set 0 (.int .i64 a)).set 1 (.int .i64 v1)).set 2 (.int .i64 r1)), ((((((KB.other hpb.symm 0 _).other hpb.symm 1 _).other hpb.symm 2 _).other hqb.symm 0 _).other hqb.symm 1 _).other hqb.symm 2 _), ((((((BB.setCell (p := ⟨p, 0, none⟩) hpw _).setCell (p := ⟨p, 1, none⟩) hpw _).setCell (p := ⟨p, 2, none⟩) hpw _).setCell (p := ⟨q, 0, none⟩) hqw _).setCell (p := ⟨q, 1, none⟩) hqw _).setCell (p := ⟨q, 2, none⟩) hqw _)⟩ ?_
        clear KP KQ KB BB j_0 j_1 j_2 jf_0 jf_1 jf_2 k_0 k_1 k_2 kf_0 kf_1 kf_2
        rintro W2 ⟨KP, KQ, KB, BB⟩
        have hD0' : 0 ≤ -D := by omega
        obtain ⟨D', hD'⟩ : ∃ D', -D = D' := ⟨_, rfl⟩
        obtain ⟨L', hL'⟩ : ∃ L', -L = L' := ⟨_, rfl⟩
        rw [hD', hL'] at HS2 HT2
        rw [hD'] at hD0' n1
        rw [hL'] at n2
        rw [hD', hL']
        have sD' : -8000000000000000 ≤ D' ∧ D' ≤ 8000000000000000 := by omega
        have hDL' : 0 ≤ L' ∨ 0 < D' := by omega
        clear hDL hD0 sD sL hD' hL'
        by_cases hge : 0 ≤ L'
        · have g1 : decide (0 ≤ L') = true := decide_eq_true hge
          have j_0 := KP.cell (i := 0) rfl
          have j_1 := KP.cell (i := 1) rfl
          have j_2 := KP.cell (i := 2) rfl
          have SS := (by have S0 := HS2.out hD0' hge; rw [show (fun x => Lf.pick sg (v2 + (x - a) * r2) (v1 + (x - a) * r1)) = (fun x => Lf.pick sg (v1 + (x - a) * r1) (v2 + (x - a) * r2)) from funext fun x => Lf.pick_comm _ _ _] at S0; exact S0.comm)
          have B9 := BB.alloc BB.size (.cells #[.int .i64 a, .int .i64 v2, .int .i64 r2] 37)
          have HR : ChP a e v1 r1 v2 r2 (fun x => Lf.pick sg (v1 + (x - a) * r1) (v2 + (x - a) * r2)) w (.returned (.slice (some ⟨W2.heap.size, 0, none⟩) 1 1)) (W2.alloc (.cells #[.int .i64 a, .int .i64 v2, .int .i64 r2] 37)) := ⟨Lf.one a v2 r2, W2.heap.size, 1, SS, (Lk.comm (lk_one a v2 r2 v1 r1)), rfl, BB.size, (own_one W2 a v2 r2 rfl 0 (Nat.zero_le _)).lm, B9⟩
          have HRR := Lib.hid HR
          clear HR SS B9 hge hDL' KP KQ KB BB HH
          go_wp2
          go_ret
          exact HRR.out
        · have g1 : decide (0 ≤ L') = false := decide_eq_false hge
          obtain ⟨N0, K0, ce, SG⟩ := HT2.out (by omega) (by omega)
          have j_0 := KP.cell (i := 0) rfl
          have j_1 := KP.cell (i := 1) rfl
          have j_2 := KP.cell (i := 2) rfl
          have k_0 := KQ.cell (i := 0) rfl
          have k_1 := KQ.cell (i := 1) rfl
          have k_2 := KQ.cell (i := 2) rfl
          have x_0 := KB.cell (i := 0) rfl
          have x_1 := KB.cell (i := 1) rfl
          have x_2 := KB.cell (i := 2) rfl
          have x_3 := KB.cell (i := 3) rfl
          have x_4 := KB.cell (i := 4) rfl
          have x_5 := KB.cell (i := 5) rfl
          have x_6 := KB.cell (i := 6) rfl
          have x_7 := KB.cell (i := 7) rfl
          have h := HH.out
          have m0 := Lf.t_bd (t := sg) (lo := 0) (hi := 80000) (by omega) (x := r2 - r1) (by omega) (by omega) (by omega)
          have m1 : IntKind.i64.wrap (r2 - r1) = r2 - r1 := IntWalk.i64_in _ (by omega)
          obtain ⟨N, hN⟩ : ∃ N, sg * (r2 - r1) = N := ⟨_, rfl⟩
          rw [hN] at N0 K0 ce SG m0
          have m2 : IntKind.i64.wrap (sg * (r2 - r1)) = N := (IntWalk.i64_in _ (by omega)).trans hN
          obtain ⟨K, hK⟩ : ∃ K, D' / N = K := ⟨_, rfl⟩
          have tK : Int.tdiv D' N = K := by rw [Int.tdiv_eq_ediv_of_nonneg hD0']; exact hK
          rw [hK] at K0 ce SG
          have m3 : IntKind.i64.wrap K = K := IntWalk.i64_in _ (by omega)
          have m4 : IntKind.i64.wrap (a + K) = a + K := IntWalk.i64_in _ (by omega)
          have m5 : IntKind.i64.wrap (a + K + 1) = a + K + 1 := IntWalk.i64_in _ (by omega)
          have nz : (N == 0) = false := by simp; omega
          have nz2 : ¬ N = 0 := by omega
          have nz3 : ¬ N = -1 := by omega
          have pb := Lf.prod_bd (d := a + K + 1 - a) (r := r1) (by omega) (by omega) (by omega) (by omega)
          have cS := fun X => since_any a v1 r1 (a + K + 1) X (by omega) (by omega) (by omega)
          have SS := (by have S0 := SG; rw [show (fun x => Lf.pick sg (v2 + (x - a) * r2) (v1 + (x - a) * r1)) = (fun x => Lf.pick sg (v1 + (x - a) * r1) (v2 + (x - a) * r2)) from funext fun x => Lf.pick_comm _ _ _] at S0; exact S0.comm)
          obtain ⟨y, hy⟩ : ∃ y, v1 + (a + K + 1 - a) * r1 = y := ⟨_, rfl⟩
          have LK := (Lk.comm (lk_two a v2 r2 (a + K + 1) v1 r1))
          rw [hy] at cS SS LK
          have HLK := Lib.hid LK
          clear LK
          have HSS := Lib.hid SS
          clear h m0 hN hK N0 K0 ce SG pb hge hy SS hDL'
          go_upto_region 9 with fail
          go_quiet (fail)
          rename_i nq _ _
          have KP3 := KP.below (below_drewN (Below.refl _ _) nq)
          have KQ3 := KQ.below (below_drewN (Below.refl _ _) nq)
          have B3 := below_drewN BB nq
          clear j_0 j_1 j_2
          clear k_0 k_1 k_2
          clear x_0 x_1 x_2 x_3 x_4 x_5 x_6 x_7
          clear KP KQ KB BB m1 m2 m3 m4 m5 nz nz2 nz3 tK g1 HH
          generalize W2.drewN nq = W3 at *
          have j_0 := KP3.cell (i := 0) rfl
          have j_1 := KP3.cell (i := 1) rfl
          have j_2 := KP3.cell (i := 2) rfl
          have k_0 := KQ3.cell (i := 0) rfl
          have k_1 := KQ3.cell (i := 1) rfl
          have k_2 := KQ3.cell (i := 2) rfl
          go_upto_region 10 with fail
          go_region_with (go_at_call 35; (with_reducible refine (cS _).mono ?_); rintro e w6 ⟨rfl, hb⟩; have KP6 := KP3.below (show Below W3.heap.size W3 w6 from below_step (Below.refl _ _).drew hb (Nat.le_refl _)); have B6 := below_step B3.drew hb B3.size; have h6_0 := KP6.cell (i := 0) rfl; have h6_1 := KP6.cell (i := 1) rfl; have h6_2 := KP6.cell (i := 2) rfl)
          all_goals
            have HR : ChP a e v1 r1 v2 r2 (fun x => Lf.pick sg (v1 + (x - a) * r1) (v2 + (x - a) * r2)) w (.returned (.slice (some ⟨w6.heap.size, 0, none⟩) 2 2)) (w6.alloc (.cells #[.int .i64 a, .int .i64 v2, .int .i64 r2, .int .i64 (a + K + 1), .int .i64 y, .int .i64 r1] 37)) := ⟨Lf.two a v2 r2 (a + K + 1) y r1, w6.heap.size, 2, HSS.out, HLK.out, rfl, B6.size, own_two w6 a v2 r2 (a + K + 1) y r1 rfl, B6.alloc B6.size _⟩
            have HRR := Lib.hid HR
            clear HR KP6 B6 h6_0 h6_1 h6_2 hb KP3 KQ3 B3
            go_wp2
            go_ret
            exact HRR.out
    · have d1 : decide (D < 0) = false := by simp; omega
      have hD0 : 0 ≤ D := by omega
      have hDL : 0 ≤ L ∨ 0 < D := by omega
      by_cases h2 : D = 0
      · have d2 : (D == 0) = true := by simp; exact h2
        have d3 : decide (L < 0) = false := by simp; omega
        clear h2 hsw
        go_upto_region 6 with fail
        by_cases hge : 0 ≤ L
        · have g1 : decide (0 ≤ L) = true := decide_eq_true hge
          have j_0 := KP.cell (i := 0) rfl
          have j_1 := KP.cell (i := 1) rfl
          have j_2 := KP.cell (i := 2) rfl
          have SS := HS1.out hD0 hge
          have B9 := BB.alloc BB.size (.cells #[.int .i64 a, .int .i64 v1, .int .i64 r1] 37)
          have HR : ChP a e v1 r1 v2 r2 (fun x => Lf.pick sg (v1 + (x - a) * r1) (v2 + (x - a) * r2)) w (.returned (.slice (some ⟨W.heap.size, 0, none⟩) 1 1)) (W.alloc (.cells #[.int .i64 a, .int .i64 v1, .int .i64 r1] 37)) := ⟨Lf.one a v1 r1, W.heap.size, 1, SS, lk_one a v1 r1 v2 r2, rfl, BB.size, (own_one W a v1 r1 rfl 0 (Nat.zero_le _)).lm, B9⟩
          have HRR := Lib.hid HR
          clear HR SS B9 hge hDL KP KQ KB BB HH
          go_wp2
          go_ret
          exact HRR.out
        · have g1 : decide (0 ≤ L) = false := decide_eq_false hge
          obtain ⟨N0, K0, ce, SG⟩ := HT1.out (by omega) (by omega)
          have j_0 := KP.cell (i := 0) rfl
          have j_1 := KP.cell (i := 1) rfl
          have j_2 := KP.cell (i := 2) rfl
          have k_0 := KQ.cell (i := 0) rfl
          have k_1 := KQ.cell (i := 1) rfl
          have k_2 := KQ.cell (i := 2) rfl
          have x_0 := KB.cell (i := 0) rfl
          have x_1 := KB.cell (i := 1) rfl
          have x_2 := KB.cell (i := 2) rfl
          have x_3 := KB.cell (i := 3) rfl
          have x_4 := KB.cell (i := 4) rfl
          have x_5 := KB.cell (i := 5) rfl
          have x_6 := KB.cell (i := 6) rfl
          have x_7 := KB.cell (i := 7) rfl
          have h := HH.out
          have m0 := Lf.t_bd (t := sg) (lo := 0) (hi := 80000) (by omega) (x := r1 - r2) (by omega) (by omega) (by omega)
          have m1 : IntKind.i64.wrap (r1 - r2) = r1 - r2 := IntWalk.i64_in _ (by omega)
          obtain ⟨N, hN⟩ : ∃ N, sg * (r1 - r2) = N := ⟨_, rfl⟩
          rw [hN] at N0 K0 ce SG m0
          have m2 : IntKind.i64.wrap (sg * (r1 - r2)) = N := (IntWalk.i64_in _ (by omega)).trans hN
          obtain ⟨K, hK⟩ : ∃ K, D / N = K := ⟨_, rfl⟩
          have tK : Int.tdiv D N = K := by rw [Int.tdiv_eq_ediv_of_nonneg hD0]; exact hK
          rw [hK] at K0 ce SG
          have m3 : IntKind.i64.wrap K = K := IntWalk.i64_in _ (by omega)
          have m4 : IntKind.i64.wrap (a + K) = a + K := IntWalk.i64_in _ (by omega)
          have m5 : IntKind.i64.wrap (a + K + 1) = a + K + 1 := IntWalk.i64_in _ (by omega)
          have nz : (N == 0) = false := by simp; omega
          have nz2 : ¬ N = 0 := by omega
          have nz3 : ¬ N = -1 := by omega
          have pb := Lf.prod_bd (d := a + K + 1 - a) (r := r2) (by omega) (by omega) (by omega) (by omega)
          have cS := fun X => since_any a v2 r2 (a + K + 1) X (by omega) (by omega) (by omega)
          have SS := SG
          obtain ⟨y, hy⟩ : ∃ y, v2 + (a + K + 1 - a) * r2 = y := ⟨_, rfl⟩
          have LK := lk_two a v1 r1 (a + K + 1) v2 r2
          rw [hy] at cS SS LK
          have HLK := Lib.hid LK
          clear LK
          have HSS := Lib.hid SS
          clear h m0 hN hK N0 K0 ce SG pb hge hy SS hDL
          go_upto_region 9 with fail
          go_quiet (fail)
          rename_i nq _ _
          have KP3 := KP.below (below_drewN (Below.refl _ _) nq)
          have KQ3 := KQ.below (below_drewN (Below.refl _ _) nq)
          have B3 := below_drewN BB nq
          clear j_0 j_1 j_2
          clear k_0 k_1 k_2
          clear x_0 x_1 x_2 x_3 x_4 x_5 x_6 x_7
          clear KP KQ KB BB m1 m2 m3 m4 m5 nz nz2 nz3 tK g1 HH
          generalize W.drewN nq = W3 at *
          have j_0 := KP3.cell (i := 0) rfl
          have j_1 := KP3.cell (i := 1) rfl
          have j_2 := KP3.cell (i := 2) rfl
          have k_0 := KQ3.cell (i := 0) rfl
          have k_1 := KQ3.cell (i := 1) rfl
          have k_2 := KQ3.cell (i := 2) rfl
          go_upto_region 10 with fail
          go_region_with (go_at_call 35; (with_reducible refine (cS _).mono ?_); rintro e w6 ⟨rfl, hb⟩; have KP6 := KP3.below (show Below W3.heap.size W3 w6 from below_step (Below.refl _ _).drew hb (Nat.le_refl _)); have B6 := below_step B3.drew hb B3.size; have h6_0 := KP6.cell (i := 0) rfl; have h6_1 := KP6.cell (i := 1) rfl; have h6_2 := KP6.cell (i := 2) rfl)
          all_goals
            have HR : ChP a e v1 r1 v2 r2 (fun x => Lf.pick sg (v1 + (x - a) * r1) (v2 + (x - a) * r2)) w (.returned (.slice (some ⟨w6.heap.size, 0, none⟩) 2 2)) (w6.alloc (.cells #[.int .i64 a, .int .i64 v1, .int .i64 r1, .int .i64 (a + K + 1), .int .i64 y, .int .i64 r2] 37)) := ⟨Lf.two a v1 r1 (a + K + 1) y r2, w6.heap.size, 2, HSS.out, HLK.out, rfl, B6.size, own_two w6 a v1 r1 (a + K + 1) y r2 rfl, B6.alloc B6.size _⟩
            have HRR := Lib.hid HR
            clear HR KP6 B6 h6_0 h6_1 h6_2 hb KP3 KQ3 B3
            go_wp2
            go_ret
            exact HRR.out
      · have d2 : (D == 0) = false := by simp; exact h2
        clear h2 hsw
        go_upto_region 6 with fail
        by_cases hge : 0 ≤ L
        · have g1 : decide (0 ≤ L) = true := decide_eq_true hge
          have j_0 := KP.cell (i := 0) rfl
          have j_1 := KP.cell (i := 1) rfl
          have j_2 := KP.cell (i := 2) rfl
          have SS := HS1.out hD0 hge
          have B9 := BB.alloc BB.size (.cells #[.int .i64 a, .int .i64 v1, .int .i64 r1] 37)
          have HR : ChP a e v1 r1 v2 r2 (fun x => Lf.pick sg (v1 + (x - a) * r1) (v2 + (x - a) * r2)) w (.returned (.slice (some ⟨W.heap.size, 0, none⟩) 1 1)) (W.alloc (.cells #[.int .i64 a, .int .i64 v1, .int .i64 r1] 37)) := ⟨Lf.one a v1 r1, W.heap.size, 1, SS, lk_one a v1 r1 v2 r2, rfl, BB.size, (own_one W a v1 r1 rfl 0 (Nat.zero_le _)).lm, B9⟩
          have HRR := Lib.hid HR
          clear HR SS B9 hge hDL KP KQ KB BB HH
          go_wp2
          go_ret
          exact HRR.out
        · have g1 : decide (0 ≤ L) = false := decide_eq_false hge
          obtain ⟨N0, K0, ce, SG⟩ := HT1.out (by omega) (by omega)
          have j_0 := KP.cell (i := 0) rfl
          have j_1 := KP.cell (i := 1) rfl
          have j_2 := KP.cell (i := 2) rfl
          have k_0 := KQ.cell (i := 0) rfl
          have k_1 := KQ.cell (i := 1) rfl
          have k_2 := KQ.cell (i := 2) rfl
          have x_0 := KB.cell (i := 0) rfl
          have x_1 := KB.cell (i := 1) rfl
          have x_2 := KB.cell (i := 2) rfl
          have x_3 := KB.cell (i := 3) rfl
          have x_4 := KB.cell (i := 4) rfl
          have x_5 := KB.cell (i := 5) rfl
          have x_6 := KB.cell (i := 6) rfl
          have x_7 := KB.cell (i := 7) rfl
          have h := HH.out
          have m0 := Lf.t_bd (t := sg) (lo := 0) (hi := 80000) (by omega) (x := r1 - r2) (by omega) (by omega) (by omega)
          have m1 : IntKind.i64.wrap (r1 - r2) = r1 - r2 := IntWalk.i64_in _ (by omega)
          obtain ⟨N, hN⟩ : ∃ N, sg * (r1 - r2) = N := ⟨_, rfl⟩
          rw [hN] at N0 K0 ce SG m0
          have m2 : IntKind.i64.wrap (sg * (r1 - r2)) = N := (IntWalk.i64_in _ (by omega)).trans hN
          obtain ⟨K, hK⟩ : ∃ K, D / N = K := ⟨_, rfl⟩
          have tK : Int.tdiv D N = K := by rw [Int.tdiv_eq_ediv_of_nonneg hD0]; exact hK
          rw [hK] at K0 ce SG
          have m3 : IntKind.i64.wrap K = K := IntWalk.i64_in _ (by omega)
          have m4 : IntKind.i64.wrap (a + K) = a + K := IntWalk.i64_in _ (by omega)
          have m5 : IntKind.i64.wrap (a + K + 1) = a + K + 1 := IntWalk.i64_in _ (by omega)
          have nz : (N == 0) = false := by simp; omega
          have nz2 : ¬ N = 0 := by omega
          have nz3 : ¬ N = -1 := by omega
          have pb := Lf.prod_bd (d := a + K + 1 - a) (r := r2) (by omega) (by omega) (by omega) (by omega)
          have cS := fun X => since_any a v2 r2 (a + K + 1) X (by omega) (by omega) (by omega)
          have SS := SG
          obtain ⟨y, hy⟩ : ∃ y, v2 + (a + K + 1 - a) * r2 = y := ⟨_, rfl⟩
          have LK := lk_two a v1 r1 (a + K + 1) v2 r2
          rw [hy] at cS SS LK
          have HLK := Lib.hid LK
          clear LK
          have HSS := Lib.hid SS
          clear h m0 hN hK N0 K0 ce SG pb hge hy SS hDL
          go_upto_region 9 with fail
          go_quiet (fail)
          rename_i nq _ _
          have KP3 := KP.below (below_drewN (Below.refl _ _) nq)
          have KQ3 := KQ.below (below_drewN (Below.refl _ _) nq)
          have B3 := below_drewN BB nq
          clear j_0 j_1 j_2
          clear k_0 k_1 k_2
          clear x_0 x_1 x_2 x_3 x_4 x_5 x_6 x_7
          clear KP KQ KB BB m1 m2 m3 m4 m5 nz nz2 nz3 tK g1 HH
          generalize W.drewN nq = W3 at *
          have j_0 := KP3.cell (i := 0) rfl
          have j_1 := KP3.cell (i := 1) rfl
          have j_2 := KP3.cell (i := 2) rfl
          have k_0 := KQ3.cell (i := 0) rfl
          have k_1 := KQ3.cell (i := 1) rfl
          have k_2 := KQ3.cell (i := 2) rfl
          go_upto_region 10 with fail
          go_region_with (go_at_call 35; (with_reducible refine (cS _).mono ?_); rintro e w6 ⟨rfl, hb⟩; have KP6 := KP3.below (show Below W3.heap.size W3 w6 from below_step (Below.refl _ _).drew hb (Nat.le_refl _)); have B6 := below_step B3.drew hb B3.size; have h6_0 := KP6.cell (i := 0) rfl; have h6_1 := KP6.cell (i := 1) rfl; have h6_2 := KP6.cell (i := 2) rfl)
          all_goals
            have HR : ChP a e v1 r1 v2 r2 (fun x => Lf.pick sg (v1 + (x - a) * r1) (v2 + (x - a) * r2)) w (.returned (.slice (some ⟨w6.heap.size, 0, none⟩) 2 2)) (w6.alloc (.cells #[.int .i64 a, .int .i64 v1, .int .i64 r1, .int .i64 (a + K + 1), .int .i64 y, .int .i64 r2] 37)) := ⟨Lf.two a v1 r1 (a + K + 1) y r2, w6.heap.size, 2, HSS.out, HLK.out, rfl, B6.size, own_two w6 a v1 r1 (a + K + 1) y r2 rfl, B6.alloc B6.size _⟩
            have HRR := Lib.hid HR
            clear HR KP6 B6 h6_0 h6_1 h6_2 hb KP3 KQ3 B3
            go_wp2
            go_ret
            exact HRR.out
end Go.Proofs.Ytcldknmhmbpboaa
