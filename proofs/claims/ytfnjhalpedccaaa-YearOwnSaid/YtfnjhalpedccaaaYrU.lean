/- keeps: the first payslip is posted, and told. -/
import Derived.Test.YtfnjhalpedccaaaYrT
namespace Go.Proofs.Ytfnjhalpedccaaa
open Go.RowKit Go.Sort
set_option linter.unusedVariables false
set_option linter.unusedSimpArgs false

/-- what the first payslip comes to -/
def fstT : Tot := ⟨1000, 1000, 900, 100, 7, fun _ => 50, fun _ => 60, 850, 50, 800⟩
theorem fst_add (b : Nat) : Tot.z.add (fstS b) = fstT := by
  unfold Tot.add Tot.z fstS fstT
  simp [sumT]
theorem fstT_rB : fstT.rB 1 = true := by decide +kernel
theorem zz_rB : Tot.z.rB 1 = true := by decide +kernel
/-- the first payslip is posted -/
theorem post_fst {W : World} {p : Nat} {g : Nat → Slp} {F : Nat → Prop} (h : YO W p 1 0 g Tot.z F) (b : Nat) (hM : SlM W (fstS b)) :
    Calls Try.prog 14 #[.pointer (some ⟨p, 0, none⟩), .agg #[.int .i64 1, .int .i64 1000, .int .i64 1000, .int .i64 900, .int .i64 100, .int .i64 7, .slice (some ⟨b, 0, none⟩) 1 1, .int .i64 850, .slice (some ⟨b + 1, 0, none⟩) 1 1, .int .i64 800]] W fun e w' => ∃ f, e = .returned (.int .i64 0) ∧ YO w' p 1 1 f fstT (addF F W w') ∧ (f 0).OK 1 ∧ (f 0).m = 1 ∧ (f 0).pay = 800 ∧ Tot.z.add (f 0) = fstT ∧ Chg F W w' := by
  have c := ypost_ok h (fstS b) hM (by decide) (show 1 ≤ 100000 by decide) (show 1 ≤ 100000 by decide) (by decide) (fst_ok b) (by rfl) zz_rB (by rw [fst_add]; exact fstT_rB)
  refine c.mono ?_
  rintro e w' ⟨A, c, T, d, rfl, hY, hC⟩
  rw [fst_add] at hY
  refine ⟨_, rfl, hY, ?_, rfl, rfl, ?_, hC⟩
  · exact Slp.ok_of (by kernel_rfl)
  · unfold Tot.add Tot.z fstT exG Slp.mv fstS
    simp [sumT]
/-- and not once more -/
theorem post_fst2 {W : World} {p : Nat} {g : Nat → Slp} {F : Nat → Prop} (h : YO W p 1 1 g fstT F) (b : Nat) (hM : SlM W (fstS b)) :
    Calls Try.prog 14 #[.pointer (some ⟨p, 0, none⟩), .agg #[.int .i64 1, .int .i64 1000, .int .i64 1000, .int .i64 900, .int .i64 100, .int .i64 7, .slice (some ⟨b, 0, none⟩) 1 1, .int .i64 850, .slice (some ⟨b + 1, 0, none⟩) 1 1, .int .i64 800]] W fun e w' => e = .returned (.int .i64 6) ∧ Below W.heap.size W w' :=
  ypost_no (fstS b) 6 (by decide) hM fun w hb => ytry_ord (h.below hb) (fstS b) (hM.below hb) (by decide) (show 1 ≤ 100000 by decide) (show 1 ≤ 100000 by decide) (by decide) (fst_ok b) (show (1 : Int) ≠ ((1 : Nat) : Int) + 1 by decide)
set_option maxRecDepth 100000 in
set_option maxHeartbeats 8000000 in
theorem keeps_any (w : World) :
    Calls Try.prog 7 #[] w fun e w' => e = .returned (.bool true) ∧ Below w.heap.size w w' := by
  have c1 : Calls Try.prog 9 #[.int .i64 1] w _ := ynew_ok 1 (fun _ => fstS 0) w (by decide)
  go_enter Try.func7, Try.ntmps7
  go_wp2_with (fail)
  with_reducible refine c1.mono ?_
  rintro e w1 ⟨p, rfl, hY, B⟩
  clear c1
  have hFw : ∀ q, newF w w1 q → w.heap.size ≤ q := fun q h => h.1
  have c2 := first_any w1
  go_wp2_with (fail)
  with_reducible refine c2.mono ?_
  rintro e w2 ⟨b, rfl, _, hM, hb⟩
  replace B := below_step B hb B.size
  replace hY := hY.below hb
  have hz := B.size
  have c3 := post_fst hY b hM
  clear c2 hb
  go_wp2_with (fail)
  with_reducible refine c3.mono ?_
  rintro e w3 ⟨f, rfl, hY3, hok, hm1, hpay, hadd, hC⟩
  replace B := hC.below B hz hFw
  clear c3 hC hY hM hFw hz
  have HOK := Lib.hid hok
  have HM1 := Lib.hid hm1
  have HPAY := Lib.hid hpay
  have HADD := Lib.hid hadd
  clear hok hm1 hpay hadd
  have c4 := first_any w3
  go_wp2_with (fail)
  with_reducible refine c4.mono ?_
  rintro e w4 ⟨b2, rfl, _, hM, hb⟩
  replace B := below_step B hb B.size
  have hY4 := hY3.below hb
  have c5 := post_fst2 hY4 b2 hM
  clear c4 hb hY3
  go_wp2_with (fail)
  with_reducible refine c5.mono ?_
  rintro e w5 ⟨rfl, hb⟩
  replace B := below_step B hb B.size
  have hY5 := hY4.below hb
  clear c5 hb hY4 hM
  have c6 : Calls Try.prog 17 #[.pointer (some ⟨p, 0, none⟩)] w5 fun e w' => ∃ A c, e = .returned (.agg #[.int .i64 1000, .int .i64 1000, .int .i64 900, .int .i64 100, .int .i64 7, .slice A 1 c, .int .i64 850, .int .i64 50, .int .i64 800]) ∧ w'.ownsRow w5.heap.size 53 2 (.slice A 1 c) 1 (sh2 fstT.X fstT.Y 1) ∧ Below w5.heap.size w5 w' := ytotals_any hY5 (by decide)
  go_wp2_with (fail)
  with_reducible refine c6.mono ?_
  rintro e w6 ⟨A1, a1, rfl, O1, hb⟩
  replace B := below_step B hb B.size
  have hY6 := hY5.below hb
  clear c6 hb hY5
  have c7 := yclone_any hY6 (by decide) (fun i hi => by
    obtain rfl : i = 0 := by omega
    exact ⟨by have := HOK.out.n; omega, by have := HM1.out; omega⟩) (by decide)
  unfold YcP at c7
  go_wp2_with (fail)
  with_reducible refine c7.mono ?_
  rintro e w7 ⟨p2, f2, rfl, hYc, _, hb⟩
  replace B := below_step B hb B.size
  have hY7 := hY6.below hb
  replace O1 := own_below O1 hb
  clear c7 hb hY6
  have c8 : Calls Try.prog 17 #[.pointer (some ⟨p2, 0, none⟩)] w7 fun e w' => ∃ A c, e = .returned (.agg #[.int .i64 1000, .int .i64 1000, .int .i64 900, .int .i64 100, .int .i64 7, .slice A 1 c, .int .i64 850, .int .i64 50, .int .i64 800]) ∧ w'.ownsRow w7.heap.size 53 2 (.slice A 1 c) 1 (sh2 fstT.X fstT.Y 1) ∧ Below w7.heap.size w7 w' := ytotals_any hYc (by decide)
  go_wp2_with (fail)
  with_reducible refine c8.mono ?_
  rintro e w8 ⟨A2, a2, rfl, O2, hb⟩
  replace B := below_step B hb B.size
  have hY8 := hY7.below hb
  replace O1 := own_below O1 hb
  clear c8 hb hY7 hYc
  have N3 := below_new w8 (.cells #[.int .i64 1000, .int .i64 1000, .int .i64 900, .int .i64 100, .int .i64 7, .slice A1 1 a1, .int .i64 850, .int .i64 50, .int .i64 800] 34)
  have N4 := below_new (w8.alloc (.cells #[.int .i64 1000, .int .i64 1000, .int .i64 900, .int .i64 100, .int .i64 7, .slice A1 1 a1, .int .i64 850, .int .i64 50, .int .i64 800] 34)) (.cells #[.int .i64 1000, .int .i64 1000, .int .i64 900, .int .i64 100, .int .i64 7, .slice A2 1 a2, .int .i64 850, .int .i64 50, .int .i64 800] 34)
  have K3 := (bx_new w8 [.int .i64 1000, .int .i64 1000, .int .i64 900, .int .i64 100, .int .i64 7, .slice A1 1 a1, .int .i64 850, .int .i64 50, .int .i64 800] 34).below N4
  have K4 := bx_at (w8.alloc (.cells #[.int .i64 1000, .int .i64 1000, .int .i64 900, .int .i64 100, .int .i64 7, .slice A1 1 a1, .int .i64 850, .int .i64 50, .int .i64 800] 34)) [.int .i64 1000, .int .i64 1000, .int .i64 900, .int .i64 100, .int .i64 7, .slice A2 1 a2, .int .i64 850, .int .i64 50, .int .i64 800] 34 (n := w8.heap.size + 1) (by simp)
  have N5 := below_step N3 N4 (by simp)
  replace B := below_step B N5 B.size
  have hY9 := hY8.below N5
  replace O1 := own_below O1 N5
  replace O2 := own_below O2 N5
  clear N3 N4 N5 hY8
  go_wp2_with (fail)
  generalize ((w8.alloc (.cells #[.int .i64 1000, .int .i64 1000, .int .i64 900, .int .i64 100, .int .i64 7, .slice A1 1 a1, .int .i64 850, .int .i64 50, .int .i64 800] 34)).alloc (.cells #[.int .i64 1000, .int .i64 1000, .int .i64 900, .int .i64 100, .int .i64 7, .slice A2 1 a2, .int .i64 850, .int .i64 50, .int .i64 800] 34)) = w9 at *
  generalize w8.heap.size = q3 at *
  have c9 : Calls Try.prog 15 #[.pointer (some ⟨p, 0, none⟩), .int .i64 1] w9 (YsP (f 0) w9) := yslip_ok hY9 (fun i hi => by
    obtain rfl : i = 0 := by omega
    exact ⟨by have := HOK.out.n; omega, by have := HM1.out; omega⟩) 0 (by decide) (by decide)
  unfold YsP at c9
  rw [HPAY.out] at c9
  with_reducible refine c9.mono ?_
  rintro e w10 ⟨A5, c5, T5, d5, rfl, _, _, _, hb⟩
  replace B := below_step B hb B.size
  have hY10 := hY9.below hb
  replace O1 := own_below O1 hb
  replace O2 := own_below O2 hb
  replace K3 := K3.below hb
  replace K4 := K4.below hb
  clear c9 hb hY9
  have N5 := below_new w10 (.cells #[.int .i64 (f 0).k, .int .i64 (f 0).ca, .int .i64 (f 0).tb, .int .i64 (f 0).so, .int .i64 (f 0).tx, .int .i64 (f 0).sf, .slice A5 (f 0).n c5, .int .i64 (f 0).net, .slice T5 (f 0).m d5, .int .i64 800] 37)
  have K5 := bx_new w10 [.int .i64 (f 0).k, .int .i64 (f 0).ca, .int .i64 (f 0).tb, .int .i64 (f 0).so, .int .i64 (f 0).tx, .int .i64 (f 0).sf, .slice A5 (f 0).n c5, .int .i64 (f 0).net, .slice T5 (f 0).m d5, .int .i64 800] 37
  replace B := below_step B N5 B.size
  have hY11 := hY10.below N5
  replace O1 := own_below O1 N5
  replace O2 := own_below O2 N5
  replace K3 := K3.below N5
  replace K4 := K4.below N5
  clear N5 hY10
  have HT1 : Hid (totG f 1 = fstT) := HADD
  have ht : ∀ i, i ≤ 1 → (totG f i).rB 1 = true := fun i hi => by
    rcases (show i = 0 ∨ i = 1 by omega) with rfl | rfl
    · exact zz_rB
    · rw [HT1.out]; exact fstT_rB
  have c10 := yupto_ok hY11 (by decide) (by decide) (fun i hi => by
    obtain rfl : i = 0 := by omega
    exact ⟨HOK.out, by have := HM1.out; omega⟩) ht 1 (by decide)
  rw [HT1.out] at c10
  replace c10 : Calls Try.prog 19 #[.pointer (some ⟨p, 0, none⟩), .int .i64 1] _ fun e w' => ∃ b, e = .returned (.tuple #[.agg #[.int .i64 1000, .int .i64 1000, .int .i64 900, .int .i64 100, .int .i64 7, .slice (some ⟨b, 0, none⟩) 1 1, .int .i64 850, .int .i64 50, .int .i64 800], .int .i64 0]) ∧ _ ≤ b ∧ ShB w' b 1 fstT.X fstT.Y ∧ Below _ _ w' := c10
  go_wp2_with (fail)
  generalize (w10.alloc (.cells #[.int .i64 (f 0).k, .int .i64 (f 0).ca, .int .i64 (f 0).tb, .int .i64 (f 0).so, .int .i64 (f 0).tx, .int .i64 (f 0).sf, .slice A5 (f 0).n c5, .int .i64 (f 0).net, .slice T5 (f 0).m d5, .int .i64 800] 37)) = w11 at *
  generalize w10.heap.size = q5 at *
  with_reducible refine c10.mono ?_
  rintro e w12 ⟨b7, rfl, _, HS7, hb⟩
  replace B := below_step B hb B.size
  have hY12 := hY11.below hb
  replace O1 := own_below O1 hb
  replace O2 := own_below O2 hb
  replace K3 := K3.below hb
  replace K4 := K4.below hb
  replace K5 := K5.below hb
  clear c10 hb hY11 ht
  have N7 := below_new w12 (.cells #[.int .i64 1000, .int .i64 1000, .int .i64 900, .int .i64 100, .int .i64 7, .slice (some ⟨b7, 0, none⟩) 1 1, .int .i64 850, .int .i64 50, .int .i64 800] 34)
  have K7 := bx_new w12 [.int .i64 1000, .int .i64 1000, .int .i64 900, .int .i64 100, .int .i64 7, .slice (some ⟨b7, 0, none⟩) 1 1, .int .i64 850, .int .i64 50, .int .i64 800] 34
  replace B := below_step B N7 B.size
  have hY13 := hY12.below N7
  replace O1 := own_below O1 N7
  replace O2 := own_below O2 N7
  replace K3 := K3.below N7
  replace K4 := K4.below N7
  replace K5 := K5.below N7
  have HS8 := HS7.below N7
  clear N7 hY12 HS7
  have c11 := ycount_any hY13
  obtain ⟨g1, e1⟩ : ∃ g, A1 = some ⟨g, 0, none⟩ := by
    obtain ⟨A', c', e, _, hg⟩ := own_len O1
    obtain ⟨rfl, _, _⟩ := Value.slice.inj e
    exact hg (by decide)
  subst e1
  have x60 := own_cells O1 (j := 1) (u := .int .i64 60) rfl
  have hS1 := shs_own O1
  have hS2 := shs_own O2
  have hS7 := HS8.shs
  have c12 : ∀ W : World, Below _ _ W → Calls Try.prog 13 #[.agg #[.int .i64 1000, .int .i64 1000, .int .i64 900, .int .i64 100, .int .i64 7, .slice (some ⟨g1, 0, none⟩) 1 a1, .int .i64 850, .int .i64 50, .int .i64 800], .agg #[.int .i64 1000, .int .i64 1000, .int .i64 900, .int .i64 100, .int .i64 7, .slice A2 1 a2, .int .i64 850, .int .i64 50, .int .i64 800]] W fun e w' => e = .returned (.bool true) ∧ Below W.heap.size W w' := fun W hb => ysame_any fstT (some ⟨g1, 0, none⟩) A2 1 a1 a2 W (hS1.below hb) (hS2.below hb) (by decide)
  have c13 : ∀ W : World, Below _ _ W → Calls Try.prog 13 #[.agg #[.int .i64 1000, .int .i64 1000, .int .i64 900, .int .i64 100, .int .i64 7, .slice (some ⟨g1, 0, none⟩) 1 a1, .int .i64 850, .int .i64 50, .int .i64 800], .agg #[.int .i64 1000, .int .i64 1000, .int .i64 900, .int .i64 100, .int .i64 7, .slice (some ⟨b7, 0, none⟩) 1 1, .int .i64 850, .int .i64 50, .int .i64 800]] W fun e w' => e = .returned (.bool true) ∧ Below W.heap.size W w' := fun W hb => ysame_any fstT (some ⟨g1, 0, none⟩) (some ⟨b7, 0, none⟩) 1 a1 1 W (hS1.below hb) (hS7.below hb) (by decide)
  have c14 := fun W (hb : Below _ _ W) => yslips_any (hY13.below hb) (fun i hi => by
    obtain rfl : i = 0 := by omega
    exact ⟨by have := HOK.out.n; omega, by have := HM1.out; omega⟩) (by decide)
  unfold YlP at c14
  clear hS1 hS2 hS7 O1 O2 HS8 hY13 HOK HM1 HADD HPAY HT1
  have k3_0 := K3.cell (i := 0) rfl
  have k3_1 := K3.cell (i := 1) rfl
  have k3_2 := K3.cell (i := 2) rfl
  have k3_3 := K3.cell (i := 3) rfl
  have k3_4 := K3.cell (i := 4) rfl
  have k3_5 := K3.cell (i := 5) rfl
  have k3_6 := K3.cell (i := 6) rfl
  have k3_7 := K3.cell (i := 7) rfl
  have k3_8 := K3.cell (i := 8) rfl
  have k4_0 := K4.cell (i := 0) rfl
  have k4_1 := K4.cell (i := 1) rfl
  have k4_2 := K4.cell (i := 2) rfl
  have k4_3 := K4.cell (i := 3) rfl
  have k4_4 := K4.cell (i := 4) rfl
  have k4_5 := K4.cell (i := 5) rfl
  have k4_6 := K4.cell (i := 6) rfl
  have k4_7 := K4.cell (i := 7) rfl
  have k4_8 := K4.cell (i := 8) rfl
  have k5_0 := K5.cell (i := 0) rfl
  have k5_1 := K5.cell (i := 1) rfl
  have k5_2 := K5.cell (i := 2) rfl
  have k5_3 := K5.cell (i := 3) rfl
  have k5_4 := K5.cell (i := 4) rfl
  have k5_5 := K5.cell (i := 5) rfl
  have k5_6 := K5.cell (i := 6) rfl
  have k5_7 := K5.cell (i := 7) rfl
  have k5_8 := K5.cell (i := 8) rfl
  have k5_9 := K5.cell (i := 9) rfl
  have k7_0 := K7.cell (i := 0) rfl
  have k7_1 := K7.cell (i := 1) rfl
  have k7_2 := K7.cell (i := 2) rfl
  have k7_3 := K7.cell (i := 3) rfl
  have k7_4 := K7.cell (i := 4) rfl
  have k7_5 := K7.cell (i := 5) rfl
  have k7_6 := K7.cell (i := 6) rfl
  have k7_7 := K7.cell (i := 7) rfl
  have k7_8 := K7.cell (i := 8) rfl
  go_wp2_with (fail)
  generalize (w12.alloc (.cells #[.int .i64 1000, .int .i64 1000, .int .i64 900, .int .i64 100, .int .i64 7, .slice (some ⟨b7, 0, none⟩) 1 1, .int .i64 850, .int .i64 50, .int .i64 800] 34)) = w13 at *
  with_reducible refine c11.mono ?_
  rintro e w14 ⟨rfl, rfl⟩
  clear c11
  have R13 := Below.refl w13.heap.size w13
  have d12 := c12 _ R13
  go_wp2_with (fail)
  with_reducible refine d12.mono ?_
  rintro e w15 ⟨rfl, hb⟩
  clear k3_0 k4_0 k7_0 k3_1 k4_1 k7_1 k3_2 k4_2 k7_2 k3_3 k4_3 k7_3 k3_4 k4_4 k7_4 k3_5 k4_5 k7_5 k3_6 k4_6 k7_6 k3_7 k4_7 k7_7 k3_8 k4_8 k7_8 k5_0 k5_1 k5_2 k5_3 k5_4 k5_5 k5_6 k5_7 k5_8 k5_9
  replace B := below_step B hb B.size
  have R15 := below_step R13 hb R13.size
  replace K3 := K3.below hb
  replace K4 := K4.below hb
  replace K5 := K5.below hb
  replace K7 := K7.below hb
  replace x60 := cell_later hb x60
  have d13 := c13 _ R15
  clear d12 hb c12
  have k3_0 := K3.cell (i := 0) rfl
  have k3_1 := K3.cell (i := 1) rfl
  have k3_2 := K3.cell (i := 2) rfl
  have k3_3 := K3.cell (i := 3) rfl
  have k3_4 := K3.cell (i := 4) rfl
  have k3_5 := K3.cell (i := 5) rfl
  have k3_6 := K3.cell (i := 6) rfl
  have k3_7 := K3.cell (i := 7) rfl
  have k3_8 := K3.cell (i := 8) rfl
  have k4_0 := K4.cell (i := 0) rfl
  have k4_1 := K4.cell (i := 1) rfl
  have k4_2 := K4.cell (i := 2) rfl
  have k4_3 := K4.cell (i := 3) rfl
  have k4_4 := K4.cell (i := 4) rfl
  have k4_5 := K4.cell (i := 5) rfl
  have k4_6 := K4.cell (i := 6) rfl
  have k4_7 := K4.cell (i := 7) rfl
  have k4_8 := K4.cell (i := 8) rfl
  have k5_0 := K5.cell (i := 0) rfl
  have k5_1 := K5.cell (i := 1) rfl
  have k5_2 := K5.cell (i := 2) rfl
  have k5_3 := K5.cell (i := 3) rfl
  have k5_4 := K5.cell (i := 4) rfl
  have k5_5 := K5.cell (i := 5) rfl
  have k5_6 := K5.cell (i := 6) rfl
  have k5_7 := K5.cell (i := 7) rfl
  have k5_8 := K5.cell (i := 8) rfl
  have k5_9 := K5.cell (i := 9) rfl
  have k7_0 := K7.cell (i := 0) rfl
  have k7_1 := K7.cell (i := 1) rfl
  have k7_2 := K7.cell (i := 2) rfl
  have k7_3 := K7.cell (i := 3) rfl
  have k7_4 := K7.cell (i := 4) rfl
  have k7_5 := K7.cell (i := 5) rfl
  have k7_6 := K7.cell (i := 6) rfl
  have k7_7 := K7.cell (i := 7) rfl
  have k7_8 := K7.cell (i := 8) rfl
  go_wp2_with (fail)
  with_reducible refine d13.mono ?_
  rintro e w16 ⟨rfl, hb⟩
  clear k3_0 k4_0 k7_0 k3_1 k4_1 k7_1 k3_2 k4_2 k7_2 k3_3 k4_3 k7_3 k3_4 k4_4 k7_4 k3_5 k4_5 k7_5 k3_6 k4_6 k7_6 k3_7 k4_7 k7_7 k3_8 k4_8 k7_8 k5_0 k5_1 k5_2 k5_3 k5_4 k5_5 k5_6 k5_7 k5_8 k5_9
  replace B := below_step B hb B.size
  have R16 := below_step R15 hb R15.size
  replace K3 := K3.below hb
  replace K4 := K4.below hb
  replace K5 := K5.below hb
  replace K7 := K7.below hb
  replace x60 := cell_later hb x60
  have d14 := c14 _ R16
  clear d13 hb c13 R15 R13
  have k3_0 := K3.cell (i := 0) rfl
  have k3_1 := K3.cell (i := 1) rfl
  have k3_2 := K3.cell (i := 2) rfl
  have k3_3 := K3.cell (i := 3) rfl
  have k3_4 := K3.cell (i := 4) rfl
  have k3_5 := K3.cell (i := 5) rfl
  have k3_6 := K3.cell (i := 6) rfl
  have k3_7 := K3.cell (i := 7) rfl
  have k3_8 := K3.cell (i := 8) rfl
  have k4_0 := K4.cell (i := 0) rfl
  have k4_1 := K4.cell (i := 1) rfl
  have k4_2 := K4.cell (i := 2) rfl
  have k4_3 := K4.cell (i := 3) rfl
  have k4_4 := K4.cell (i := 4) rfl
  have k4_5 := K4.cell (i := 5) rfl
  have k4_6 := K4.cell (i := 6) rfl
  have k4_7 := K4.cell (i := 7) rfl
  have k4_8 := K4.cell (i := 8) rfl
  have k5_0 := K5.cell (i := 0) rfl
  have k5_1 := K5.cell (i := 1) rfl
  have k5_2 := K5.cell (i := 2) rfl
  have k5_3 := K5.cell (i := 3) rfl
  have k5_4 := K5.cell (i := 4) rfl
  have k5_5 := K5.cell (i := 5) rfl
  have k5_6 := K5.cell (i := 6) rfl
  have k5_7 := K5.cell (i := 7) rfl
  have k5_8 := K5.cell (i := 8) rfl
  have k5_9 := K5.cell (i := 9) rfl
  have k7_0 := K7.cell (i := 0) rfl
  have k7_1 := K7.cell (i := 1) rfl
  have k7_2 := K7.cell (i := 2) rfl
  have k7_3 := K7.cell (i := 3) rfl
  have k7_4 := K7.cell (i := 4) rfl
  have k7_5 := K7.cell (i := 5) rfl
  have k7_6 := K7.cell (i := 6) rfl
  have k7_7 := K7.cell (i := 7) rfl
  have k7_8 := K7.cell (i := 8) rfl
  go_wp2_with (fail)
  with_reducible refine d14.mono ?_
  rintro e w17 ⟨v, rfl, HC, hb⟩
  clear k3_0 k4_0 k7_0 k3_1 k4_1 k7_1 k3_2 k4_2 k7_2 k3_3 k4_3 k7_3 k3_4 k4_4 k7_4 k3_5 k4_5 k7_5 k3_6 k4_6 k7_6 k3_7 k4_7 k7_7 k3_8 k4_8 k7_8 k5_0 k5_1 k5_2 k5_3 k5_4 k5_5 k5_6 k5_7 k5_8 k5_9
  replace B := below_step B hb B.size
  obtain ⟨f9, ho, _⟩ := HC
  obtain ⟨A9, c9, rfl, -, -⟩ := own_len ho
  clear ho d14 hb c14 R16 K3 K4 K5 K7 x60
  go_wp2
  go_ret
  exact ⟨rfl, B⟩
end Go.Proofs.Ytfnjhalpedccaaa
