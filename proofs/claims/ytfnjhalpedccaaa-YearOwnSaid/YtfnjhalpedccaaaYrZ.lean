/- What the law's own sum answers: totals with a payslip more. -/
import Derived.Test.YtfnjhalpedccaaaYrY
import Derived.Test.YtfnjhalpedccaaaYrW
import Derived.Test.YtfnjhalpedccaaaStA
import Derived.BigRegion
import Derived.Deep.CutRange
import Derived.BigQuiet
namespace Go.Proofs.Ytfnjhalpedccaaa
open Go.RowKit Go.Sort
set_option linter.unusedVariables false
set_option linter.unusedSimpArgs false

theorem sh2_succ (X Y : Nat → Int) (i : Nat) : sh2 X Y (i + 1) = sh2 X Y i ++ [.int .i64 (X i), .int .i64 (Y i)] := by
  unfold sh2
  rw [List.range_succ, List.map_append, shc_app]
  rfl
theorem pstB_succ (X Y U V : Nat → Int) (n : Nat) : pstB X Y U V (n + 1) = (pstB X Y U V n && (amtB (X n + U n) && amtB (Y n + V n))) := by
  unfold pstB
  rw [List.range_succ]
  simp
/-- what sum leaves -/
def SumP (t : Tot) (A0 : Option Addr) (c0 : Nat) (s : Slp) (n : Nat) (w : World) (e : Ending) (w' : World) : Prop :=
  ((t.add s).rB n = true → ∃ A c, e = .returned (.tuple #[.agg #[.int .i64 (t.add s).ca, .int .i64 (t.add s).tb, .int .i64 (t.add s).so, .int .i64 (t.add s).tx, .int .i64 (t.add s).sf, .slice A n c, .int .i64 (t.add s).net, .int .i64 (t.add s).tk, .int .i64 (t.add s).pay], .int .i64 0]) ∧ w'.ownsRow w.heap.size 53 2 (.slice A n c) n (sh2 (t.add s).X (t.add s).Y n)) ∧
  ((t.add s).rB n = false → e = .returned (.tuple #[.agg #[.int .i64 t.ca, .int .i64 t.tb, .int .i64 t.so, .int .i64 t.tx, .int .i64 t.sf, .slice A0 n c0, .int .i64 t.net, .int .i64 t.tk, .int .i64 t.pay], .int .i64 10])) ∧ Below w.heap.size w w'
set_option maxRecDepth 100000 in
set_option maxHeartbeats 16000000 in
theorem lsum_raw (t : Tot) (A0 : Option Addr) (c0 : Nat) (k ca tb so tx sf : Int) (A : Option Addr) (n c : Nat) (net : Int) (T : Option Addr) (m d : Nat) (pay : Int) (X Y : Nat → Int) (f : Nat → Tkn) (w : World) (h0 : Shs w A0 n t.X t.Y) (hM : SlM w (⟨k, ca, tb, so, tx, sf, A, n, c, net, T, m, d, pay, X, Y, f⟩ : Slp)) (hs : ((⟨k, ca, tb, so, tx, sf, A, n, c, net, T, m, d, pay, X, Y, f⟩ : Slp)).OK n) (hn : n ≤ 64) (hm : m ≤ 100000) (ht : t.rB n = true) :
    Calls Try.prog 11 #[.agg #[.int .i64 t.ca, .int .i64 t.tb, .int .i64 t.so, .int .i64 t.tx, .int .i64 t.sf, .slice A0 n c0, .int .i64 t.net, .int .i64 t.tk, .int .i64 t.pay], .agg #[.int .i64 k, .int .i64 ca, .int .i64 tb, .int .i64 so, .int .i64 tx, .int .i64 sf, .slice A n c, .int .i64 net, .slice T m d, .int .i64 pay]] w (SumP t A0 c0 (⟨k, ca, tb, so, tx, sf, A, n, c, net, T, m, d, pay, X, Y, f⟩ : Slp) n w) := by
  have ha : (⟨k, ca, tb, so, tx, sf, A, n, c, net, T, m, d, pay, X, Y, f⟩ : Slp).amB = true := hs.am
  have ht1 := ht
  unfold Tot.rB at ht1
  simp only [Bool.and_eq_true] at ht1
  obtain ⟨hta, hts⟩ := ht1
  unfold Slp.amB at ha
  unfold Tot.amB at hta
  simp only [Bool.and_eq_true] at ha hta
  obtain ⟨⟨⟨a1, a2⟩, a3⟩, ⟨⟨a4, a5⟩, a6⟩, a7⟩ := ha
  obtain ⟨⟨⟨b1, b2⟩, b3⟩, ⟨⟨b4, b6⟩, b8⟩, b7⟩ := hta
  replace a1 := amtB_yes a1
  replace a2 := amtB_yes a2
  replace a3 := amtB_yes a3
  replace a4 := amtB_yes a4
  replace a6 := amtB_yes a6
  replace a7 := amtB_yes a7
  replace b1 := amtB_yes b1
  replace b2 := amtB_yes b2
  replace b3 := amtB_yes b3
  replace b4 := amtB_yes b4
  replace b6 := amtB_yes b6
  replace b7 := amtB_yes b7
  replace b8 := amtB_yes b8
  have v1 : wrap64 (t.ca + ca) = t.ca + ca := IntWalk.wrap64_in _ (by omega)
  have v2 : wrap64 (t.tb + tb) = t.tb + tb := IntWalk.wrap64_in _ (by omega)
  have v3 : wrap64 (t.so + so) = t.so + so := IntWalk.wrap64_in _ (by omega)
  have v4 : wrap64 (t.tx + tx) = t.tx + tx := IntWalk.wrap64_in _ (by omega)
  have v6 : wrap64 (t.net + net) = t.net + net := IntWalk.wrap64_in _ (by omega)
  have v7 : wrap64 (t.pay + pay) = t.pay + pay := IntWalk.wrap64_in _ (by omega)
  have Hb8 := Lib.hid b8
  have HO : Hid (okS f m = true) := Lib.hid hs.o
  have HT : Hid (okT X Y n = true) := Lib.hid hs.t
  have HQ := Lib.hid hts
  obtain ⟨i0, hi0, hz0, hz1, hz2⟩ := info_parts infoSh
  have Hi := Lib.hid hi0
  have Hz := Lib.hid hz0
  clear hi0 hz0 hts ht hs a1 a2 a3 a4 a5 a6 a7 b1 b2 b3 b4 b6 b7 b8
  have K0 := bx_new w [.int .i64 t.ca, .int .i64 t.tb, .int .i64 t.so, .int .i64 t.tx, .int .i64 t.sf, .slice A0 n c0, .int .i64 t.net, .int .i64 t.tk, .int .i64 t.pay] 34
  have N0 := below_new w (.cells #[.int .i64 t.ca, .int .i64 t.tb, .int .i64 t.so, .int .i64 t.tx, .int .i64 t.sf, .slice A0 n c0, .int .i64 t.net, .int .i64 t.tk, .int .i64 t.pay] 34)
  have K1 := bx_at (w.alloc (.cells #[.int .i64 t.ca, .int .i64 t.tb, .int .i64 t.so, .int .i64 t.tx, .int .i64 t.sf, .slice A0 n c0, .int .i64 t.net, .int .i64 t.tk, .int .i64 t.pay] 34)) [.int .i64 k, .int .i64 ca, .int .i64 tb, .int .i64 so, .int .i64 tx, .int .i64 sf, .slice A n c, .int .i64 net, .slice T m d, .int .i64 pay] 37 (n := w.heap.size + 1) (by simp)
  have N1 := below_new (w.alloc (.cells #[.int .i64 t.ca, .int .i64 t.tb, .int .i64 t.so, .int .i64 t.tx, .int .i64 t.sf, .slice A0 n c0, .int .i64 t.net, .int .i64 t.tk, .int .i64 t.pay] 34)) (.cells #[.int .i64 k, .int .i64 ca, .int .i64 tb, .int .i64 so, .int .i64 tx, .int .i64 sf, .slice A n c, .int .i64 net, .slice T m d, .int .i64 pay] 37)
  have K2 := bx_at ((w.alloc (.cells #[.int .i64 t.ca, .int .i64 t.tb, .int .i64 t.so, .int .i64 t.tx, .int .i64 t.sf, .slice A0 n c0, .int .i64 t.net, .int .i64 t.tk, .int .i64 t.pay] 34)).alloc (.cells #[.int .i64 k, .int .i64 ca, .int .i64 tb, .int .i64 so, .int .i64 tx, .int .i64 sf, .slice A n c, .int .i64 net, .slice T m d, .int .i64 pay] 37)) [.int .i64 0, .int .i64 0, .int .i64 0, .int .i64 0, .int .i64 0, .slice none 0 0, .int .i64 0, .int .i64 0, .int .i64 0] 34 (n := w.heap.size + 1 + 1) (by simp)
  have N2 := below_new ((w.alloc (.cells #[.int .i64 t.ca, .int .i64 t.tb, .int .i64 t.so, .int .i64 t.tx, .int .i64 t.sf, .slice A0 n c0, .int .i64 t.net, .int .i64 t.tk, .int .i64 t.pay] 34)).alloc (.cells #[.int .i64 k, .int .i64 ca, .int .i64 tb, .int .i64 so, .int .i64 tx, .int .i64 sf, .slice A n c, .int .i64 net, .slice T m d, .int .i64 pay] 37)) (.cells #[.int .i64 0, .int .i64 0, .int .i64 0, .int .i64 0, .int .i64 0, .slice none 0 0, .int .i64 0, .int .i64 0, .int .i64 0] 34)
  replace K0 := (K0.below N1).below N2
  replace K1 := K1.below N2
  have B := below_step (below_step N0 N1 N0.size) N2 (by have := N0.size; have := N1.size; omega)
  have H0 := Lib.hid h0
  have HSM : Hid (Shs w A n X Y) := Lib.hid hM.sh
  have HTM : Hid (Tks w T m f) := Lib.hid hM.tk
  clear N0 N1 N2 h0 hM
  go_enter Try.func11, Try.ntmps11
  have k0_0 := K0.cell (i := 0) rfl
  have k0_1 := K0.cell (i := 1) rfl
  have k0_2 := K0.cell (i := 2) rfl
  have k0_3 := K0.cell (i := 3) rfl
  have k0_4 := K0.cell (i := 4) rfl
  have k0_5 := K0.cell (i := 5) rfl
  have k0_6 := K0.cell (i := 6) rfl
  have k0_7 := K0.cell (i := 7) rfl
  have k0_8 := K0.cell (i := 8) rfl
  have k1_0 := K1.cell (i := 0) rfl
  have k1_1 := K1.cell (i := 1) rfl
  have k1_2 := K1.cell (i := 2) rfl
  have k1_3 := K1.cell (i := 3) rfl
  have k1_4 := K1.cell (i := 4) rfl
  have k1_5 := K1.cell (i := 5) rfl
  have k1_6 := K1.cell (i := 6) rfl
  have k1_7 := K1.cell (i := 7) rfl
  have k1_8 := K1.cell (i := 8) rfl
  have k1_9 := K1.cell (i := 9) rfl
  go_wp2
  clear k0_0 k0_1 k0_2 k0_3 k0_4 k0_5 k0_6 k0_7 k0_8
  clear k1_0 k1_1 k1_2 k1_3 k1_4 k1_5 k1_6 k1_7 k1_8 k1_9
  have N3 := below_new (((w.alloc (.cells #[.int .i64 t.ca, .int .i64 t.tb, .int .i64 t.so, .int .i64 t.tx, .int .i64 t.sf, .slice A0 n c0, .int .i64 t.net, .int .i64 t.tk, .int .i64 t.pay] 34)).alloc (.cells #[.int .i64 k, .int .i64 ca, .int .i64 tb, .int .i64 so, .int .i64 tx, .int .i64 sf, .slice A n c, .int .i64 net, .slice T m d, .int .i64 pay] 37)).alloc (.cells #[.int .i64 0, .int .i64 0, .int .i64 0, .int .i64 0, .int .i64 0, .slice none 0 0, .int .i64 0, .int .i64 0, .int .i64 0] 34)) (.cells #[.int .i64 (t.ca + ca), .int .i64 (t.tb + tb), .int .i64 (t.so + so), .int .i64 (t.tx + tx), .int .i64 sf, .slice none 0 0, .int .i64 (t.net + net), .int .i64 (t.tk), .int .i64 (t.pay + pay)] 34)
  have K3 := bx_at (((w.alloc (.cells #[.int .i64 t.ca, .int .i64 t.tb, .int .i64 t.so, .int .i64 t.tx, .int .i64 t.sf, .slice A0 n c0, .int .i64 t.net, .int .i64 t.tk, .int .i64 t.pay] 34)).alloc (.cells #[.int .i64 k, .int .i64 ca, .int .i64 tb, .int .i64 so, .int .i64 tx, .int .i64 sf, .slice A n c, .int .i64 net, .slice T m d, .int .i64 pay] 37)).alloc (.cells #[.int .i64 0, .int .i64 0, .int .i64 0, .int .i64 0, .int .i64 0, .slice none 0 0, .int .i64 0, .int .i64 0, .int .i64 0] 34)) [.int .i64 (t.ca + ca), .int .i64 (t.tb + tb), .int .i64 (t.so + so), .int .i64 (t.tx + tx), .int .i64 sf, .slice none 0 0, .int .i64 (t.net + net), .int .i64 (t.tk), .int .i64 (t.pay + pay)] 34 (n := w.heap.size + 1 + 1 + 1) (by simp)
  replace K0 := K0.below N3
  replace K1 := K1.below N3
  replace K2 := K2.below N3
  replace B := below_step B N3 B.size
  have hz4 : ((((w.alloc (.cells #[.int .i64 t.ca, .int .i64 t.tb, .int .i64 t.so, .int .i64 t.tx, .int .i64 t.sf, .slice A0 n c0, .int .i64 t.net, .int .i64 t.tk, .int .i64 t.pay] 34)).alloc (.cells #[.int .i64 k, .int .i64 ca, .int .i64 tb, .int .i64 so, .int .i64 tx, .int .i64 sf, .slice A n c, .int .i64 net, .slice T m d, .int .i64 pay] 37)).alloc (.cells #[.int .i64 0, .int .i64 0, .int .i64 0, .int .i64 0, .int .i64 0, .slice none 0 0, .int .i64 0, .int .i64 0, .int .i64 0] 34)).alloc (.cells #[.int .i64 (t.ca + ca), .int .i64 (t.tb + tb), .int .i64 (t.so + so), .int .i64 (t.tx + tx), .int .i64 sf, .slice none 0 0, .int .i64 (t.net + net), .int .i64 (t.tk), .int .i64 (t.pay + pay)] 34)).heap.size = w.heap.size + 1 + 1 + 1 + 1 := by simp
  clear N3
  generalize ((((w.alloc (.cells #[.int .i64 t.ca, .int .i64 t.tb, .int .i64 t.so, .int .i64 t.tx, .int .i64 t.sf, .slice A0 n c0, .int .i64 t.net, .int .i64 t.tk, .int .i64 t.pay] 34)).alloc (.cells #[.int .i64 k, .int .i64 ca, .int .i64 tb, .int .i64 so, .int .i64 tx, .int .i64 sf, .slice A n c, .int .i64 net, .slice T m d, .int .i64 pay] 37)).alloc (.cells #[.int .i64 0, .int .i64 0, .int .i64 0, .int .i64 0, .int .i64 0, .slice none 0 0, .int .i64 0, .int .i64 0, .int .i64 0] 34)).alloc (.cells #[.int .i64 (t.ca + ca), .int .i64 (t.tb + tb), .int .i64 (t.so + so), .int .i64 (t.tx + tx), .int .i64 sf, .slice none 0 0, .int .i64 (t.net + net), .int .i64 (t.tk), .int .i64 (t.pay + pay)] 34)) = w4 at *
  have l0 : w.heap.size < w.heap.size + 1 + 1 + 1 + 1 := by omega
  have l1 : w.heap.size + 1 < w.heap.size + 1 + 1 + 1 + 1 := by omega
  have l2 : w.heap.size + 1 + 1 < w.heap.size + 1 + 1 + 1 + 1 := by omega
  have l3 : w.heap.size + 1 + 1 + 1 < w.heap.size + 1 + 1 + 1 + 1 := by omega
  have d0 : w.heap.size + 1 + 1 + 1 ≠ w.heap.size := by omega
  have d1 : w.heap.size + 1 + 1 + 1 ≠ w.heap.size + 1 := by omega
  have d2 : w.heap.size + 1 + 1 + 1 ≠ w.heap.size + 1 + 1 := by omega
  have le3 : w.heap.size ≤ w.heap.size + 1 + 1 + 1 := by omega
  have HL := Lib.hid (And.intro l0 (And.intro l1 (And.intro l2 l3)))
  have HD := Lib.hid (And.intro d0 (And.intro d1 (And.intro d2 le3)))
  clear l0 l1 l2 l3 d0 d1 d2 le3
  go_loopw [58] (fun z W => ∃ i : Nat, i ≤ m ∧ z = .int .i64 i ∧ Bx W (w.heap.size) 34 [.int .i64 t.ca, .int .i64 t.tb, .int .i64 t.so, .int .i64 t.tx, .int .i64 t.sf, .slice A0 n c0, .int .i64 t.net, .int .i64 t.tk, .int .i64 t.pay] ∧ Bx W (w.heap.size + 1) 37 [.int .i64 k, .int .i64 ca, .int .i64 tb, .int .i64 so, .int .i64 tx, .int .i64 sf, .slice A n c, .int .i64 net, .slice T m d, .int .i64 pay] ∧ Bx W (w.heap.size + 1 + 1) 34 [.int .i64 0, .int .i64 0, .int .i64 0, .int .i64 0, .int .i64 0, .slice none 0 0, .int .i64 0, .int .i64 0, .int .i64 0] ∧ Bx W (w.heap.size + 1 + 1 + 1) 34 [.int .i64 (t.ca + ca), .int .i64 (t.tb + tb), .int .i64 (t.so + so), .int .i64 (t.tx + tx), .int .i64 sf, .slice none 0 0, .int .i64 (t.net + net), .int .i64 (t.tk + sumT f i), .int .i64 (t.pay + pay)] ∧ Below w.heap.size w W) (fun z _ => m - (intOf z).toNat)
  case atStart => exact ⟨0, Nat.zero_le _, rfl, K0, K1, K2, by simpa [sumT] using K3, B⟩
  case round =>
    clear K0 K1 K2 K3 B hz4
    obtain ⟨i, hi, rfl, K0, K1, K2, K3, B⟩ := hrel
    by_cases hlt : i < m
    · have hm0 : 0 < m := by omega
      obtain ⟨bt, ot, hT0, hc⟩ := HTM.out hm0
      obtain rfl : T = some ⟨bt, ot, none⟩ := hT0
      obtain ⟨c0', c1', c2', c3', c4', c5'⟩ := (hc i hlt).below B
      have hil : (i : Int) < (m : Int) := by omega
      have hoi := okS_at hlt HO.out
      have ho0 := okS_amt (okS_mono (k := i) (by omega) HO.out)
      have d1 := amtB_yes hoi.1
      have d2 := amtB_yes ho0
      have d3 := Hb8.out
      have v8 : wrap64 (t.tk + sumT f i + (f i).t) = t.tk + sumT f i + (f i).t := IntWalk.wrap64_in _ (by omega)
      have hP := K3.lt
      have K3' : Bx (wr.setCell ⟨w.heap.size + 1 + 1 + 1, 7, none⟩ (.int .i64 (t.tk + sumT f i + (f i).t))) (w.heap.size + 1 + 1 + 1) 34 [.int .i64 (t.ca + ca), .int .i64 (t.tb + tb), .int .i64 (t.so + so), .int .i64 (t.tx + tx), .int .i64 sf, .slice none 0 0, .int .i64 (t.net + net), .int .i64 (t.tk + sumT f (i + 1)), .int .i64 (t.pay + pay)] := by
        have := K3.set 7 (.int .i64 (t.tk + sumT f i + (f i).t))
        rw [show t.tk + sumT f (i + 1) = t.tk + sumT f i + (f i).t from (Int.add_assoc _ _ _).symm]
        exact this
      have N1 := below_new (wr.setCell ⟨w.heap.size + 1 + 1 + 1, 7, none⟩ (.int .i64 (t.tk + sumT f i + (f i).t))) (.cells #[.int .i64 (f i).o, .int .i64 (f i).b, .int .i64 (f i).r, .int .i64 (f i).d, .int .i64 (f i).t, .int .i64 (f i).c] 58)
      have N1' := below_new wr (.cells #[.int .i64 (f i).o, .int .i64 (f i).b, .int .i64 (f i).r, .int .i64 (f i).d, .int .i64 (f i).t, .int .i64 (f i).c] 58)
      have KX := bx_new wr [.int .i64 (f i).o, .int .i64 (f i).b, .int .i64 (f i).r, .int .i64 (f i).d, .int .i64 (f i).t, .int .i64 (f i).c] 58
      have x4 := KX.cell (i := 4) rfl
      have y7 := (K3.below N1').cell (i := 7) rfl
      have yf := (K3.below N1').fr 7
      have y7' := K3.cell (i := 7) rfl
      have yf' := K3.fr 7
      replace K0 := (K0.other (q := w.heap.size + 1 + 1 + 1) (by omega) 7 (.int .i64 (t.tk + sumT f i + (f i).t))).below N1
      replace K1 := (K1.other (q := w.heap.size + 1 + 1 + 1) (by omega) 7 (.int .i64 (t.tk + sumT f i + (f i).t))).below N1
      replace K2 := (K2.other (q := w.heap.size + 1 + 1 + 1) (by omega) 7 (.int .i64 (t.tk + sumT f i + (f i).t))).below N1
      replace K3' := K3'.below N1
      have B1 := B.setCell (p := ⟨w.heap.size + 1 + 1 + 1, 7, none⟩) (by show w.heap.size ≤ w.heap.size + 1 + 1 + 1; omega) (.int .i64 (t.tk + sumT f i + (f i).t))
      have B2 := below_step B1 N1 B1.size
      clear hc hoi ho0 d1 d2 d3 K3 KX N1 N1' B B1
      go_wp2
      refine ⟨⟨i + 1, by omega, by go_num, K0, K1, K2, K3', B2⟩, ?_⟩
      simp [intOf]; omega
    · obtain rfl : m = i := by omega
      have hnl : ¬ (m : Int) < (m : Int) := by omega
      have cR := fun r hr => lr7 (t.ca + ca) (t.tb + tb) (t.so + so) (t.tx + tx) (t.net + net) (t.tk + sumT f m) (t.pay + pay) wr 2 r hr wr.heap.size rfl
      have N1 := below_new wr (.cells #[.int .i64 (t.ca + ca), .int .i64 (t.tb + tb), .int .i64 (t.so + so), .int .i64 (t.tx + tx), .int .i64 (t.net + net), .int .i64 (t.tk + sumT f m), .int .i64 (t.pay + pay)] 2)
      have cR1 := cR _ rfl
      clear cR
      generalize hgA : ((amtB (t.ca + ca) && amtB (t.tb + tb) && amtB (t.so + so)) && (amtB (t.tx + tx) && amtB (t.net + net) && amtB (t.tk + sumT f m) && amtB (t.pay + pay))) = gA at *
      have HGA : Hid (((amtB (t.ca + ca) && amtB (t.tb + tb) && amtB (t.so + so)) && (amtB (t.tx + tx) && amtB (t.net + net) && amtB (t.tk + sumT f m) && amtB (t.pay + pay))) = gA) := Lib.hid hgA
      clear hgA hi hlt
      have k3_0 := K3.cell (i := 0) rfl
      have k3_1 := K3.cell (i := 1) rfl
      have k3_2 := K3.cell (i := 2) rfl
      have k3_3 := K3.cell (i := 3) rfl
      have k3_4 := K3.cell (i := 4) rfl
      have k3_5 := K3.cell (i := 5) rfl
      have k3_6 := K3.cell (i := 6) rfl
      have k3_7 := K3.cell (i := 7) rfl
      have k3_8 := K3.cell (i := 8) rfl
      go_wp2_with (fail)
      with_reducible refine cR1.mono ?_
      rintro e w5 ⟨rfl, rfl⟩
      clear k3_0 k3_1 k3_2 k3_3 k3_4 k3_5 k3_6 k3_7 k3_8
      replace K0 := K0.below N1
      replace K1 := K1.below N1
      replace K2 := K2.below N1
      replace K3 := K3.below N1
      replace B := below_step B N1 B.size
      clear cR1 N1
      generalize (wr.alloc (.cells #[.int .i64 (t.ca + ca), .int .i64 (t.tb + tb), .int .i64 (t.so + so), .int .i64 (t.tx + tx), .int .i64 (t.net + net), .int .i64 (t.tk + sumT f m), .int .i64 (t.pay + pay)] 2)) = w6 at *
      have k1_0 := K1.cell (i := 0) rfl
      have k1_1 := K1.cell (i := 1) rfl
      have k1_2 := K1.cell (i := 2) rfl
      have k1_3 := K1.cell (i := 3) rfl
      have k1_4 := K1.cell (i := 4) rfl
      have k1_5 := K1.cell (i := 5) rfl
      have k1_6 := K1.cell (i := 6) rfl
      have k1_7 := K1.cell (i := 7) rfl
      have k1_8 := K1.cell (i := 8) rfl
      have k1_9 := K1.cell (i := 9) rfl
      go_wp2
      clear k1_0 k1_1 k1_2 k1_3 k1_4 k1_5 k1_6 k1_7 k1_8 k1_9
      go_loopw [9, 91] (fun gd q W => ∃ i : Nat, i ≤ n ∧ q = .int .i64 i ∧ (∃ gb, gd = .bool gb ∧ Hid (gb = (gA && pstB t.X t.Y X Y i))) ∧ Bx W (w.heap.size) 34 [.int .i64 t.ca, .int .i64 t.tb, .int .i64 t.so, .int .i64 t.tx, .int .i64 t.sf, .slice A0 n c0, .int .i64 t.net, .int .i64 t.tk, .int .i64 t.pay] ∧ Bx W (w.heap.size + 1) 37 [.int .i64 k, .int .i64 ca, .int .i64 tb, .int .i64 so, .int .i64 tx, .int .i64 sf, .slice A n c, .int .i64 net, .slice T m d, .int .i64 pay] ∧ Bx W (w.heap.size + 1 + 1) 34 [.int .i64 0, .int .i64 0, .int .i64 0, .int .i64 0, .int .i64 0, .slice none 0 0, .int .i64 0, .int .i64 0, .int .i64 0] ∧ (∃ A' c', Bx W (w.heap.size + 1 + 1 + 1) 34 [.int .i64 (t.ca + ca), .int .i64 (t.tb + tb), .int .i64 (t.so + so), .int .i64 (t.tx + tx), .int .i64 sf, .slice A' i c', .int .i64 (t.net + net), .int .i64 (t.tk + sumT f m), .int .i64 (t.pay + pay)] ∧ W.ownsRow (w.heap.size + 1 + 1 + 1 + 1) 53 2 (.slice A' i c') i (sh2 (fun j => t.X j + X j) (fun j => t.Y j + Y j) i)) ∧ Below w.heap.size w W) (fun _ q _ => n - (intOf q).toNat)
      case atStart => exact ⟨0, Nat.zero_le _, rfl, ⟨gA, rfl, Lib.hid (by simp [pstB])⟩, K0, K1, K2, ⟨none, 0, K3, World.ownsRow_nil _ _ _ _⟩, B⟩
      case round =>
        clear K0 K1 K2 K3 B
        obtain ⟨i, hi, rfl, ⟨gb, rfl, HGB⟩, K0, K1, K2, ⟨A', c', K3, hO⟩, B⟩ := hrel
        by_cases hlt : i < n
        · have hn0 : 0 < n := by omega
          obtain ⟨bs, os, hA0, hc⟩ := HSM.out hn0
          obtain rfl : A = some ⟨bs, os, none⟩ := hA0
          obtain ⟨bt, ot, hA1, hd⟩ := H0.out hn0
          obtain rfl : A0 = some ⟨bt, ot, none⟩ := hA1
          obtain ⟨x0, x1⟩ := hc i hlt
          obtain ⟨y0, y1⟩ := hd i hlt
          replace x0 := cell_later B x0
          replace x1 := cell_later B x1
          replace y0 := cell_later B y0
          replace y1 := cell_later B y1
          have hil : (i : Int) < (n : Int) := by omega
          have a1 := shB_at HQ.out hlt
          have a2 := ok_sh HT.out i hlt
          simp only [Bool.and_eq_true] at a2
          have a3 := amtB_yes a1.1
          have a4 := amtB_yes a1.2
          have a5 := amtB_yes a2.1
          have a6 := amtB_yes a2.2
          have u1 : wrap64 (t.X i + X i) = t.X i + X i := IntWalk.wrap64_in _ (by omega)
          have u2 : wrap64 (t.Y i + Y i) = t.Y i + Y i := IntWalk.wrap64_in _ (by omega)
          have HSB := Lib.hid (pstB_succ t.X t.Y X Y i)
          have HLL := Lib.hid (sh2_succ (fun j => t.X j + X j) (fun j => t.Y j + Y j) i)
          have HOO := Lib.hid hO
          have N1 := below_new wr (.cells #[.int .i64 (X i), .int .i64 (Y i)] 53)
          have KX := bx_new wr [.int .i64 (X i), .int .i64 (Y i)] 53
          have hP := K3.lt
          replace K0 := K0.below N1
          replace K1 := K1.below N1
          replace K2 := K2.below N1
          replace K3 := K3.below N1
          replace B := below_step B N1 B.size
          replace HOO := Lib.hid (own_below HOO.out N1)
          have x0' := cell_later N1 x0
          have x1' := cell_later N1 x1
          have y0' := cell_later N1 y0
          have y1' := cell_later N1 y1
          clear hc hd hO a1 a2 a3 a4 a5 a6 N1
          generalize pstB t.X t.Y X Y i = sb at *
          have z0 := KX.cell (i := 0) rfl
          have z1 := KX.cell (i := 1) rfl
          have q5 := K0.cell (i := 5) rfl
          generalize t.X i = p0 at *
          generalize t.Y i = p1 at *
          generalize X i = p2 at *
          generalize Y i = p3 at *
          go_wp2
          generalize (wr.alloc (.cells #[.int .i64 p2, .int .i64 p3] 53)) = w7 at *
          have hO7 := K3.lt
          have N8 := below_new w7 (.cells #[.int .i64 0, .int .i64 0] 53)
          have z0n := cell_later N8 z0
          have z1n := cell_later N8 z1
          have q5n := cell_later N8 q5
          have y0n := cell_later N8 y0'
          have y1n := cell_later N8 y1'
          generalize wr.heap.size = qx at *
          go_cut [12, 91] from 91 to 130 (fun s12 s91 wx => s12 = .pointer (some ⟨w7.heap.size, 0, none⟩) ∧ s91 = .int .i64 i ∧ wx = (w7.alloc (.cells #[.int .i64 (p0 + p2), .int .i64 (p1 + p3)] 53)).drew)
          case first =>
            as_aux_lemma =>
              go_region
              go_wp2_with fail
              go_meet
              case rel => exact ⟨rfl, rfl, rfl⟩
          case rest =>
          obtain ⟨rfl, rfl, rfl⟩ := hcut
          have N9 : Below w7.heap.size w7 (w7.alloc (.cells #[.int .i64 (p0 + p2), .int .i64 (p1 + p3)] 53)).drew := (below_new w7 _).drew
          have KY : Bx (w7.alloc (.cells #[.int .i64 (p0 + p2), .int .i64 (p1 + p3)] 53)).drew w7.heap.size 53 [.int .i64 (p0 + p2), .int .i64 (p1 + p3)] := bx_new w7 [.int .i64 (p0 + p2), .int .i64 (p1 + p3)] 53
          replace K0 := K0.below N9
          replace K1 := K1.below N9
          replace K2 := K2.below N9
          have K3' := K3
          replace K3 := K3.below N9
          replace B := below_step B N9 B.size
          have HO9 := Lib.hid (own_below HOO.out N9)
          have hy9 : ¬ w7.heap.size < w7.heap.size := Nat.lt_irrefl _
          have HY9 : Hid (∀ q, (Value.slice A' i c').ownBlock = some q → q < w7.heap.size) := Lib.hid fun q e => (HOO.out.lt q e).2
          have hyp : w.heap.size + 1 + 1 + 1 ≠ w7.heap.size := Nat.ne_of_lt K3'.lt
          clear N8 N9 HOO z0 z1 q5 x0 x1 y0 y1 x0' x1' y0' y1' z0n z1n q5n y0n y1n KX
          generalize (w7.alloc (.cells #[.int .i64 (p0 + p2), .int .i64 (p1 + p3)] 53)).drew = w9 at *
          generalize w7.heap.size = qy at *
          have k5 := K3.cell (i := 5) rfl
          have k5f := K3.fr 5
          have m0 := KY.cell (i := 0) rfl
          have m1 := KY.cell (i := 1) rfl
          have hcA := bx_add (bx_new w9 [.int .i64 (p0 + p2), .int .i64 (p1 + p3)] 53)
          have hc2 : ∀ v_1 ∈ ([.int .i64 (p0 + p2), .int .i64 (p1 + p3)] : List Value), v_1.oneCell' = true := by simp [Value.oneCell']
          have hc3 : i + 1 ≤ maxLen := Nat.le_trans (Nat.succ_le_of_lt hlt) (Nat.le_trans hn (by decide))
          have hc4 : (i + 1) * 16 ≤ 140737488355328 := Nat.le_trans (Nat.mul_le_mul_right 16 (Nat.le_trans (Nat.succ_le_of_lt hlt) hn)) (by decide)
          have hc5 : w.heap.size + 1 + 1 + 1 + 1 ≤ (w9.alloc (.cells #[.int .i64 (p0 + p2), .int .i64 (p1 + p3)] 53)).heap.size := Nat.le_trans K3.lt (below_new w9 _).size
          have hc5' : w.heap.size ≤ (w9.alloc (.cells #[.int .i64 (p0 + p2), .int .i64 (p1 + p3)] 53)).heap.size := Nat.le_trans B.size (below_new w9 _).size
          cases gb
          · have HSN : Hid (false = (gA && pstB t.X t.Y X Y (i + 1))) := Lib.hid (by rw [HSB.out]; have := HGB.out; revert this; cases gA <;> cases sb <;> simp)
            go_wp2_with (at_builtin; first
              | (refine wpList_append_own_at _ rfl _ _ 32 rfl (w.heap.size + 1 + 1 + 1 + 1) 53 i0 (.agg #[.int .i64 0, .int .i64 0]) 2 16 Try.underlying32 Hi.out Hz.out hz1 hz2 rfl (by decide) _ _ _ rfl (HO9.out.alloc _) ⟨w9.heap.size, 0, none⟩ 1 1 [.int .i64 (p0 + p2), .int .i64 (p1 + p3)] rfl rfl hcA hc2 hc3 hc4 hc5 ?_
                 intro va wa hown hg _ hob
                 obtain ⟨A2, c2, rfl, _, _⟩ := own_len hown
                 have OA : wa.ownsRow (w.heap.size + 1 + 1 + 1 + 1) 53 2 (.slice A2 (i + 1) c2) (i + 1) (sh2 (fun j => t.X j + X j) (fun j => t.Y j + Y j) (i + 1)) := Eq.mpr (by rw [HLL.out]) hown
                 have hne : ∀ q, q < w.heap.size + 1 + 1 + 1 + 1 → (Value.slice A' i c').ownBlock ≠ some q := fun q hq e => absurd (HO9.out.lt q e).1 (Nat.not_le_of_lt hq)
                 have M0 := (K0.alloc (.cells #[.int .i64 (p0 + p2), .int .i64 (p1 + p3)] 53)).of_block (hg.block _ (K0.alloc _).lt (fun e => hne _ (HL.out.1) e.symm))
                 have M1 := (K1.alloc (.cells #[.int .i64 (p0 + p2), .int .i64 (p1 + p3)] 53)).of_block (hg.block _ (K1.alloc _).lt (fun e => hne _ (HL.out.2.1) e.symm))
                 have M2 := (K2.alloc (.cells #[.int .i64 (p0 + p2), .int .i64 (p1 + p3)] 53)).of_block (hg.block _ (K2.alloc _).lt (fun e => hne _ (HL.out.2.2.1) e.symm))
                 have M3 := (K3.alloc (.cells #[.int .i64 (p0 + p2), .int .i64 (p1 + p3)] 53)).of_block (hg.block _ (K3.alloc _).lt (fun e => hne _ (HL.out.2.2.2) e.symm))
                 have MY := (KY.alloc (.cells #[.int .i64 (p0 + p2), .int .i64 (p1 + p3)] 53)).of_block (hg.block _ (KY.alloc _).lt (fun e => absurd (HY9.out _ e.symm) hy9))
                 have Ba := (B.alloc B.size (Obj.cells #[.int .i64 (p0 + p2), .int .i64 (p1 + p3)] 53)).grown hg hc5' (fun k hk => Nat.le_trans (Nat.le_of_lt HL.out.1) (HO9.out.lt k hk).1)
                 clear hown hg hob hne K0 K1 K2 K3 KY B k5 k5f m0 m1 hcA hc2 hc3 hc4 hc5 hc5'
                 have k5 := M3.cell (i := 5) rfl
                 have k5f := M3.fr 5
                 have L0 := M0.other (q := w.heap.size + 1 + 1 + 1) (HD.out.1) 5 (.slice A2 (i + 1) c2)
                 have L1 := M1.other (q := w.heap.size + 1 + 1 + 1) (HD.out.2.1) 5 (.slice A2 (i + 1) c2)
                 have L2 := M2.other (q := w.heap.size + 1 + 1 + 1) (HD.out.2.2.1) 5 (.slice A2 (i + 1) c2)
                 have L3 := M3.set 5 (.slice A2 (i + 1) c2)
                 have LY := MY.other (q := w.heap.size + 1 + 1 + 1) hyp 5 (.slice A2 (i + 1) c2)
                 have m0 := LY.cell (i := 0) rfl
                 have m1 := LY.cell (i := 1) rfl
                 have OB := own_other OA (p := w.heap.size + 1 + 1 + 1) HL.out.2.2.2 5 (.slice A2 (i + 1) c2)
                 have Bb := Ba.setCell (p := ⟨w.heap.size + 1 + 1 + 1, 5, none⟩) HD.out.2.2.2 (.slice A2 (i + 1) c2)
                 clear M0 M1 M2 M3 MY OA Ba))
            refine ⟨⟨i + 1, by omega, by go_num, ⟨false, rfl, HSN⟩, L0, L1, L2, ⟨A2, c2, L3, OB⟩, Bb⟩, ?_⟩
            simp [intOf]; omega
          · have HSN : Hid ((amtB (p0 + p2) && amtB (p1 + p3)) = (gA && pstB t.X t.Y X Y (i + 1))) := Lib.hid (by rw [HSB.out]; have := HGB.out; revert this; cases gA <;> cases sb <;> simp)
            go_wp2_with (at_builtin; first
              | (refine wpList_append_own_at _ rfl _ _ 32 rfl (w.heap.size + 1 + 1 + 1 + 1) 53 i0 (.agg #[.int .i64 0, .int .i64 0]) 2 16 Try.underlying32 Hi.out Hz.out hz1 hz2 rfl (by decide) _ _ _ rfl (HO9.out.alloc _) ⟨w9.heap.size, 0, none⟩ 1 1 [.int .i64 (p0 + p2), .int .i64 (p1 + p3)] rfl rfl hcA hc2 hc3 hc4 hc5 ?_
                 intro va wa hown hg _ hob
                 obtain ⟨A2, c2, rfl, _, _⟩ := own_len hown
                 have OA : wa.ownsRow (w.heap.size + 1 + 1 + 1 + 1) 53 2 (.slice A2 (i + 1) c2) (i + 1) (sh2 (fun j => t.X j + X j) (fun j => t.Y j + Y j) (i + 1)) := Eq.mpr (by rw [HLL.out]) hown
                 have hne : ∀ q, q < w.heap.size + 1 + 1 + 1 + 1 → (Value.slice A' i c').ownBlock ≠ some q := fun q hq e => absurd (HO9.out.lt q e).1 (Nat.not_le_of_lt hq)
                 have M0 := (K0.alloc (.cells #[.int .i64 (p0 + p2), .int .i64 (p1 + p3)] 53)).of_block (hg.block _ (K0.alloc _).lt (fun e => hne _ (HL.out.1) e.symm))
                 have M1 := (K1.alloc (.cells #[.int .i64 (p0 + p2), .int .i64 (p1 + p3)] 53)).of_block (hg.block _ (K1.alloc _).lt (fun e => hne _ (HL.out.2.1) e.symm))
                 have M2 := (K2.alloc (.cells #[.int .i64 (p0 + p2), .int .i64 (p1 + p3)] 53)).of_block (hg.block _ (K2.alloc _).lt (fun e => hne _ (HL.out.2.2.1) e.symm))
                 have M3 := (K3.alloc (.cells #[.int .i64 (p0 + p2), .int .i64 (p1 + p3)] 53)).of_block (hg.block _ (K3.alloc _).lt (fun e => hne _ (HL.out.2.2.2) e.symm))
                 have MY := (KY.alloc (.cells #[.int .i64 (p0 + p2), .int .i64 (p1 + p3)] 53)).of_block (hg.block _ (KY.alloc _).lt (fun e => absurd (HY9.out _ e.symm) hy9))
                 have Ba := (B.alloc B.size (Obj.cells #[.int .i64 (p0 + p2), .int .i64 (p1 + p3)] 53)).grown hg hc5' (fun k hk => Nat.le_trans (Nat.le_of_lt HL.out.1) (HO9.out.lt k hk).1)
                 clear hown hg hob hne K0 K1 K2 K3 KY B k5 k5f m0 m1 hcA hc2 hc3 hc4 hc5 hc5'
                 have k5 := M3.cell (i := 5) rfl
                 have k5f := M3.fr 5
                 have L0 := M0.other (q := w.heap.size + 1 + 1 + 1) (HD.out.1) 5 (.slice A2 (i + 1) c2)
                 have L1 := M1.other (q := w.heap.size + 1 + 1 + 1) (HD.out.2.1) 5 (.slice A2 (i + 1) c2)
                 have L2 := M2.other (q := w.heap.size + 1 + 1 + 1) (HD.out.2.2.1) 5 (.slice A2 (i + 1) c2)
                 have L3 := M3.set 5 (.slice A2 (i + 1) c2)
                 have LY := MY.other (q := w.heap.size + 1 + 1 + 1) hyp 5 (.slice A2 (i + 1) c2)
                 have m0 := LY.cell (i := 0) rfl
                 have m1 := LY.cell (i := 1) rfl
                 have OB := own_other OA (p := w.heap.size + 1 + 1 + 1) HL.out.2.2.2 5 (.slice A2 (i + 1) c2)
                 have Bb := Ba.setCell (p := ⟨w.heap.size + 1 + 1 + 1, 5, none⟩) HD.out.2.2.2 (.slice A2 (i + 1) c2)
                 clear M0 M1 M2 M3 MY OA Ba))
            have cR := lr2 (p0 + p2) (p1 + p3) (wa.setCell ⟨w.heap.size + 1 + 1 + 1, 5, none⟩ (.slice A2 (i + 1) c2)) 2 _ rfl wa.heap.size (by simp [World.setCell])
            with_reducible refine cR.mono ?_
            rintro e w11 ⟨rfl, rfl⟩
            have NR := below_new (wa.setCell ⟨w.heap.size + 1 + 1 + 1, 5, none⟩ (.slice A2 (i + 1) c2)) (.cells #[.int .i64 (p0 + p2), .int .i64 (p1 + p3)] 2)
            replace L0 := L0.below NR
            replace L1 := L1.below NR
            replace L2 := L2.below NR
            replace L3 := L3.below NR
            have OC := own_below OB NR
            have Bc := below_step Bb NR Bb.size
            clear OB Bb NR cR
            go_wp2
            refine ⟨⟨i + 1, by omega, by go_num, ⟨_, rfl, HSN⟩, L0, L1, L2, ⟨A2, c2, L3, OC⟩, Bc⟩, ?_⟩
            simp [intOf]; omega
        · obtain rfl : n = i := by omega
          have hnl2 : ¬ (n : Int) < (n : Int) := by omega
          have hR : Hid ((t.add (⟨k, ca, tb, so, tx, sf, A, n, c, net, T, m, d, pay, X, Y, f⟩ : Slp)).rB n = gb) := Lib.hid (by rw [HGB.out, ← HGA.out]; rfl)
          have HOO := Lib.hid hO
          have q2 := HD.out.2.2.1
          have y0_0 := K0.cell (i := 0) rfl
          have y0_1 := K0.cell (i := 1) rfl
          have y0_2 := K0.cell (i := 2) rfl
          have y0_3 := K0.cell (i := 3) rfl
          have y0_4 := K0.cell (i := 4) rfl
          have y0_5 := K0.cell (i := 5) rfl
          have y0_6 := K0.cell (i := 6) rfl
          have y0_7 := K0.cell (i := 7) rfl
          have y0_8 := K0.cell (i := 8) rfl
          have y3_0 := K3.cell (i := 0) rfl
          have y3_1 := K3.cell (i := 1) rfl
          have y3_2 := K3.cell (i := 2) rfl
          have y3_3 := K3.cell (i := 3) rfl
          have y3_4 := K3.cell (i := 4) rfl
          have y3_5 := K3.cell (i := 5) rfl
          have y3_6 := K3.cell (i := 6) rfl
          have y3_7 := K3.cell (i := 7) rfl
          have y3_8 := K3.cell (i := 8) rfl
          have y2_0 := K2.cell (i := 0) rfl
          have y2f_0 := K2.fr 0
          have y2_1 := K2.cell (i := 1) rfl
          have y2f_1 := K2.fr 1
          have y2_2 := K2.cell (i := 2) rfl
          have y2f_2 := K2.fr 2
          have y2_3 := K2.cell (i := 3) rfl
          have y2f_3 := K2.fr 3
          have y2_4 := K2.cell (i := 4) rfl
          have y2f_4 := K2.fr 4
          have y2_5 := K2.cell (i := 5) rfl
          have y2f_5 := K2.fr 5
          have y2_6 := K2.cell (i := 6) rfl
          have y2f_6 := K2.fr 6
          have y2_7 := K2.cell (i := 7) rfl
          have y2f_7 := K2.fr 7
          have y2_8 := K2.cell (i := 8) rfl
          have y2f_8 := K2.fr 8
          clear hO
          cases gb
          · have Z := ((((((((K2.set 0 (.int .i64 t.ca)).set 1 (.int .i64 t.tb)).set 2 (.int .i64 t.so)).set 3 (.int .i64 t.tx)).set 4 (.int .i64 t.sf)).set 5 (.slice A0 n c0)).set 6 (.int .i64 t.net)).set 7 (.int .i64 t.tk)).set 8 (.int .i64 t.pay)
            have z_0 := Z.cell (i := 0) rfl
            have z_1 := Z.cell (i := 1) rfl
            have z_2 := Z.cell (i := 2) rfl
            have z_3 := Z.cell (i := 3) rfl
            have z_4 := Z.cell (i := 4) rfl
            have z_5 := Z.cell (i := 5) rfl
            have z_6 := Z.cell (i := 6) rfl
            have z_7 := Z.cell (i := 7) rfl
            have z_8 := Z.cell (i := 8) rfl
            have BZ := stAll_below (p := w.heap.size + 1 + 1) (by omega) [.int .i64 t.ca, .int .i64 t.tb, .int .i64 t.so, .int .i64 t.tx, .int .i64 t.sf, .slice A0 n c0, .int .i64 t.net, .int .i64 t.tk, .int .i64 t.pay] _ 0 B
            clear Z K0 K1 K2 K3 B
            go_wp2
            exact bodyPost_ret (v := .tuple #[.agg #[.int .i64 t.ca, .int .i64 t.tb, .int .i64 t.so, .int .i64 t.tx, .int .i64 t.sf, .slice A0 n c0, .int .i64 t.net, .int .i64 t.tk, .int .i64 t.pay], .int .i64 10]) (by simp [results, Try.results11, go_sem, z_0, z_1, z_2, z_3, z_4, z_5, z_6, z_7, z_8]) rfl ⟨fun h => absurd (hR.out.symm.trans h) (by decide), fun _ => rfl, BZ⟩
          · have Z := ((((((((K2.set 0 (.int .i64 (t.ca + ca))).set 1 (.int .i64 (t.tb + tb))).set 2 (.int .i64 (t.so + so))).set 3 (.int .i64 (t.tx + tx))).set 4 (.int .i64 sf)).set 5 (.slice A' n c')).set 6 (.int .i64 (t.net + net))).set 7 (.int .i64 (t.tk + sumT f m))).set 8 (.int .i64 (t.pay + pay))
            have z_0 := Z.cell (i := 0) rfl
            have z_1 := Z.cell (i := 1) rfl
            have z_2 := Z.cell (i := 2) rfl
            have z_3 := Z.cell (i := 3) rfl
            have z_4 := Z.cell (i := 4) rfl
            have z_5 := Z.cell (i := 5) rfl
            have z_6 := Z.cell (i := 6) rfl
            have z_7 := Z.cell (i := 7) rfl
            have z_8 := Z.cell (i := 8) rfl
            have BZ := stAll_below (p := w.heap.size + 1 + 1) (by omega) [.int .i64 (t.ca + ca), .int .i64 (t.tb + tb), .int .i64 (t.so + so), .int .i64 (t.tx + tx), .int .i64 sf, .slice A' n c', .int .i64 (t.net + net), .int .i64 (t.tk + sumT f m), .int .i64 (t.pay + pay)] _ 0 B
            have P1 := Lib.hid (own_mono (own_blk HOO.out (w' := stAll wr (w.heap.size + 1 + 1) 0 [.int .i64 (t.ca + ca), .int .i64 (t.tb + tb), .int .i64 (t.so + so), .int .i64 (t.tx + tx), .int .i64 sf, .slice A' n c', .int .i64 (t.net + net), .int .i64 (t.tk + sumT f m), .int .i64 (t.pay + pay)]) (fun q hq => stAll_blk (by have := (HOO.out.lt q hq).1; omega) _ _ _)) (show w.heap.size ≤ _ by omega))
            clear Z K0 K1 K2 K3 B HOO
            go_wp2
            exact bodyPost_ret (v := .tuple #[.agg #[.int .i64 (t.ca + ca), .int .i64 (t.tb + tb), .int .i64 (t.so + so), .int .i64 (t.tx + tx), .int .i64 sf, .slice A' n c', .int .i64 (t.net + net), .int .i64 (t.tk + sumT f m), .int .i64 (t.pay + pay)], .int .i64 0]) (by simp [results, Try.results11, go_sem, z_0, z_1, z_2, z_3, z_4, z_5, z_6, z_7, z_8]) rfl ⟨fun _ => ⟨A', c', rfl, P1.out⟩, fun h => absurd (hR.out.symm.trans h) (by decide), BZ⟩
theorem lsum_any (t : Tot) (A0 : Option Addr) (c0 : Nat) (s : Slp) (n : Nat) (w : World) (h0 : Shs w A0 n t.X t.Y) (hM : SlM w s) (hs : s.OK n) (hn : n ≤ 64) (hm : s.m ≤ 100000) (ht : t.rB n = true) :
    Calls Try.prog 11 #[.agg #[.int .i64 t.ca, .int .i64 t.tb, .int .i64 t.so, .int .i64 t.tx, .int .i64 t.sf, .slice A0 n c0, .int .i64 t.net, .int .i64 t.tk, .int .i64 t.pay], .agg #[.int .i64 s.k, .int .i64 s.ca, .int .i64 s.tb, .int .i64 s.so, .int .i64 s.tx, .int .i64 s.sf, .slice s.A s.n s.c, .int .i64 s.net, .slice s.T s.m s.d, .int .i64 s.pay]] w (SumP t A0 c0 s n w) := by
  obtain rfl : s.n = n := hs.n
  exact lsum_raw t A0 c0 s.k s.ca s.tb s.so s.tx s.sf s.A s.n s.c s.net s.T s.m s.d s.pay s.X s.Y s.f w h0 hM hs hn hm ht
end Go.Proofs.Ytfnjhalpedccaaa
