/- What order.Parse answers of five words that are numbers and amounts. -/
import Derived.Test.YthknjpmhomjobaaGreatDoorBkL
import Derived.Test.YthknjpmhomjobaaGreatDoorWrdC
import Derived.Test.YthknjpmhomjobaaGreatDoorTxtParse
namespace Go.Proofs.YthknjpmhomjobaaGreatDoor
open Go.RowKit Go.Sort
set_option linter.unusedVariables false
set_option linter.unusedSimpArgs false

theorem ta_int (a : Option Addr) (W : World) : (Instr.typeAssert (.iface 65 (.pointer a)) 20 65 true).run Tryz.prog W = .ok (.tuple #[.pointer a, .bool true]) W := by kernel_rfl
theorem ta_no (a : Option Addr) (W : World) : (Instr.typeAssert (.iface 66 (.pointer a)) 20 65 true).run Tryz.prog W = .ok (.tuple #[.pointer none, .bool false]) W := by kernel_rfl
theorem ta_amt (a : Option Addr) (W : World) : (Instr.typeAssert (.iface 66 (.pointer a)) 20 66 true).run Tryz.prog W = .ok (.tuple #[.pointer a, .bool true]) W := by kernel_rfl
/-- a word is put to a place of a block -/
def RdP (q k : Nat) (x : Int) (w : World) (e : Ending) (w' : World) : Prop := e = .returned (.int .i64 0) ∧ ∃ w1, Below w.heap.size w w1 ∧ w' = w1.setCell ⟨q, k, none⟩ (.int .i64 x)
set_option maxRecDepth 100000 in
set_option maxHeartbeats 4000000 in
theorem read_int (s : ByteArray) (q k : Nat) (T : TypeId) (L : List Value) (w : World) (u : Value) (K : Bx w q T L) (hu : L[k]? = some u) (x : Int) (hx : intV s.data.toList = (x, 0)) (hs : s.size ≤ 1000) :
    Calls Tryz.prog 28 #[.string s, .iface 65 (.pointer (some ⟨q, k, none⟩))] w (RdP q k x w) := by
  have cI := int_any s w (by omega)
  unfold IntP at cI
  rw [hx] at cI
  have h1 := ta_int
  have h2 := ta_no
  have h3 := ta_amt
  clear hx hs
  go_enter Tryz.func28, Tryz.ntmps28
  go_wp2_with (fail)
  with_reducible refine cI.mono ?_
  rintro e w1 ⟨rfl, hb⟩
  have K1 := K.below hb
  have c0 := K1.cell hu
  have f0 := K1.fr k
  clear cI K K1
  go_wp2
  go_ret
  exact ⟨rfl, w1, hb, rfl⟩
set_option maxRecDepth 100000 in
set_option maxHeartbeats 4000000 in
theorem read_amt (s : ByteArray) (q k : Nat) (T : TypeId) (L : List Value) (w : World) (u : Value) (K : Bx w q T L) (hu : L[k]? = some u) (x : Int) (hx : parseP s.data.toList = (x, 0)) (hs : s.size ≤ 1000) :
    Calls Tryz.prog 28 #[.string s, .iface 66 (.pointer (some ⟨q, k, none⟩))] w (RdP q k x w) := by
  have cI := parse_any s w (by omega)
  rw [hx] at cI
  have h1 := ta_int
  have h2 := ta_no
  have h3 := ta_amt
  clear hx hs
  go_enter Tryz.func28, Tryz.ntmps28
  go_wp2_with (fail)
  with_reducible refine cI.mono ?_
  rintro e w1 ⟨rfl, hb⟩
  have K1 := K.below hb
  have c0 := K1.cell hu
  have f0 := K1.fr k
  clear cI K K1
  go_wp2
  go_ret
  exact ⟨rfl, w1, hb, rfl⟩
set_option maxRecDepth 100000 in
set_option maxHeartbeats 4000000 in
theorem oparse_ok (b c : Nat) (t : Nat → ByteArray) (w : World) (hW : ∀ i, i < 5 → w.cell? ⟨b, i, none⟩ = some (.string (t i))) (i0 p0 a0 r0 t0 : Int)
    (h0 : intV (t 0).data.toList = (i0, 0)) (h1 : intV (t 1).data.toList = (p0, 0)) (h2 : parseP (t 2).data.toList = (a0, 0)) (h3 : intV (t 3).data.toList = (r0, 0)) (h4 : parseP (t 4).data.toList = (t0, 0)) (hs : ∀ i, i < 5 → (t i).size ≤ 1000) (r : Int) (hr : chkO i0 p0 a0 r0 t0 = r) :
    Calls Tryz.prog 10 #[.slice (some ⟨b, 0, none⟩) 5 c] w fun e w' => e = .returned (.tuple #[if r = 0 then .agg #[.int .i64 i0, .int .i64 p0, .int .i64 a0, .int .i64 r0, .int .i64 t0] else .agg #[.int .i64 0, .int .i64 0, .int .i64 0, .int .i64 0, .int .i64 0], .int .i64 r]) ∧ Below w.heap.size w w' := by
  have N1 := below_new w (.cells #[.int .i64 0, .int .i64 0, .int .i64 0, .int .i64 0, .int .i64 0] 23)
  have N2 := below_new (w.alloc (.cells #[.int .i64 0, .int .i64 0, .int .i64 0, .int .i64 0, .int .i64 0] 23)) (.cells #[.int .i64 0, .int .i64 0, .int .i64 0, .int .i64 0, .int .i64 0] 23)
  have N3 := below_new ((w.alloc (.cells #[.int .i64 0, .int .i64 0, .int .i64 0, .int .i64 0, .int .i64 0] 23)).alloc (.cells #[.int .i64 0, .int .i64 0, .int .i64 0, .int .i64 0, .int .i64 0] 23)) (.cells #[.iface 65 (.pointer (some ⟨w.heap.size + 1, 0, none⟩)), .iface 65 (.pointer (some ⟨w.heap.size + 1, 1, none⟩)), .iface 66 (.pointer (some ⟨w.heap.size + 1, 2, none⟩)), .iface 65 (.pointer (some ⟨w.heap.size + 1, 3, none⟩)), .iface 66 (.pointer (some ⟨w.heap.size + 1, 4, none⟩))] 20)
  have B0 := below_step (below_step N1 N2 N1.size) N3 (Nat.le_trans N1.size N2.size)
  have K0 := ((bx_new w [.int .i64 0, .int .i64 0, .int .i64 0, .int .i64 0, .int .i64 0] 23).below N2).below N3
  have K1 := (bx_at (w.alloc (.cells #[.int .i64 0, .int .i64 0, .int .i64 0, .int .i64 0, .int .i64 0] 23)) [.int .i64 0, .int .i64 0, .int .i64 0, .int .i64 0, .int .i64 0] 23 (n := w.heap.size + 1) (by simp)).below N3
  have K2 := bx_at ((w.alloc (.cells #[.int .i64 0, .int .i64 0, .int .i64 0, .int .i64 0, .int .i64 0] 23)).alloc (.cells #[.int .i64 0, .int .i64 0, .int .i64 0, .int .i64 0, .int .i64 0] 23)) [.iface 65 (.pointer (some ⟨w.heap.size + 1, 0, none⟩)), .iface 65 (.pointer (some ⟨w.heap.size + 1, 1, none⟩)), .iface 66 (.pointer (some ⟨w.heap.size + 1, 2, none⟩)), .iface 65 (.pointer (some ⟨w.heap.size + 1, 3, none⟩)), .iface 66 (.pointer (some ⟨w.heap.size + 1, 4, none⟩))] 20 (n := w.heap.size + 1 + 1) (by simp)
  have HWW := Lib.hid hW
  have HT := Lib.hid (And.intro h0 (And.intro h1 (And.intro h2 (And.intro h3 h4))))
  have HS := Lib.hid hs
  have HR := Lib.hid hr
  clear N1 N2 N3 hW h0 h1 h2 h3 h4 hs hr
  go_enter Tryz.func10, Tryz.ntmps10
  go_wp2_with (fail)
  generalize hq2 : w.heap.size + 1 + 1 = q2 at *
  generalize hq1 : w.heap.size + 1 = q1 at *
  have hqq : q1 ≠ w.heap.size := by omega
  have hqq2 : q1 ≠ q2 := by omega
  have HQ : Hid (w.heap.size ≤ q1 ∧ q1 ≠ w.heap.size ∧ q1 ≠ q2) := Lib.hid ⟨by omega, hqq, hqq2⟩
  clear hq2 hq1
  generalize ((w.alloc _).alloc _).alloc _ = W at *
  have HB := Lib.hid B0
  clear B0
  refine wp_loop_rounds 6 ?_
  rw [rounds_succ]
  have wd := cell_later HB.out (HWW.out 0 (by omega))
  have pl := K2.cell (i := 0) rfl
  have cR := read_int (t 0) q1 0 23 [.int .i64 0, .int .i64 0, .int .i64 0, .int .i64 0, .int .i64 0] W (.int .i64 0) K1 rfl i0 HT.out.1 (HS.out 0 (by omega))
  go_wp2_with (fail)
  refine Calls.mono cR ?_
  rintro e W1 ⟨rfl, v1, hb, hw2⟩
  have K0_1 := (K0.below hb).other (q := q1) HQ.out.2.1 0 (.int .i64 i0)
  have K2_1 := (K2.below hb).other (q := q1) HQ.out.2.2 0 (.int .i64 i0)
  have K1_1 : Bx (v1.setCell ⟨q1, 0, none⟩ (.int .i64 i0)) q1 23 [.int .i64 i0, .int .i64 0, .int .i64 0, .int .i64 0, .int .i64 0] := (K1.below hb).set 0 (.int .i64 i0)
  have HB_1 := Lib.hid ((below_step HB.out hb HB.out.size).setCell (p := ⟨q1, 0, none⟩) HQ.out.1 (.int .i64 i0))
  rw [← hw2] at K0_1 K1_1 K2_1 HB_1
  clear cR wd pl K0 K1 K2 HB hb hw2
  go_wp2
  rw [rounds_succ]
  have wd := cell_later HB_1.out (HWW.out 1 (by omega))
  have pl := K2_1.cell (i := 1) rfl
  have cR := read_int (t 1) q1 1 23 [.int .i64 i0, .int .i64 0, .int .i64 0, .int .i64 0, .int .i64 0] W1 (.int .i64 0) K1_1 rfl p0 HT.out.2.1 (HS.out 1 (by omega))
  go_wp2_with (fail)
  refine Calls.mono cR ?_
  rintro e W2 ⟨rfl, v2, hb, hw2⟩
  have K0_2 := (K0_1.below hb).other (q := q1) HQ.out.2.1 1 (.int .i64 p0)
  have K2_2 := (K2_1.below hb).other (q := q1) HQ.out.2.2 1 (.int .i64 p0)
  have K1_2 : Bx (v2.setCell ⟨q1, 1, none⟩ (.int .i64 p0)) q1 23 [.int .i64 i0, .int .i64 p0, .int .i64 0, .int .i64 0, .int .i64 0] := (K1_1.below hb).set 1 (.int .i64 p0)
  have HB_2 := Lib.hid ((below_step HB_1.out hb HB_1.out.size).setCell (p := ⟨q1, 1, none⟩) HQ.out.1 (.int .i64 p0))
  rw [← hw2] at K0_2 K1_2 K2_2 HB_2
  clear cR wd pl K0_1 K1_1 K2_1 HB_1 hb hw2
  go_wp2
  rw [rounds_succ]
  have wd := cell_later HB_2.out (HWW.out 2 (by omega))
  have pl := K2_2.cell (i := 2) rfl
  have cR := read_amt (t 2) q1 2 23 [.int .i64 i0, .int .i64 p0, .int .i64 0, .int .i64 0, .int .i64 0] W2 (.int .i64 0) K1_2 rfl a0 HT.out.2.2.1 (HS.out 2 (by omega))
  go_wp2_with (fail)
  refine Calls.mono cR ?_
  rintro e W3 ⟨rfl, v3, hb, hw2⟩
  have K0_3 := (K0_2.below hb).other (q := q1) HQ.out.2.1 2 (.int .i64 a0)
  have K2_3 := (K2_2.below hb).other (q := q1) HQ.out.2.2 2 (.int .i64 a0)
  have K1_3 : Bx (v3.setCell ⟨q1, 2, none⟩ (.int .i64 a0)) q1 23 [.int .i64 i0, .int .i64 p0, .int .i64 a0, .int .i64 0, .int .i64 0] := (K1_2.below hb).set 2 (.int .i64 a0)
  have HB_3 := Lib.hid ((below_step HB_2.out hb HB_2.out.size).setCell (p := ⟨q1, 2, none⟩) HQ.out.1 (.int .i64 a0))
  rw [← hw2] at K0_3 K1_3 K2_3 HB_3
  clear cR wd pl K0_2 K1_2 K2_2 HB_2 hb hw2
  go_wp2
  rw [rounds_succ]
  have wd := cell_later HB_3.out (HWW.out 3 (by omega))
  have pl := K2_3.cell (i := 3) rfl
  have cR := read_int (t 3) q1 3 23 [.int .i64 i0, .int .i64 p0, .int .i64 a0, .int .i64 0, .int .i64 0] W3 (.int .i64 0) K1_3 rfl r0 HT.out.2.2.2.1 (HS.out 3 (by omega))
  go_wp2_with (fail)
  refine Calls.mono cR ?_
  rintro e W4 ⟨rfl, v4, hb, hw2⟩
  have K0_4 := (K0_3.below hb).other (q := q1) HQ.out.2.1 3 (.int .i64 r0)
  have K2_4 := (K2_3.below hb).other (q := q1) HQ.out.2.2 3 (.int .i64 r0)
  have K1_4 : Bx (v4.setCell ⟨q1, 3, none⟩ (.int .i64 r0)) q1 23 [.int .i64 i0, .int .i64 p0, .int .i64 a0, .int .i64 r0, .int .i64 0] := (K1_3.below hb).set 3 (.int .i64 r0)
  have HB_4 := Lib.hid ((below_step HB_3.out hb HB_3.out.size).setCell (p := ⟨q1, 3, none⟩) HQ.out.1 (.int .i64 r0))
  rw [← hw2] at K0_4 K1_4 K2_4 HB_4
  clear cR wd pl K0_3 K1_3 K2_3 HB_3 hb hw2
  go_wp2
  rw [rounds_succ]
  have wd := cell_later HB_4.out (HWW.out 4 (by omega))
  have pl := K2_4.cell (i := 4) rfl
  have cR := read_amt (t 4) q1 4 23 [.int .i64 i0, .int .i64 p0, .int .i64 a0, .int .i64 r0, .int .i64 0] W4 (.int .i64 0) K1_4 rfl t0 HT.out.2.2.2.2 (HS.out 4 (by omega))
  go_wp2_with (fail)
  refine Calls.mono cR ?_
  rintro e W5 ⟨rfl, v5, hb, hw2⟩
  have K0_5 := (K0_4.below hb).other (q := q1) HQ.out.2.1 4 (.int .i64 t0)
  have K2_5 := (K2_4.below hb).other (q := q1) HQ.out.2.2 4 (.int .i64 t0)
  have K1_5 : Bx (v5.setCell ⟨q1, 4, none⟩ (.int .i64 t0)) q1 23 [.int .i64 i0, .int .i64 p0, .int .i64 a0, .int .i64 r0, .int .i64 t0] := (K1_4.below hb).set 4 (.int .i64 t0)
  have HB_5 := Lib.hid ((below_step HB_4.out hb HB_4.out.size).setCell (p := ⟨q1, 4, none⟩) HQ.out.1 (.int .i64 t0))
  rw [← hw2] at K0_5 K1_5 K2_5 HB_5
  clear cR wd pl K0_4 K1_4 K2_4 HB_4 hb hw2
  go_wp2
  rw [rounds_succ]
  have cC := ocheck_any i0 p0 a0 r0 t0 W5 r HR.out
  have x_0 := K1_5.cell (i := 0) rfl
  have x_1 := K1_5.cell (i := 1) rfl
  have x_2 := K1_5.cell (i := 2) rfl
  have x_3 := K1_5.cell (i := 3) rfl
  have x_4 := K1_5.cell (i := 4) rfl
  go_wp2_with (fail)
  with_reducible refine cC.mono ?_
  rintro e W7 ⟨rfl, hb7⟩
  have K0_7 := K0_5.below hb7
  have K1_7 := K1_5.below hb7
  have B7 := below_step HB_5.out hb7 HB_5.out.size
  clear x_0 x_1 x_2 x_3 x_4
  have y_0 := K0_7.cell (i := 0) rfl
  have yf_0 := K0_7.fr 0
  have y_1 := K0_7.cell (i := 1) rfl
  have yf_1 := K0_7.fr 1
  have y_2 := K0_7.cell (i := 2) rfl
  have yf_2 := K0_7.fr 2
  have y_3 := K0_7.cell (i := 3) rfl
  have yf_3 := K0_7.fr 3
  have y_4 := K0_7.cell (i := 4) rfl
  have yf_4 := K0_7.fr 4
  have x_0 := K1_7.cell (i := 0) rfl
  have x_1 := K1_7.cell (i := 1) rfl
  have x_2 := K1_7.cell (i := 2) rfl
  have x_3 := K1_7.cell (i := 3) rfl
  have x_4 := K1_7.cell (i := 4) rfl
  have HK := Lib.hid K0_7
  have HB := Lib.hid B7
  clear cC hb7 K0_7 K1_7 B7 K0_5 K1_5 K2_5 HB_5
  by_cases hr : r = 0
  · subst hr
    have HF : Hid (Ending.returned (.tuple #[.agg #[.int .i64 i0, .int .i64 p0, .int .i64 a0, .int .i64 r0, .int .i64 t0], .int .i64 0]) = Ending.returned (.tuple #[if (0 : Int) = 0 then .agg #[.int .i64 i0, .int .i64 p0, .int .i64 a0, .int .i64 r0, .int .i64 t0] else .agg #[.int .i64 0, .int .i64 0, .int .i64 0, .int .i64 0, .int .i64 0], .int .i64 0])) := Lib.hid (by rw [if_pos rfl])
    have ZZ := (((((HK.out.set 0 (.int .i64 i0)).set 1 (.int .i64 p0)).set 2 (.int .i64 a0)).set 3 (.int .i64 r0)).set 4 (.int .i64 t0))
    have hp : w.heap.size ≤ w.heap.size := Nat.le_refl _
    have HZ := (((((HB.out.setCell (p := ⟨w.heap.size, 0, none⟩) hp (.int .i64 i0)).setCell (p := ⟨w.heap.size, 1, none⟩) hp (.int .i64 p0)).setCell (p := ⟨w.heap.size, 2, none⟩) hp (.int .i64 a0)).setCell (p := ⟨w.heap.size, 3, none⟩) hp (.int .i64 r0)).setCell (p := ⟨w.heap.size, 4, none⟩) hp (.int .i64 t0))
    have HZZ := Lib.hid (And.intro ZZ HZ)
    clear ZZ HZ hp
    go_wp2
    clear y_0 y_1 y_2 y_3 y_4 yf_0 yf_1 yf_2 yf_3 yf_4
    obtain ⟨ZZ, HZ⟩ := HZZ.out
    clear HZZ
    generalize ((((W7.setCell _ _).setCell _ _).setCell _ _).setCell _ _).setCell _ _ = W8 at *
    have z_0 := ZZ.cell (i := 0) rfl
    have z_1 := ZZ.cell (i := 1) rfl
    have z_2 := ZZ.cell (i := 2) rfl
    have z_3 := ZZ.cell (i := 3) rfl
    have z_4 := ZZ.cell (i := 4) rfl
    exact bodyPost_ret (v := .tuple #[.agg #[.int .i64 i0, .int .i64 p0, .int .i64 a0, .int .i64 r0, .int .i64 t0], .int .i64 0]) (by simp [results, Tryz.results10, go_sem, z_0, z_1, z_2, z_3, z_4]) rfl ⟨by first | exact HF.out | rfl, HZ⟩
  · have e1 : (r != 0) = true := by simp [hr]
    have HF : Hid (Ending.returned (.tuple #[.agg #[.int .i64 0, .int .i64 0, .int .i64 0, .int .i64 0, .int .i64 0], .int .i64 r]) = Ending.returned (.tuple #[if r = 0 then .agg #[.int .i64 i0, .int .i64 p0, .int .i64 a0, .int .i64 r0, .int .i64 t0] else .agg #[.int .i64 0, .int .i64 0, .int .i64 0, .int .i64 0, .int .i64 0], .int .i64 r])) := Lib.hid (by rw [if_neg hr])
    clear x_0 x_1 x_2 x_3 x_4
    have ZZ := (((((HK.out.set 0 (.int .i64 0)).set 1 (.int .i64 0)).set 2 (.int .i64 0)).set 3 (.int .i64 0)).set 4 (.int .i64 0))
    have hp : w.heap.size ≤ w.heap.size := Nat.le_refl _
    have HZ := (((((HB.out.setCell (p := ⟨w.heap.size, 0, none⟩) hp (.int .i64 0)).setCell (p := ⟨w.heap.size, 1, none⟩) hp (.int .i64 0)).setCell (p := ⟨w.heap.size, 2, none⟩) hp (.int .i64 0)).setCell (p := ⟨w.heap.size, 3, none⟩) hp (.int .i64 0)).setCell (p := ⟨w.heap.size, 4, none⟩) hp (.int .i64 0))
    have HZZ := Lib.hid (And.intro ZZ HZ)
    clear ZZ HZ hp
    go_wp2
    clear y_0 y_1 y_2 y_3 y_4 yf_0 yf_1 yf_2 yf_3 yf_4
    obtain ⟨ZZ, HZ⟩ := HZZ.out
    clear HZZ
    generalize ((((W7.setCell _ _).setCell _ _).setCell _ _).setCell _ _).setCell _ _ = W8 at *
    have z_0 := ZZ.cell (i := 0) rfl
    have z_1 := ZZ.cell (i := 1) rfl
    have z_2 := ZZ.cell (i := 2) rfl
    have z_3 := ZZ.cell (i := 3) rfl
    have z_4 := ZZ.cell (i := 4) rfl
    exact bodyPost_ret (v := .tuple #[.agg #[.int .i64 0, .int .i64 0, .int .i64 0, .int .i64 0, .int .i64 0], .int .i64 r]) (by simp [results, Tryz.results10, go_sem, z_0, z_1, z_2, z_3, z_4]) rfl ⟨by first | exact HF.out | rfl, HZ⟩
end Go.Proofs.YthknjpmhomjobaaGreatDoor
