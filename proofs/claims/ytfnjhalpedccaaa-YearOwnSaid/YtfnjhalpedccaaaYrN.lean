/- What slices.Equal of alike rows, and year.Same of alike totals, answer. -/
import Derived.Test.YtfnjhalpedccaaaYrJ
import Derived.BigQuiet
namespace Go.Proofs.Ytfnjhalpedccaaa
open Go.RowKit Go.Sort
set_option linter.unusedVariables false
set_option linter.unusedSimpArgs false

theorem neq_sh (a b : Int) (W : World) : (binOp .neq 53 (.agg #[.int .i64 a, .int .i64 b]) (.agg #[.int .i64 a, .int .i64 b])).run Try.prog W = .ok (.bool false) W := by
  simp [go_sem]
theorem neq_tk (a b c d e f : Int) (W : World) : (binOp .neq 58 (.agg #[.int .i64 a, .int .i64 b, .int .i64 c, .int .i64 d, .int .i64 e, .int .i64 f]) (.agg #[.int .i64 a, .int .i64 b, .int .i64 c, .int .i64 d, .int .i64 e, .int .i64 f])).run Try.prog W = .ok (.bool false) W := by
  simp [go_sem]
theorem eql_bs (a b c : Int) (W : World) : (binOp .eql 30 (.agg #[.int .i64 a, .int .i64 b, .int .i64 c]) (.agg #[.int .i64 a, .int .i64 b, .int .i64 c])).run Try.prog W = .ok (.bool true) W := by
  simp [go_sem]
set_option maxHeartbeats 1000000 in
theorem eqr2 (A A' : Option Addr) (n c c' : Nat) (w : World) (X Y : Nat → Int) (h : Shs w A n X Y) (h' : Shs w A' n X Y) (hn : n ≤ 1000000) :
    Calls Try.prog 33 #[.slice A n c, .slice A' n c'] w fun e w' => e = .returned (.bool true) ∧ Below w.heap.size w w' := by
  have n0 : ((n : Int) != (n : Int)) = false := by simp
  have H := Lib.hid h
  have H' := Lib.hid h'
  clear h h'
  go_enter Try.func33, Try.ntmps33
  go_wp2
  go_loopw [13] (fun k W => ∃ i : Nat, i ≤ n ∧ k = .int .i64 i ∧ Below w.heap.size w W) (fun k _ => n - (intOf k).toNat)
  case atStart => exact ⟨0, Nat.zero_le _, rfl, Below.refl _ _⟩
  case round =>
    obtain ⟨i, hi, rfl, hb⟩ := hrel
    by_cases hlt : i < n
    · obtain ⟨b, o, rfl, hc⟩ := H.out (by omega)
      obtain ⟨b', o', rfl, hc'⟩ := H'.out (by omega)
      obtain ⟨x0, x1⟩ := hc i hlt
      obtain ⟨y0, y1⟩ := hc' i hlt
      have c0 := cell_later hb x0
      have c1 := cell_later hb x1
      have d0 := cell_later hb y0
      have d1 := cell_later hb y1
      have i4 : (i : Int) < (n : Int) := by omega
      clear x0 x1 y0 y1 hc hc'
      have hne := neq_sh (X i) (Y i)
      generalize X i = p at *
      generalize Y i = q at *
      go_wp2
      go_quiet (fail)
      go_wp2
      go_roundw
      case rel => exact ⟨i + 1, by omega, by go_num, below_drewN hb _⟩
      case measure => first | omega | (simp [intOf]; omega)
    · obtain rfl : i = n := by omega
      go_wp2
      go_ret
      exact ⟨rfl, hb⟩
set_option maxHeartbeats 1000000 in
theorem eq2 (A A' : Option Addr) (n c c' : Nat) (w : World) (X Y : Nat → Int) (h : Shs w A n X Y) (h' : Shs w A' n X Y) (hn : n ≤ 1000000) :
    Calls Try.prog 43 #[.slice A n c, .slice A' n c'] w fun e w' => e = .returned (.bool true) ∧ Below w.heap.size w w' := by
  have n0 : ((n : Int) != (n : Int)) = false := by simp
  have H := Lib.hid h
  have H' := Lib.hid h'
  clear h h'
  go_enter Try.func43, Try.ntmps43
  go_wp2
  go_loopw [13] (fun k W => ∃ i : Nat, i ≤ n ∧ k = .int .i64 i ∧ Below w.heap.size w W) (fun k _ => n - (intOf k).toNat)
  case atStart => exact ⟨0, Nat.zero_le _, rfl, Below.refl _ _⟩
  case round =>
    obtain ⟨i, hi, rfl, hb⟩ := hrel
    by_cases hlt : i < n
    · obtain ⟨b, o, rfl, hc⟩ := H.out (by omega)
      obtain ⟨b', o', rfl, hc'⟩ := H'.out (by omega)
      obtain ⟨x0, x1⟩ := hc i hlt
      obtain ⟨y0, y1⟩ := hc' i hlt
      have c0 := cell_later hb x0
      have c1 := cell_later hb x1
      have d0 := cell_later hb y0
      have d1 := cell_later hb y1
      have i4 : (i : Int) < (n : Int) := by omega
      clear x0 x1 y0 y1 hc hc'
      have hne := neq_sh (X i) (Y i)
      generalize X i = p at *
      generalize Y i = q at *
      go_wp2
      go_quiet (fail)
      go_wp2
      go_roundw
      case rel => exact ⟨i + 1, by omega, by go_num, below_drewN hb _⟩
      case measure => first | omega | (simp [intOf]; omega)
    · obtain rfl : i = n := by omega
      go_wp2
      go_ret
      exact ⟨rfl, hb⟩
set_option maxHeartbeats 1000000 in
theorem eq6 (A A' : Option Addr) (n c c' : Nat) (w : World) (f : Nat → Tkn) (h : Tks w A n f) (h' : Tks w A' n f) (hn : n ≤ 1000000) :
    Calls Try.prog 44 #[.slice A n c, .slice A' n c'] w fun e w' => e = .returned (.bool true) ∧ Below w.heap.size w w' := by
  have n0 : ((n : Int) != (n : Int)) = false := by simp
  have H := Lib.hid h
  have H' := Lib.hid h'
  clear h h'
  go_enter Try.func44, Try.ntmps44
  go_wp2
  go_loopw [13] (fun k W => ∃ i : Nat, i ≤ n ∧ k = .int .i64 i ∧ Below w.heap.size w W) (fun k _ => n - (intOf k).toNat)
  case atStart => exact ⟨0, Nat.zero_le _, rfl, Below.refl _ _⟩
  case round =>
    obtain ⟨i, hi, rfl, hb⟩ := hrel
    by_cases hlt : i < n
    · obtain ⟨b, o, rfl, hc⟩ := H.out (by omega)
      obtain ⟨b', o', rfl, hc'⟩ := H'.out (by omega)
      obtain ⟨c0, c1, c2, c3, c4, c5⟩ := (hc i hlt).below hb
      obtain ⟨d0, d1, d2, d3, d4, d5⟩ := (hc' i hlt).below hb
      have i4 : (i : Int) < (n : Int) := by omega
      clear hc hc'
      have hne := neq_tk (f i).o (f i).b (f i).r (f i).d (f i).t (f i).c
      generalize (f i).o = p0 at *
      generalize (f i).b = p1 at *
      generalize (f i).r = p2 at *
      generalize (f i).d = p3 at *
      generalize (f i).t = p4 at *
      generalize (f i).c = p5 at *
      go_wp2
      go_quiet (fail)
      go_wp2
      go_roundw
      case rel => exact ⟨i + 1, by omega, by go_num, below_drewN hb _⟩
      case measure => first | omega | (simp [intOf]; omega)
    · obtain rfl : i = n := by omega
      go_wp2
      go_ret
      exact ⟨rfl, hb⟩
set_option maxRecDepth 100000 in
set_option maxHeartbeats 2000000 in
theorem ysame_any (t : Tot) (A A' : Option Addr) (n c c' : Nat) (w : World) (h : Shs w A n t.X t.Y) (h' : Shs w A' n t.X t.Y) (hn : n ≤ 1000000) :
    Calls Try.prog 13 #[.agg #[.int .i64 t.ca, .int .i64 t.tb, .int .i64 t.so, .int .i64 t.tx, .int .i64 t.sf, .slice A n c, .int .i64 t.net, .int .i64 t.tk, .int .i64 t.pay], .agg #[.int .i64 t.ca, .int .i64 t.tb, .int .i64 t.so, .int .i64 t.tx, .int .i64 t.sf, .slice A' n c', .int .i64 t.net, .int .i64 t.tk, .int .i64 t.pay]] w fun e w' => e = .returned (.bool true) ∧ Below w.heap.size w w' := by
  generalize t.ca = ca at *
  generalize t.tb = tb at *
  generalize t.so = so at *
  generalize t.tx = tx at *
  generalize t.sf = sf at *
  generalize t.net = net at *
  generalize t.tk = tk at *
  generalize t.pay = pay at *
  have K0 : Bx ((w.alloc (.cells #[.int .i64 ca, .int .i64 tb, .int .i64 so, .int .i64 tx, .int .i64 sf, .slice A n c, .int .i64 net, .int .i64 tk, .int .i64 pay] 34)).alloc (.cells #[.int .i64 ca, .int .i64 tb, .int .i64 so, .int .i64 tx, .int .i64 sf, .slice A' n c', .int .i64 net, .int .i64 tk, .int .i64 pay] 34)) (w.heap.size) 34 [.int .i64 ca, .int .i64 tb, .int .i64 so, .int .i64 tx, .int .i64 sf, .slice A n c, .int .i64 net, .int .i64 tk, .int .i64 pay] := (bx_new w [.int .i64 ca, .int .i64 tb, .int .i64 so, .int .i64 tx, .int .i64 sf, .slice A n c, .int .i64 net, .int .i64 tk, .int .i64 pay] 34).alloc _
  have K1 : Bx ((w.alloc (.cells #[.int .i64 ca, .int .i64 tb, .int .i64 so, .int .i64 tx, .int .i64 sf, .slice A n c, .int .i64 net, .int .i64 tk, .int .i64 pay] 34)).alloc (.cells #[.int .i64 ca, .int .i64 tb, .int .i64 so, .int .i64 tx, .int .i64 sf, .slice A' n c', .int .i64 net, .int .i64 tk, .int .i64 pay] 34)) (w.heap.size + 1) 34 [.int .i64 ca, .int .i64 tb, .int .i64 so, .int .i64 tx, .int .i64 sf, .slice A' n c', .int .i64 net, .int .i64 tk, .int .i64 pay] := bx_at _ [.int .i64 ca, .int .i64 tb, .int .i64 so, .int .i64 tx, .int .i64 sf, .slice A' n c', .int .i64 net, .int .i64 tk, .int .i64 pay] 34 (by simp)
  have B : Below w.heap.size w ((w.alloc (.cells #[.int .i64 ca, .int .i64 tb, .int .i64 so, .int .i64 tx, .int .i64 sf, .slice A n c, .int .i64 net, .int .i64 tk, .int .i64 pay] 34)).alloc (.cells #[.int .i64 ca, .int .i64 tb, .int .i64 so, .int .i64 tx, .int .i64 sf, .slice A' n c', .int .i64 net, .int .i64 tk, .int .i64 pay] 34)) := (((Below.refl _ _).alloc (Nat.le_refl _) _).alloc (by simp) _)
  have k0_0 := K0.cell (i := 0) rfl
  have k0_1 := K0.cell (i := 1) rfl
  have k0_2 := K0.cell (i := 2) rfl
  have k0_3 := K0.cell (i := 3) rfl
  have k0_4 := K0.cell (i := 4) rfl
  have k0_5 := K0.cell (i := 5) rfl
  have k0_6 := K0.cell (i := 6) rfl
  have k0_7 := K0.cell (i := 7) rfl
  have k0_8 := K0.cell (i := 8) rfl
  have k1_0 := K1.cell (i := 0) rfl
  have k1_1 := K1.cell (i := 1) rfl
  have k1_2 := K1.cell (i := 2) rfl
  have k1_3 := K1.cell (i := 3) rfl
  have k1_4 := K1.cell (i := 4) rfl
  have k1_5 := K1.cell (i := 5) rfl
  have k1_6 := K1.cell (i := 6) rfl
  have k1_7 := K1.cell (i := 7) rfl
  have k1_8 := K1.cell (i := 8) rfl
  have cE := fun w h h' => eqr2 A A' n c c' w t.X t.Y h h' hn
  replace h := h.below (show Below w.heap.size w ((w.alloc (.cells #[.int .i64 ca, .int .i64 tb, .int .i64 so, .int .i64 tx, .int .i64 sf, .slice A n c, .int .i64 net, .int .i64 tk, .int .i64 pay] 34)).alloc (.cells #[.int .i64 ca, .int .i64 tb, .int .i64 so, .int .i64 tx, .int .i64 sf, .slice A' n c', .int .i64 net, .int .i64 tk, .int .i64 pay] 34)) from B)
  replace h' := h'.below (show Below w.heap.size w ((w.alloc (.cells #[.int .i64 ca, .int .i64 tb, .int .i64 so, .int .i64 tx, .int .i64 sf, .slice A n c, .int .i64 net, .int .i64 tk, .int .i64 pay] 34)).alloc (.cells #[.int .i64 ca, .int .i64 tb, .int .i64 so, .int .i64 tx, .int .i64 sf, .slice A' n c', .int .i64 net, .int .i64 tk, .int .i64 pay] 34)) from B)
  have hq := eql_bs ca tb so
  go_enter Try.func13, Try.ntmps13
  go_wp2_with (fail)
  with_reducible refine (cE _ h h').mono ?_
  rintro e w1 ⟨rfl, hb⟩
  clear cE h h'
  clear k0_0 k0_1 k0_2 k0_3 k0_4 k0_5 k0_6 k0_7 k0_8 k1_0 k1_1 k1_2 k1_3 k1_4 k1_5 k1_6 k1_7 k1_8
  replace K0 := K0.below hb
  replace K1 := K1.below hb
  replace B := below_step B hb B.size
  clear hb
  have k0_0 := K0.cell (i := 0) rfl
  have k0_1 := K0.cell (i := 1) rfl
  have k0_2 := K0.cell (i := 2) rfl
  have k0_3 := K0.cell (i := 3) rfl
  have k0_4 := K0.cell (i := 4) rfl
  have k0_5 := K0.cell (i := 5) rfl
  have k0_6 := K0.cell (i := 6) rfl
  have k0_7 := K0.cell (i := 7) rfl
  have k0_8 := K0.cell (i := 8) rfl
  have k1_0 := K1.cell (i := 0) rfl
  have k1_1 := K1.cell (i := 1) rfl
  have k1_2 := K1.cell (i := 2) rfl
  have k1_3 := K1.cell (i := 3) rfl
  have k1_4 := K1.cell (i := 4) rfl
  have k1_5 := K1.cell (i := 5) rfl
  have k1_6 := K1.cell (i := 6) rfl
  have k1_7 := K1.cell (i := 7) rfl
  have k1_8 := K1.cell (i := 8) rfl
  go_wp2
  go_ret
  exact ⟨rfl, B⟩
end Go.Proofs.Ytfnjhalpedccaaa
