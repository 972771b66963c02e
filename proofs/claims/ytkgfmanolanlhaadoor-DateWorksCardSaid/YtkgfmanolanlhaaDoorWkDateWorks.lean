/- The walk of DateWorks. -/
import Derived.Test.YtkgfmanolanlhaaDoorWkDateCounts
import Derived.Test.YtkgfmanolanlhaaDoorRefDateB
import Derived.Test.YtkgfmanolanlhaaDoorDateF
import Derived.LoopTactic
namespace Go.Proofs.YtkgfmanolanlhaaDoor
open Go.RowKit
set_option linter.unusedVariables false
set_option linter.unusedSimpArgs false
theorem works_no (y m d k : Int) (h : dayB y m d = false) (w : World) (D : Door w) : Calls Tryd.prog 9 #[.agg #[.int .i64 y, .int .i64 m, .int .i64 d], .int .i64 k] w fun e w' => e = .returned (.bool true) ∧ Below w.heap.size w w' := by
  have hbk := back_no y m d h
  have hrn := rnumber_no y m d h
  have hws := workdays_no y m d y m d (.inl h)
  have hwd := workday_no y m d h
  clear h
  have K0 := hd_box D y m d 23
  have hwx := workday_yes 2024 1 31 true (by decide) (by decide)
  go_enter Tryd.func9, Tryd.ntmps9
  go_wp2_with (fail)
  refine (days_any _ K0.1).mono ?_
  rintro e w1 ⟨rfl, hb⟩
  have K1 := K0.step hb
  clear hb K0
  go_wp2_with (fail)
  refine (hwx _).mono ?_
  rintro e w1a ⟨rfl, hb⟩
  have K2 := K1.step hb
  clear hb K1
  obtain ⟨y0, z0, x0⟩ := (K2.2.2 (w.heap.size, y, m, d) (by simp)).1
  go_wp2_with (fail)
  refine (hbk _).mono ?_
  rintro e w2 ⟨rfl, hb⟩
  have K3 := K2.step hb
  clear hb K2
  clear y0 z0 x0
  have K4 := K3.add 0 0 0 23
  clear K3
  obtain ⟨y1, z1, x1⟩ := (K4.2.2 (w.heap.size, y, m, d) (by simp)).1
  go_wp2_with (fail)
  refine (hrn _).mono ?_
  rintro e w3 ⟨rfl, hb⟩
  have K5 := K4.step hb
  clear hb K4
  clear y1 z1 x1
  obtain ⟨y2, z2, x2⟩ := (K5.2.2 (w.heap.size, y, m, d) (by simp)).1
  go_wp2_with (fail)
  refine (hws _).mono ?_
  rintro e w4 ⟨rfl, hb⟩
  have K6 := K5.step hb
  clear hb K5
  clear y2 z2 x2
  obtain ⟨y3, z3, x3⟩ := (K6.2.2 (w.heap.size, y, m, d) (by simp)).1
  obtain ⟨y4, z4, x4⟩ := (K6.2.2 (w2.heap.size, 0, 0, 0) (by simp)).1
  go_wp2_with (fail)
  refine (hwd _).mono ?_
  rintro e w5 ⟨rfl, hb⟩
  have K7 := K6.step hb
  clear hb K6
  clear y3 z3 x3 y4 z4 x4
  have BE := K7.2.1
  go_wp2
  go_ret
  exact ⟨rfl, BE⟩
set_option maxHeartbeats 1000000 in
theorem works_far (y m d k : Int) (h : dayB y m d = true) (hk : k < -400 ∨ 400 < k) (w : World) (D : Door w) : Calls Tryd.prog 9 #[.agg #[.int .i64 y, .int .i64 m, .int .i64 d], .int .i64 k] w fun e w' => e = .returned (.bool true) ∧ Below w.heap.size w w' := by
  obtain ⟨_, _, n0, n1⟩ := num_bd h
  have hbk := back_yes y m d h
  have hrn := rnumber_yes y m d h
  have hwd := workday_yes y m d _ h rfl
  obtain ⟨b1, b2, b3, b4⟩ := bkN_bd (num y m d)
  have b5 := b4 n0
  clear b4
  have hof := rof_yes (bkN (num y m d)) b5 (by omega)
  generalize num y m d = n at *
  generalize yOf (bkN n) = a at *
  generalize mOf (bkN n) = b at *
  generalize dOf (bkN n) = c at *
  have K0 := hd_box D y m d 23
  have hwx := workday_yes 2024 1 31 true (by decide) (by decide)
  go_enter Tryd.func9, Tryd.ntmps9
  go_wp2_with (fail)
  refine (days_any _ K0.1).mono ?_
  rintro e w1 ⟨rfl, hb⟩
  have K1 := K0.step hb
  clear hb K0
  go_wp2_with (fail)
  refine (hwx _).mono ?_
  rintro e w1a ⟨rfl, hb⟩
  have K2 := K1.step hb
  clear hb K1
  obtain ⟨y0, z0, x0⟩ := (K2.2.2 (w.heap.size, y, m, d) (by simp)).1
  go_wp2_with (fail)
  refine (hbk _).mono ?_
  rintro e w2 ⟨rfl, hb⟩
  have K3 := K2.step hb
  clear hb K2
  clear y0 z0 x0
  have K4 := K3.add a b c 23
  clear K3
  obtain ⟨y1, z1, x1⟩ := (K4.2.2 (w.heap.size, y, m, d) (by simp)).1
  go_wp2_with (fail)
  refine (hrn _).mono ?_
  rintro e w3 ⟨rfl, hb⟩
  have K5 := K4.step hb
  clear hb K4
  clear y1 z1 x1
  clear hbk hrn hwx
  go_wp2
  go_loopw [10] (fun vl wr => ∃ (W2 : World) (v : Int), W2 = wr ∧ vl = .int .i64 v ∧ bkN n ≤ v ∧ v ≤ n ∧ HD w [(w2.heap.size, a, b, c), (w.heap.size, y, m, d)] W2) (fun vl _ => (intOf vl - bkN n).toNat)
  case atStart => exact ⟨_, n, rfl, rfl, b2, by omega, K5⟩
  case round =>
    obtain ⟨W2, v, rfl, rfl, v1, v2, KL⟩ := hrel
    clear K5
    by_cases hgo : 4 < v % 7
    · have hg : decide (4 < v % 7) = true := by simpa using hgo
      have hv : bkN n ≤ v - 1 := by
        unfold bkN at v1 b3 ⊢
        split at v1 <;> omega
      go_wp2
      go_roundw
      case rel => exact ⟨_, v - 1, rfl, rfl, hv, by omega, KL⟩
      case measure => simp [intOf]; omega
    · have hg : decide (4 < v % 7) = false := by simpa using hgo
      obtain rfl : v = bkN n := by
        unfold bkN at v1 b3 ⊢
        split at v1 <;> split <;> omega
      clear v1 v2 hgo
      have K50 := KL
      clear KL
      obtain ⟨y0, z0, x0⟩ := (K50.2.2 (w.heap.size, y, m, d) (by simp)).1
      obtain ⟨y1, z1, x1⟩ := (K50.2.2 (w2.heap.size, a, b, c) (by simp)).1
      go_wp2_with (fail)
      refine (hof _).mono ?_
      rintro e w6 ⟨rfl, hb⟩
      have K51 := K50.step hb
      clear hb K50
      clear y0 z0 x0 y1 z1 x1
      have K52 := K51.add a b c 23
      clear K51
      obtain ⟨y2, z2, x2⟩ := (K52.2.2 (w.heap.size, y, m, d) (by simp)).1
      obtain ⟨y3, z3, x3⟩ := (K52.2.2 (w2.heap.size, a, b, c) (by simp)).1
      obtain ⟨y4, z4, x4⟩ := (K52.2.2 (w6.heap.size, a, b, c) (by simp)).1
      go_wp2_with (fail)
      refine (hwd _).mono ?_
      rintro e w7 ⟨rfl, hb⟩
      have K53 := K52.step hb
      clear hb K52
      clear y2 z2 x2 y3 z3 x3 y4 z4 x4
      have BE := K53.2.1
      rcases hk with hk | hk
      · go_wp2
        go_ret
        exact ⟨rfl, BE⟩
      · go_wp2
        go_ret
        exact ⟨rfl, BE⟩
set_option maxHeartbeats 1000000 in
theorem works_out (y m d k : Int) (h : dayB y m d = true) (hk : -400 ≤ k) (hk' : k ≤ 400) (ho : num y m d + k < 0 ∨ 109573 ≤ num y m d + k) (w : World) (D : Door w) : Calls Tryd.prog 9 #[.agg #[.int .i64 y, .int .i64 m, .int .i64 d], .int .i64 k] w fun e w' => e = .returned (.bool true) ∧ Below w.heap.size w w' := by
  obtain ⟨_, _, n0, n1⟩ := num_bd h
  have hbk := back_yes y m d h
  have hrn := rnumber_yes y m d h
  have hwd := workday_yes y m d _ h rfl
  obtain ⟨b1, b2, b3, b4⟩ := bkN_bd (num y m d)
  have b5 := b4 n0
  clear b4
  have hof := rof_yes (bkN (num y m d)) b5 (by omega)
  have hto : ∀ w, Calls Tryd.prog 20 #[.int .i64 (num y m d + k)] w fun e w' => e = .returned (.tuple #[.agg #[.int .i64 0, .int .i64 0, .int .i64 0], .bool false]) ∧ Below w.heap.size w w' := by
    rcases ho with h | h
    · exact rof_neg _ h
    · exact rof_far _ h (by omega)
  generalize num y m d = n at *
  generalize yOf (bkN n) = a at *
  generalize mOf (bkN n) = b at *
  generalize dOf (bkN n) = c at *
  have K0 := hd_box D y m d 23
  have hwx := workday_yes 2024 1 31 true (by decide) (by decide)
  go_enter Tryd.func9, Tryd.ntmps9
  go_wp2_with (fail)
  refine (days_any _ K0.1).mono ?_
  rintro e w1 ⟨rfl, hb⟩
  have K1 := K0.step hb
  clear hb K0
  go_wp2_with (fail)
  refine (hwx _).mono ?_
  rintro e w1a ⟨rfl, hb⟩
  have K2 := K1.step hb
  clear hb K1
  obtain ⟨y0, z0, x0⟩ := (K2.2.2 (w.heap.size, y, m, d) (by simp)).1
  go_wp2_with (fail)
  refine (hbk _).mono ?_
  rintro e w2 ⟨rfl, hb⟩
  have K3 := K2.step hb
  clear hb K2
  clear y0 z0 x0
  have K4 := K3.add a b c 23
  clear K3
  obtain ⟨y1, z1, x1⟩ := (K4.2.2 (w.heap.size, y, m, d) (by simp)).1
  go_wp2_with (fail)
  refine (hrn _).mono ?_
  rintro e w3 ⟨rfl, hb⟩
  have K5 := K4.step hb
  clear hb K4
  clear y1 z1 x1
  clear hbk hrn hwx
  go_wp2
  go_loopw [10] (fun vl wr => ∃ (W2 : World) (v : Int), W2 = wr ∧ vl = .int .i64 v ∧ bkN n ≤ v ∧ v ≤ n ∧ HD w [(w2.heap.size, a, b, c), (w.heap.size, y, m, d)] W2) (fun vl _ => (intOf vl - bkN n).toNat)
  case atStart => exact ⟨_, n, rfl, rfl, b2, by omega, K5⟩
  case round =>
    obtain ⟨W2, v, rfl, rfl, v1, v2, KL⟩ := hrel
    clear K5
    by_cases hgo : 4 < v % 7
    · have hg : decide (4 < v % 7) = true := by simpa using hgo
      have hv : bkN n ≤ v - 1 := by
        unfold bkN at v1 b3 ⊢
        split at v1 <;> omega
      go_wp2
      go_roundw
      case rel => exact ⟨_, v - 1, rfl, rfl, hv, by omega, KL⟩
      case measure => simp [intOf]; omega
    · have hg : decide (4 < v % 7) = false := by simpa using hgo
      obtain rfl : v = bkN n := by
        unfold bkN at v1 b3 ⊢
        split at v1 <;> split <;> omega
      clear v1 v2 hgo
      have K50 := KL
      clear KL
      obtain ⟨y0, z0, x0⟩ := (K50.2.2 (w.heap.size, y, m, d) (by simp)).1
      obtain ⟨y1, z1, x1⟩ := (K50.2.2 (w2.heap.size, a, b, c) (by simp)).1
      go_wp2_with (fail)
      refine (hof _).mono ?_
      rintro e w6 ⟨rfl, hb⟩
      have K51 := K50.step hb
      clear hb K50
      clear y0 z0 x0 y1 z1 x1
      have K52 := K51.add a b c 23
      clear K51
      obtain ⟨y2, z2, x2⟩ := (K52.2.2 (w.heap.size, y, m, d) (by simp)).1
      obtain ⟨y3, z3, x3⟩ := (K52.2.2 (w2.heap.size, a, b, c) (by simp)).1
      obtain ⟨y4, z4, x4⟩ := (K52.2.2 (w6.heap.size, a, b, c) (by simp)).1
      go_wp2_with (fail)
      refine (hwd _).mono ?_
      rintro e w7 ⟨rfl, hb⟩
      have K53 := K52.step hb
      clear hb K52
      clear y2 z2 x2 y3 z3 x3 y4 z4 x4
      go_wp2_with (fail)
      refine (hto _).mono ?_
      rintro e w8 ⟨rfl, hb⟩
      have K54 := K53.step hb
      clear hb K53
      have K55 := K54.add 0 0 0 23
      clear K54
      have BE := K55.2.1
      go_wp2
      go_ret
      exact ⟨rfl, BE⟩
set_option maxHeartbeats 1000000 in
theorem works_in (y m d k : Int) (h : dayB y m d = true) (hk : -400 ≤ k) (hk' : k ≤ 400) (h0 : 0 ≤ num y m d + k) (h1 : num y m d + k < 109573) (w : World) (D : Door w) : Calls Tryd.prog 9 #[.agg #[.int .i64 y, .int .i64 m, .int .i64 d], .int .i64 k] w fun e w' => e = .returned (.bool true) ∧ Below w.heap.size w w' := by
  obtain ⟨_, _, n0, n1⟩ := num_bd h
  have hbk := back_yes y m d h
  have hrn := rnumber_yes y m d h
  have hwd := workday_yes y m d _ h rfl
  obtain ⟨b1, b2, b3, b4⟩ := bkN_bd (num y m d)
  have b5 := b4 n0
  clear b4
  have hof := rof_yes (bkN (num y m d)) b5 (by omega)
  have hto := rof_yes (num y m d + k) h0 h1
  obtain ⟨od, on⟩ := of_bd (num y m d + k) h0 h1
  obtain ⟨J, hJ0, hJ, hws⟩ : ∃ J, 0 ≤ J ∧ ((J = 0 ∧ k < 0) ∨ (J = k + 1 ∧ 0 ≤ k)) ∧ ∀ w, Calls Tryd.prog 32 #[.agg #[.int .i64 y, .int .i64 m, .int .i64 d], .agg #[.int .i64 (yOf (num y m d + k)), .int .i64 (mOf (num y m d + k)), .int .i64 (dOf (num y m d + k))]] w fun e w' => e = .returned (.tuple #[.int .i64 (wkc (num y m d) J), .int .i64 0]) ∧ Below w.heap.size w w' := by
    by_cases q : k < 0
    · refine ⟨0, by omega, .inl ⟨rfl, q⟩, ?_⟩
      rw [wkc_zero]
      exact workdays_ahead y m d _ _ _ h od (by rw [on]; omega)
    · refine ⟨k + 1, by omega, .inr ⟨rfl, by omega⟩, ?_⟩
      have := workdays_yes y m d _ _ _ h od (by rw [on]; omega)
      rw [on, show num y m d + k - num y m d + 1 = k + 1 by omega] at this
      exact this
  clear od on h
  generalize num y m d = n at *
  generalize yOf (bkN n) = a at *
  generalize mOf (bkN n) = b at *
  generalize dOf (bkN n) = c at *
  generalize yOf (n + k) = p at *
  generalize mOf (n + k) = q at *
  generalize dOf (n + k) = r at *
  have K0 := hd_box D y m d 23
  have hwx := workday_yes 2024 1 31 true (by decide) (by decide)
  go_enter Tryd.func9, Tryd.ntmps9
  go_wp2_with (fail)
  refine (days_any _ K0.1).mono ?_
  rintro e w1 ⟨rfl, hb⟩
  have K1 := K0.step hb
  clear hb K0
  go_wp2_with (fail)
  refine (hwx _).mono ?_
  rintro e w1a ⟨rfl, hb⟩
  have K2 := K1.step hb
  clear hb K1
  obtain ⟨y0, z0, x0⟩ := (K2.2.2 (w.heap.size, y, m, d) (by simp)).1
  go_wp2_with (fail)
  refine (hbk _).mono ?_
  rintro e w2 ⟨rfl, hb⟩
  have K3 := K2.step hb
  clear hb K2
  clear y0 z0 x0
  have K4 := K3.add a b c 23
  clear K3
  obtain ⟨y1, z1, x1⟩ := (K4.2.2 (w.heap.size, y, m, d) (by simp)).1
  go_wp2_with (fail)
  refine (hrn _).mono ?_
  rintro e w3 ⟨rfl, hb⟩
  have K5 := K4.step hb
  clear hb K4
  clear y1 z1 x1
  clear hbk hrn hwx
  go_wp2
  go_loopw [10] (fun vl wr => ∃ (W2 : World) (v : Int), W2 = wr ∧ vl = .int .i64 v ∧ bkN n ≤ v ∧ v ≤ n ∧ HD w [(w2.heap.size, a, b, c), (w.heap.size, y, m, d)] W2) (fun vl _ => (intOf vl - bkN n).toNat)
  case atStart => exact ⟨_, n, rfl, rfl, b2, by omega, K5⟩
  case round =>
    obtain ⟨W2, v, rfl, rfl, v1, v2, KL⟩ := hrel
    clear K5
    by_cases hgo : 4 < v % 7
    · have hg : decide (4 < v % 7) = true := by simpa using hgo
      have hv : bkN n ≤ v - 1 := by
        unfold bkN at v1 b3 ⊢
        split at v1 <;> omega
      go_wp2
      go_roundw
      case rel => exact ⟨_, v - 1, rfl, rfl, hv, by omega, KL⟩
      case measure => simp [intOf]; omega
    · have hg : decide (4 < v % 7) = false := by simpa using hgo
      obtain rfl : v = bkN n := by
        unfold bkN at v1 b3 ⊢
        split at v1 <;> split <;> omega
      clear v1 v2 hgo
      have K50 := KL
      clear KL
      obtain ⟨y0, z0, x0⟩ := (K50.2.2 (w.heap.size, y, m, d) (by simp)).1
      obtain ⟨y1, z1, x1⟩ := (K50.2.2 (w2.heap.size, a, b, c) (by simp)).1
      go_wp2_with (fail)
      refine (hof _).mono ?_
      rintro e w6 ⟨rfl, hb⟩
      have K51 := K50.step hb
      clear hb K50
      clear y0 z0 x0 y1 z1 x1
      have K52 := K51.add a b c 23
      clear K51
      obtain ⟨y2, z2, x2⟩ := (K52.2.2 (w.heap.size, y, m, d) (by simp)).1
      obtain ⟨y3, z3, x3⟩ := (K52.2.2 (w2.heap.size, a, b, c) (by simp)).1
      obtain ⟨y4, z4, x4⟩ := (K52.2.2 (w6.heap.size, a, b, c) (by simp)).1
      go_wp2_with (fail)
      refine (hwd _).mono ?_
      rintro e w7 ⟨rfl, hb⟩
      have K53 := K52.step hb
      clear hb K52
      clear y2 z2 x2 y3 z3 x3 y4 z4 x4
      go_wp2_with (fail)
      refine (hto _).mono ?_
      rintro e w8 ⟨rfl, hb⟩
      have K54 := K53.step hb
      clear hb K53
      have K55 := K54.add p q r 23
      clear K54
      clear hto hwd hof
      have WZ := wkc_zero n
      go_wp2
      go_loopw [15, 16] (fun vc vi wr => ∃ (W3 : World) (j c0 : Int), W3 = wr ∧ vc = .int .i64 c0 ∧ vi = .int .i64 (n + j) ∧ 0 ≤ j ∧ j ≤ J ∧ c0 = wkc n j ∧ 0 ≤ c0 ∧ c0 ≤ j ∧ HD w [(w8.heap.size, p, q, r), (w6.heap.size, a, b, c), (w2.heap.size, a, b, c), (w.heap.size, y, m, d)] W3) (fun _ vi _ => (n + J - intOf vi).toNat)
      case atStart => exact ⟨_, 0, 0, rfl, rfl, by simp, by omega, by omega, WZ.symm, by omega, by omega, K55⟩
      case round =>
        obtain ⟨W3, j, c0, rfl, rfl, rfl, j0, j1, hc0, c1, c2, KM⟩ := hrel
        clear K55
        have HC0 := Lib.hid hc0
        clear hc0
        by_cases hgo : j < J
        · have hg : decide (n + j ≤ n + k) = true := by simp; omega
          by_cases h5 : (n + j) % 7 < 5
          · have h5' : decide ((n + j) % 7 < 5) = true := by simpa using h5
            have HC := Lib.hid (wkc_yes h5)
            go_wp2
            go_roundw
            case rel => exact ⟨_, j + 1, c0 + 1, rfl, rfl, by rw [Int.add_assoc], by omega, by omega, by rw [HC.out, HC0.out], by omega, by omega, KM⟩
            case measure => simp [intOf]; omega
          · have h5' : decide ((n + j) % 7 < 5) = false := by simpa using h5
            have HC := Lib.hid (wkc_no h5)
            go_wp2
            go_roundw
            case rel => exact ⟨_, j + 1, c0, rfl, rfl, by rw [Int.add_assoc], by omega, by omega, by rw [HC.out, HC0.out], by omega, by omega, KM⟩
            case measure => simp [intOf]; omega
        · have hg : decide (n + j ≤ n + k) = false := by simp; omega
          obtain rfl : j = J := by omega
          rw [← HC0.out] at hws
          have K90 := KM
          clear KM HC0 j0 j1 hgo
          obtain ⟨y0, z0, x0⟩ := (K90.2.2 (w.heap.size, y, m, d) (by simp)).1
          obtain ⟨y1, z1, x1⟩ := (K90.2.2 (w8.heap.size, p, q, r) (by simp)).1
          go_wp2_with (fail)
          refine (hws _).mono ?_
          rintro e w9 ⟨rfl, hb⟩
          have K91 := K90.step hb
          clear hb K90
          clear y0 z0 x0 y1 z1 x1
          have BE := K91.2.1
          go_wp2
          go_ret
          exact ⟨rfl, BE⟩
theorem wDateWorks (y m d k : Int) (w : World) (D : Door w) : Calls Tryd.prog 9 #[.agg #[.int .i64 y, .int .i64 m, .int .i64 d], .int .i64 k] w fun e w' => e = .returned (.bool true) ∧ Below w.heap.size w w' := by
  cases h : dayB y m d
  · exact works_no y m d k h w D
  · by_cases hf : k < -400 ∨ 400 < k
    · exact works_far y m d k h hf w D
    · by_cases ho : num y m d + k < 0 ∨ 109573 ≤ num y m d + k
      · exact works_out y m d k h (by omega) (by omega) ho w D
      · exact works_in y m d k h (by omega) (by omega) (by omega) (by omega) w D
end Go.Proofs.YtkgfmanolanlhaaDoor
