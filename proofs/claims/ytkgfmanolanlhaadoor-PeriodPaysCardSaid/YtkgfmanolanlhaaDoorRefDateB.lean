/- What the document's own calls answer that tell days: Of. -/
import Derived.Test.YtkgfmanolanlhaaDoorRefDateA
namespace Go.Proofs.YtkgfmanolanlhaaDoor
open Go.RowKit
set_option linter.unusedVariables false
set_option linter.unusedSimpArgs false

theorem rof_neg (n : Int) (h : n < 0) (w : World) : Calls Tryd.prog 20 #[.int .i64 n] w fun e w' => e = .returned (.tuple #[.agg #[.int .i64 0, .int .i64 0, .int .i64 0], .bool false]) ∧ Below w.heap.size w w' := by
  go_enter Tryd.func20, Tryd.ntmps20
  go_wp2
  exact bodyPost_ret (v := .tuple #[.agg #[.int .i64 0, .int .i64 0, .int .i64 0], .bool false]) (by simp [results, Tryd.results20, go_sem]) rfl ⟨rfl, (Below.refl _ _).alloc (Nat.le_refl _) _⟩
set_option maxRecDepth 100000 in
set_option maxHeartbeats 1000000 in
theorem rof_far (n : Int) (h : 109573 ≤ n) (h' : n ≤ 9223372036854775807) (w : World) : Calls Tryd.prog 20 #[.int .i64 n] w fun e w' => e = .returned (.tuple #[.agg #[.int .i64 0, .int .i64 0, .int .i64 0], .bool false]) ∧ Below w.heap.size w w' := by
  have q1 : decide (n < 0) = false := by simp; omega
  go_enter Tryd.func20, Tryd.ntmps20
  go_wp2
  go_loop [0, 4] (fun l i => ∃ k : Int, 1900 ≤ k ∧ k ≤ 2200 ∧ i = .int .i64 k ∧ l = .int .i64 (n - ahd k)) (fun _ i => (2200 - intOf i).toNat)
  case atStart => exact ⟨1900, by omega, by omega, rfl, by rw [ahd_first]; simp⟩
  case round =>
    obtain ⟨k, hk, hk', rfl, rfl⟩ := hrel
    have hab := ahd_bd k (by omega) (by omega)
    have hlk := lp_01 k
    by_cases hlt : k < 2200
    · have HS := Lib.hid (ahd_succ k)
      have hm := ahd_mono (a := k + 1) (b := 2200) (by omega)
      rw [ahd_last, ahd_succ] at hm
      have hg := long_any k (by omega) (by omega)
      have hge : 365 + lp k ≤ n - ahd k := by omega
      generalize lp k = l at *
      generalize hu : n - ahd k = u at *
      have hub : u ≤ 9223372036854776172 := by omega
      have hub2 : u ≤ n + 365 := by omega
      have HU := Lib.hid hu
      have hux : u ≤ 9223372036854775807 := by
        have := HU.out
        rcases Int.lt_or_le k 1900 with h0 | h0
        · omega
        · have c := ahd_mono h0
          rw [ahd_first] at c
          omega
      clear hu hub hub2 hm
      go_wp2_with (fail)
      refine (hg _).mono ?_
      rintro e w' ⟨rfl, rfl⟩
      go_wp2_with (fail)
      refine (hg _).mono ?_
      rintro e w' ⟨rfl, rfl⟩
      go_wp2
      go_round
      case rel => exact ⟨k + 1, by omega, by omega, rfl, by rw [HS.out, show n - (ahd k + 365 + l) = u - (365 + l) by have := HU.out; omega]⟩
      case measure => simp [intOf]; omega
    · obtain rfl : k = 2200 := by omega
      go_wp2
      exact bodyPost_ret (v := .tuple #[.agg #[.int .i64 0, .int .i64 0, .int .i64 0], .bool false]) (by simp [results, Tryd.results20, go_sem]) rfl ⟨rfl, (Below.refl _ _).alloc (Nat.le_refl _) _⟩
set_option maxRecDepth 100000 in
set_option maxHeartbeats 1000000 in
theorem rof_yes (n : Int) (h : 0 ≤ n) (h' : n < 109573) (w : World) : Calls Tryd.prog 20 #[.int .i64 n] w fun e w' => e = .returned (.tuple #[.agg #[.int .i64 (yOf n), .int .i64 (mOf n), .int .i64 (dOf n)], .bool true]) ∧ Below w.heap.size w w' := by
  have q1 : decide (n < 0) = false := by simp; omega
  have D0 := day_new w 0 0 0 23
  have F0 := free_new w #[.int .i64 0, .int .i64 0, .int .i64 0] 23
  have B0 : Below w.heap.size w (w.alloc (.cells #[.int .i64 0, .int .i64 0, .int .i64 0] 23)) := (Below.refl _ _).alloc (Nat.le_refl _) _
  go_enter Tryd.func20, Tryd.ntmps20
  go_wp2
  have hz0 : w.heap.size < (w.alloc (.cells #[.int .i64 0, .int .i64 0, .int .i64 0] 23)).heap.size := by simp
  generalize w.alloc (.cells #[.int .i64 0, .int .i64 0, .int .i64 0] 23) = W0 at *
  go_loop [0, 4] (fun l i => ∃ k : Int, 1900 ≤ k ∧ k ≤ 2200 ∧ i = .int .i64 k ∧ l = .int .i64 (n - ahd k) ∧ ahd k ≤ n) (fun _ i => (2200 - intOf i).toNat)
  case atStart => exact ⟨1900, by omega, by omega, rfl, by rw [ahd_first]; simp, by rw [ahd_first]; omega⟩
  case round =>
    obtain ⟨k, hk, hk', rfl, rfl, hle⟩ := hrel
    have hk2 : k < 2200 := by
      rcases Int.lt_or_le k 2200 with h0 | h0
      · exact h0
      · have := ahd_mono h0
        rw [ahd_last] at this
        omega
    have hab := ahd_bd k (by omega) (by omega)
    have hlk := lp_01 k
    have hg := long_any k (by omega) (by omega)
    have hS := ahd_succ k
    by_cases hlt : ahd (k + 1) ≤ n
    · have hge : 365 + lp k ≤ n - ahd k := by omega
      have HS := Lib.hid hS
      have HL := Lib.hid hlt
      clear hS hlt
      generalize lp k = l at *
      generalize hu : n - ahd k = u at *
      have hub : u ≤ 110000 := by omega
      have HU := Lib.hid hu
      clear hu
      go_wp2_with (fail)
      refine (hg _).mono ?_
      rintro e w' ⟨rfl, rfl⟩
      go_wp2_with (fail)
      refine (hg _).mono ?_
      rintro e w' ⟨rfl, rfl⟩
      go_wp2
      go_round
      case rel => exact ⟨k + 1, by omega, by omega, rfl, by rw [HS.out, show n - (ahd k + 365 + l) = u - (365 + l) by have := HU.out; omega], HL.out⟩
      case measure => simp [intOf]; omega
    · have hlt2 : n < ahd (k + 1) := by omega
      have HY := Lib.hid (yOf_uniq h h' hle hlt2)
      have hr : n - ahd k < 365 + lp k := by omega
      have H13 := Lib.hid (cum_13 k)
      have hr0 : 0 ≤ n - ahd k := by omega
      clear hlt hlt2 hS
      go_wp2_with (fail)
      refine (hg _).mono ?_
      rintro e w' ⟨rfl, rfl⟩
      go_wp2
      go_loopw [0, 5] (fun l i wr => ∃ j : Nat, j ≤ 11 ∧ i = .int .i64 ((j : Int) + 1) ∧ l = .int .i64 (n - ahd k - cum k ((j : Int) + 1)) ∧ 0 ≤ n - ahd k - cum k ((j : Int) + 1) ∧ Below w.heap.size w wr ∧ Day wr w.heap.size 0 0 0 ∧ Free wr w.heap.size ∧ w.heap.size < wr.heap.size) (fun _ i _ => (13 - intOf i).toNat)
      case atStart => exact ⟨0, by omega, rfl, by rw [show ((0 : Nat) : Int) + 1 = 1 from rfl, cum_one]; simp, by rw [show ((0 : Nat) : Int) + 1 = 1 from rfl, cum_one]; omega, B0, D0, F0, hz0⟩
      case round =>
        obtain ⟨j, hj, rfl, rfl, hl0, hBw, hD, hF, hzw⟩ := hrel
        have hu := ml_bd k ((j : Int) + 1)
        have hcu := cum_bd k ((j : Int) + 1) (by omega) (by omega)
        have hmo := month_any k ((j : Int) + 1)
        rw [show lastM k ((j : Int) + 1) = ml k ((j : Int) + 1) by unfold lastM; rw [if_pos (by omega)]] at hmo
        clear D0 F0 B0 hz0
        by_cases hlt : ml k ((j : Int) + 1) ≤ n - ahd k - cum k ((j : Int) + 1)
        · have hj2 : j < 11 := by
            rcases Nat.lt_or_ge j 11 with h11 | h11
            · exact h11
            · obtain rfl : j = 11 := by omega
              have hs := cum_succ k 12 (by omega) (by omega)
              have h13 := H13.out
              rw [show (12 : Int) + 1 = 13 from rfl] at hs
              rw [show ((11 : Nat) : Int) + 1 = 12 from rfl] at hlt
              omega
          have HS := Lib.hid (cum_succ k ((j : Int) + 1) (by omega) (by omega))
          generalize ml k ((j : Int) + 1) = u at *
          generalize cum k ((j : Int) + 1) = c at *
          generalize hLL : n - ahd k - c = L at *
          have hLb : L ≤ 800 := by omega
          have HLL := Lib.hid hLL
          clear hLL
          go_wp2_with (fail)
          refine (hmo _).mono ?_
          rintro e w3 ⟨rfl, hb⟩
          have hD3 := hD.below hb hzw
          have hF3 := hF.below hb hzw
          have hB3 := below_step hBw hb (by omega)
          have hz3 : w.heap.size < w3.heap.size := by have := hb.size; omega
          clear hb hD hF hBw hzw
          go_wp2_with (fail)
          refine (hmo _).mono ?_
          rintro e w4 ⟨rfl, hb⟩
          have hD4 := hD3.below hb hz3
          have hF4 := hF3.below hb hz3
          have hB4 := below_step hB3 hb (by omega)
          have hz4 : w.heap.size < w4.heap.size := by have := hb.size; omega
          clear hb hD3 hF3 hB3 hz3
          go_wp2
          go_roundw
          case rel => exact ⟨j + 1, by omega, by go_num, by rw [show (((j + 1 : Nat) : Int) + 1) = (j : Int) + 1 + 1 by omega, HS.out]; have := HLL.out; go_num, by rw [show (((j + 1 : Nat) : Int) + 1) = (j : Int) + 1 + 1 by omega, HS.out]; have := HLL.out; omega, hB4, hD4, hF4, hz4⟩
          case measure => simp [intOf]; omega
        · have he := of_end j HY.out hj hl0 (by omega)
          have E1 := Lib.hid he.1
          have E2 := Lib.hid he.2
          have E3 := Lib.hid HY.out
          clear he
          generalize ml k ((j : Int) + 1) = u at *
          generalize hLL : n - ahd k - cum k ((j : Int) + 1) = L at *
          have hLb : L ≤ 800 := by omega
          clear hLL
          go_wp2_with (fail)
          refine (hmo _).mono ?_
          rintro e w3 ⟨rfl, hb⟩
          obtain ⟨r0, r1, r2⟩ := hD.below hb hzw
          obtain ⟨f0, f1, f2⟩ := hF.below hb hzw
          have hB3 := below_step hBw hb (by omega)
          have hz3 : w.heap.size < w3.heap.size := by have := hb.size; omega
          clear hb hD hF hBw hzw
          go_wp2
          exact bodyPost_ret (v := .tuple #[.agg #[.int .i64 k, .int .i64 ((j : Int) + 1), .int .i64 (L + 1)], .bool true]) (by simp [results, Tryd.results20, go_sem, r0, r1, r2]) rfl ⟨by rw [E1.out, E2.out, E3.out], ((hB3.setCell (Nat.le_refl _) _).setCell (Nat.le_refl _) _).setCell (Nat.le_refl _) _⟩
end Go.Proofs.YtkgfmanolanlhaaDoor
