/- What the calls of date answer that count days: leaps, ahead, Number, Of, Weekday, Add. -/
import Derived.Test.YtkgfmanolanlhaaDoorDateA
import Derived.Lib.Walk
import Derived.Laws.Slices
namespace Go.Proofs.YtkgfmanolanlhaaDoor
open Go.RowKit
set_option linter.unusedVariables false
set_option linter.unusedSimpArgs false

/-- a day's place may be written -/
def Free (w : World) (b : Nat) : Prop := w.frozen? ⟨b, 0, none⟩ = false ∧ w.frozen? ⟨b, 1, none⟩ = false ∧ w.frozen? ⟨b, 2, none⟩ = false
theorem Free.below {B : Nat} {w w' : World} {b : Nat} (h : Free w b) (hb : Below B w w') (hB : b < B) : Free w' b :=
  ⟨(hb.frozen (p := ⟨b, 0, none⟩) hB).trans h.1, (hb.frozen (p := ⟨b, 1, none⟩) hB).trans h.2.1, (hb.frozen (p := ⟨b, 2, none⟩) hB).trans h.2.2⟩
theorem free_new (w : World) (c : Array Value) (t : TypeId) : Free (w.alloc (.cells c t)) w.heap.size := ⟨World.frozen?_alloc_new _ _ _ _, World.frozen?_alloc_new _ _ _ _, World.frozen?_alloc_new _ _ _ _⟩

theorem leaps_any (y : Int) (h : 0 ≤ y) (h' : y ≤ 9999) (w : World) : Calls Tryd.prog 61 #[.int .i64 y] w fun e w' => e = .returned (.int .i64 (lps y)) ∧ w = w' := by
  go_enter Tryd.func61, Tryd.ntmps61
  go_wp2
  go_ret
  exact ⟨ret_i (by unfold lps; omega), rfl⟩
theorem ahead_any (y : Int) (h : 1 ≤ y) (h' : y ≤ 9999) (w : World) : Calls Tryd.prog 42 #[.int .i64 y] w fun e w' => e = .returned (.int .i64 (ahd y)) ∧ w = w' := by
  have b1 : 0 ≤ lps (y - 1) ∧ lps (y - 1) ≤ 9999 := by unfold lps; omega
  have b2 : lps 1899 = 460 := by decide
  have hc := fun w => leaps_any (y - 1) (by omega) (by omega) w
  have hd := fun w => leaps_any 1899 (by omega) (by omega) w
  have e : ahd y = 365 * (y - 1900) + lps (y - 1) - 460 := rfl
  rw [b2] at hd
  rw [e]
  clear e b2
  generalize lps (y - 1) = u at *
  obtain ⟨b1, b1'⟩ := b1
  go_enter Tryd.func42, Tryd.ntmps42
  go_wp2_with (fail)
  refine (hc _).mono ?_
  rintro e w' ⟨rfl, rfl⟩
  go_wp2_with (fail)
  refine (hd _).mono ?_
  rintro e w' ⟨rfl, rfl⟩
  go_wp2
  go_ret
  exact ⟨ret_i (by omega), rfl⟩
theorem ahead_same (y : Int) (h : 1 ≤ y) (h' : y ≤ 9999) (w : World) : Calls Tryd.prog 42 #[.int .i64 y] w fun e w' => e = .returned (.int .i64 (ahd y)) ∧ w' = w :=
  (ahead_any y h h' w).mono fun _ _ h => ⟨h.1, h.2.symm⟩

theorem mls_at (y : Int) (k : Nat) (hk : k < 12) : (mls y)[k]? = some (.int .i64 (ml y (k + 1))) := by
  have : k = 0 ∨ k = 1 ∨ k = 2 ∨ k = 3 ∨ k = 4 ∨ k = 5 ∨ k = 6 ∨ k = 7 ∨ k = 8 ∨ k = 9 ∨ k = 10 ∨ k = 11 := by omega
  rcases this with rfl | rfl | rfl | rfl | rfl | rfl | rfl | rfl | rfl | rfl | rfl | rfl <;> simp [mls, ml]
theorem mls_cell (w : World) (y : Int) (t : TypeId) (k : Nat) (hk : k < 12) : (w.alloc (.cells (mls y) t)).cell? ⟨w.heap.size, k, none⟩ = some (.int .i64 (ml y (k + 1))) := by
  rw [World.cell?_alloc_new]
  exact mls_at y k hk

theorem number_no (y m d : Int) (h : dayB y m d = false) (w : World) : Calls Tryd.prog 12 #[.agg #[.int .i64 y, .int .i64 m, .int .i64 d]] w fun e w' => e = .returned (.tuple #[.int .i64 0, .int .i64 30]) ∧ Below w.heap.size w w' := by
  have hc := right_b y m d false h
  clear h
  go_enter Tryd.func12, Tryd.ntmps12
  go_wp2_with (fail)
  refine (hc _).mono ?_
  rintro e w' ⟨rfl, hb⟩
  go_wp2
  go_ret2
  exact ⟨rfl, below_step ((Below.refl _ _).alloc (Nat.le_refl _) _) hb (by simp)⟩

set_option maxRecDepth 100000 in
theorem number_yes (y m d : Int) (h : dayB y m d = true) (w : World) : Calls Tryd.prog 12 #[.agg #[.int .i64 y, .int .i64 m, .int .i64 d]] w fun e w' => e = .returned (.tuple #[.int .i64 (num y m d), .int .i64 0]) ∧ Below w.heap.size w w' := by
  have hc := right_b y m d true h
  obtain ⟨h1, h2, h3, h4, h5, h6⟩ := dayB_yes h
  obtain ⟨n1, n2, n3, n4⟩ := num_bd h
  have hm := ml_bd y m
  have hcm := cum_bd y m h3 h4
  have hlp := lp_01 y
  have ha := ahead_same y (by omega) (by omega)
  have hl := lengths_any y (by omega) (by omega)
  unfold mls at hl
  have ab : 0 ≤ ahd y ∧ ahd y ≤ 109573 := by
    have c := ahd_mono h1
    have d := ahd_mono (a := y + 1) (b := 2200) (by omega)
    have b := ahd_succ y
    rw [ahd_first] at c
    rw [ahd_last] at d
    omega
  obtain ⟨ab, ab'⟩ := ab
  have hday := day_new w y m d 23
  have v1 : wrap64 (ahd y + d) = ahd y + d := IntWalk.wrap64_in _ (by omega)
  have v2 : wrap64 (ahd y + d - 1) = ahd y + d - 1 := IntWalk.wrap64_in _ (by omega)
  clear h
  go_enter Tryd.func12, Tryd.ntmps12
  go_wp2_with (fail)
  refine (hc _).mono ?_
  rintro e w1 ⟨rfl, hb⟩
  obtain ⟨c0, c1, c2⟩ := Day.below hday hb (by simp)
  clear hday
  have hz1 : w.heap.size < w1.heap.size := by have := hb.size; simp at this; omega
  have hB1 : Below w.heap.size w w1 := below_step ((Below.refl _ _).alloc (Nat.le_refl _) _) hb (by simp)
  clear hb
  go_wp2
  go_quiet ((go_at_call 42; exact Calls.quiet_of_same (ha _)))
  go_wp2_with (fail)
  refine (hl _).mono ?_
  rintro e w2 ⟨rfl, hb2⟩
  obtain ⟨c0, c1, c2⟩ := Day.below (w := w1) ⟨c0, c1, c2⟩ (B := w1.heap.size) ⟨hb2.os, hb2.tape, hb2.output, hb2.size, hb2.block⟩ hz1
  have hz2 : w.heap.size < w2.heap.size := by have := hb2.size; simp at this; omega
  have hB2 : Below w.heap.size w w2 := hB1.trans ((show Below w1.heap.size w1 w2 from ⟨hb2.os, hb2.tape, hb2.output, hb2.size, hb2.block⟩).mono (by omega))
  clear hb2 hB1
  have hal : Tryd.prog.arrayLen 56 = 12 := by kernel_rfl
  have hsl : ∀ W, (Instr.sliceAt 56 (.pointer (some ⟨w2.heap.size, 0, none⟩)) none (some (.int .i64 (m - 1))) none).run Tryd.prog W = .ok (.slice (some ⟨w2.heap.size, 0, none⟩) (m - 1).toNat 12) W := fun W => by
    rw [run_sliceAt_array_h W 56 ⟨w2.heap.size, 0, none⟩ (by simp [Program.arrayLen, Program.elem, Tryd.underlying56]) .i64 (m - 1) (by omega) (by rw [hal]; omega)]
    go_simp
  clear hal
  have hcell := mls_cell w2 y 56
  unfold mls at hcell
  have HC := Lib.hid hcell
  clear hcell
  go_wp2_with (fail)
  try simp only [v1, v2]
  obtain ⟨K, hK⟩ : ∃ K : Nat, m.toNat - 1 = K := ⟨_, rfl⟩
  have hKm : (K : Int) = m - 1 := by omega
  rw [hK]
  have hB3 : Below w.heap.size w (w2.alloc (.cells #[.int .i64 31, .int .i64 (28 + lp y), .int .i64 31, .int .i64 30, .int .i64 31, .int .i64 30, .int .i64 31, .int .i64 31, .int .i64 30, .int .i64 31, .int .i64 30, .int .i64 31] 56)) := hB2.alloc (by omega) _
  generalize w2.alloc (.cells #[.int .i64 31, .int .i64 (28 + lp y), .int .i64 31, .int .i64 30, .int .i64 31, .int .i64 30, .int .i64 31, .int .i64 31, .int .i64 30, .int .i64 31, .int .i64 30, .int .i64 31] 56) = W3 at HC hB3 ⊢
  clear hsl hK hB2 hl ha hc v1 v2
  go_loop [4, 26] (fun n i => ∃ k : Nat, k ≤ K ∧ i = .int .i64 k ∧ n = .int .i64 (ahd y + d - 1 + cum y ((k : Int) + 1))) (fun _ i => K - (intOf i).toNat)
  case atStart => exact ⟨0, Nat.zero_le _, rfl, by rw [show ((0 : Nat) : Int) + 1 = 1 from rfl, cum_one]; simp⟩
  case round =>
    obtain ⟨k, hk, rfl, rfl⟩ := hrel
    by_cases hlt : k < K
    · have hck := HC.out k (by omega)
      have hu := ml_bd y ((k : Int) + 1)
      have hcu := cum_bd y ((k : Int) + 1) (by omega) (by omega)
      have HS := Lib.hid (cum_succ y ((k : Int) + 1) (by omega) (by omega))
      generalize ml y ((k : Int) + 1) = u at *
      generalize cum y ((k : Int) + 1) = c at *
      go_wp2
      go_round
      case rel => exact ⟨k + 1, by omega, by go_num, by rw [show (((k + 1 : Nat) : Int) + 1) = (k : Int) + 1 + 1 by omega, HS.out]; go_num⟩
      case measure => simp [intOf]; omega
    · obtain rfl : k = K := by omega
      go_wp2
      go_ret2
      exact ⟨ret_ii (by unfold num; omega) rfl, hB3⟩

theorem number_any (y m d : Int) (w : World) : Calls Tryd.prog 12 #[.agg #[.int .i64 y, .int .i64 m, .int .i64 d]] w fun e w' => e = .returned (.tuple #[.int .i64 (if dayB y m d = true then num y m d else 0), .int .i64 (if dayB y m d = true then 0 else 30)]) ∧ Below w.heap.size w w' := by
  cases h : dayB y m d
  · exact number_no y m d h w
  · exact number_yes y m d h w

theorem of_no (n : Int) (h : n < 0 ∨ 109573 ≤ n) (w : World) : Calls Tryd.prog 19 #[.int .i64 n] w fun e w' => e = .returned (.tuple #[.agg #[.int .i64 0, .int .i64 0, .int .i64 0], .int .i64 30]) ∧ Below w.heap.size w w' := by
  rcases h with h | h
  · go_enter Tryd.func19, Tryd.ntmps19
    go_wp2
    exact bodyPost_ret (v := .tuple #[.agg #[.int .i64 0, .int .i64 0, .int .i64 0], .int .i64 30]) (by simp [results, Tryd.results19, go_sem]) rfl ⟨rfl, (Below.refl _ _).alloc (Nat.le_refl _) _⟩
  · have h' : ¬ n < 0 := by omega
    go_enter Tryd.func19, Tryd.ntmps19
    go_wp2
    exact bodyPost_ret (v := .tuple #[.agg #[.int .i64 0, .int .i64 0, .int .i64 0], .int .i64 30]) (by simp [results, Tryd.results19, go_sem]) rfl ⟨rfl, (Below.refl _ _).alloc (Nat.le_refl _) _⟩
/-- what the walk along the months ends with -/
theorem of_end {n Y : Int} (k : Nat) (hY : yOf n = Y) (hk : k ≤ 11) (h0 : 0 ≤ n - ahd Y - cum Y ((k : Int) + 1)) (h1 : n - ahd Y - cum Y ((k : Int) + 1) < ml Y ((k : Int) + 1)) : mOf n = (k : Int) + 1 ∧ dOf n = n - ahd Y - cum Y ((k : Int) + 1) + 1 := by
  have hs := cum_succ Y ((k : Int) + 1) (by omega) (by omega)
  have e : mOf n = (k : Int) + 1 := by
    unfold mOf
    rw [hY]
    exact mIn_uniq (by omega) (by omega) (by omega) (by omega)
  refine ⟨e, ?_⟩
  unfold dOf
  rw [e, hY]
theorem ahd_bd (y : Int) (h : 1899 ≤ y) (h' : y ≤ 2201) : -365 ≤ ahd y ∧ ahd y ≤ 109999 := by
  unfold ahd lps
  omega
set_option maxRecDepth 100000 in
set_option maxHeartbeats 1000000 in
theorem of_yes (n : Int) (h : 0 ≤ n) (h' : n < 109573) (w : World) : Calls Tryd.prog 19 #[.int .i64 n] w fun e w' => e = .returned (.tuple #[.agg #[.int .i64 (yOf n), .int .i64 (mOf n), .int .i64 (dOf n)], .int .i64 0]) ∧ Below w.heap.size w w' := by
  obtain ⟨y1, y2, y3, y4⟩ := yOf_bd n h h'
  have hg1 := ahd_bd (1900 + n / 365) (by omega) (by omega)
  have q1 : decide (n < 0) = false := by simpa using h
  have q2 : decide (109573 ≤ n) = false := by simpa using h'
  have ha := ahead_any (1900 + n / 365) (by omega) (by omega)
  by_cases hc : n < ahd (1900 + n / 365)
  · have hY : yOf n = 1900 + n / 365 - 1 := by unfold yOf; rw [if_pos hc]; omega
    rw [hY] at y1 y2 y3 y4
    have q3 : decide (n < ahd (1900 + n / 365)) = true := by simpa using hc
    have hg2 := ahd_bd (1900 + n / 365 - 1) (by omega) (by omega)
    have hb := ahead_any (1900 + n / 365 - 1) (by omega) (by omega)
    have hl := lengths_any (1900 + n / 365 - 1) (by omega) (by omega)
    have HA := Lib.hid (ahd_succ (1900 + n / 365 - 1))
    have HY := Lib.hid hY
    clear hY
    unfold mls at hl
    go_enter Tryd.func19, Tryd.ntmps19
    go_wp2_with (fail)
    refine (ha _).mono ?_
    rintro e w' ⟨rfl, rfl⟩
    go_wp2_with (fail)
    refine (hb _).mono ?_
    rintro e w' ⟨rfl, rfl⟩
    go_wp2_with (fail)
    refine (hl _).mono ?_
    rintro e w2 ⟨rfl, hb2⟩
    clear ha hb hl hg1 hc
    generalize 1900 + n / 365 - 1 = Y at *
    have hz2 : w.heap.size < w2.heap.size := by have := hb2.size; simp at this; omega
    have hB2 : Below w.heap.size w w2 := below_step ((Below.refl _ _).alloc (Nat.le_refl _) _) hb2 (by simp)
    have hres : w2.cell? ⟨w.heap.size, 0, none⟩ = some (.int .i64 0) ∧ w2.cell? ⟨w.heap.size, 1, none⟩ = some (.int .i64 0) ∧ w2.cell? ⟨w.heap.size, 2, none⟩ = some (.int .i64 0) := Day.below (day_new w 0 0 0 23) hb2 (by simp)
    have hres3 : Day (w2.alloc (.cells #[.int .i64 31, .int .i64 (28 + lp Y), .int .i64 31, .int .i64 30, .int .i64 31, .int .i64 30, .int .i64 31, .int .i64 31, .int .i64 30, .int .i64 31, .int .i64 30, .int .i64 31] 56)) w.heap.size 0 0 0 := Day.below hres ((Below.refl _ _).alloc (Nat.le_refl _) _) hz2
    have hfr3 : Free (w2.alloc (.cells #[.int .i64 31, .int .i64 (28 + lp Y), .int .i64 31, .int .i64 30, .int .i64 31, .int .i64 30, .int .i64 31, .int .i64 31, .int .i64 30, .int .i64 31, .int .i64 30, .int .i64 31] 56)) w.heap.size := Free.below (Free.below (free_new w #[.int .i64 0, .int .i64 0, .int .i64 0] 23) hb2 (by simp)) ((Below.refl _ _).alloc (Nat.le_refl _) _) hz2
    clear hb2 hres
    have hcell := mls_cell w2 Y 56
    unfold mls at hcell
    have HC := Lib.hid hcell
    clear hcell
    have hB3 : Below w.heap.size w (w2.alloc (.cells #[.int .i64 31, .int .i64 (28 + lp Y), .int .i64 31, .int .i64 30, .int .i64 31, .int .i64 30, .int .i64 31, .int .i64 31, .int .i64 30, .int .i64 31, .int .i64 30, .int .i64 31] 56)) := hB2.alloc (by omega) _
    go_wp2_with (fail)
    generalize w2.alloc (.cells #[.int .i64 31, .int .i64 (28 + lp Y), .int .i64 31, .int .i64 30, .int .i64 31, .int .i64 30, .int .i64 31, .int .i64 31, .int .i64 30, .int .i64 31, .int .i64 30, .int .i64 31] 56) = W3 at HC hB3 hres3 hfr3 ⊢
    generalize w2.heap.size = B2 at *
    have hsz := hB3.size
    clear hB2
    obtain ⟨r0, r1, r2⟩ := hres3
    obtain ⟨f0, f1, f2⟩ := hfr3
    have hl1 := cum_13 Y
    have hlp := lp_01 Y
    have HL := Lib.hid hl1
    have HA2 := HA.out
    have hr1 : n - ahd Y < 365 + lp Y := by omega
    have hr0 : 0 ≤ n - ahd Y := by omega
    clear HA HA2 hl1
    go_loop [5, 7] (fun l i => ∃ k : Nat, k ≤ 11 ∧ i = .int .i64 k ∧ l = .int .i64 (n - ahd Y - cum Y ((k : Int) + 1)) ∧ 0 ≤ n - ahd Y - cum Y ((k : Int) + 1)) (fun _ i => 12 - (intOf i).toNat)
    case atStart => exact ⟨0, by omega, rfl, by rw [show ((0 : Nat) : Int) + 1 = 1 from rfl, cum_one]; simp, by rw [show ((0 : Nat) : Int) + 1 = 1 from rfl, cum_one]; omega⟩
    case round =>
      obtain ⟨k, hk, rfl, rfl, hl0⟩ := hrel
      have hck := HC.out k (by omega)
      have hu := ml_bd Y ((k : Int) + 1)
      have hcu := cum_bd Y ((k : Int) + 1) (by omega) (by omega)
      by_cases hlt : ml Y ((k : Int) + 1) ≤ n - ahd Y - cum Y ((k : Int) + 1)
      · have hk2 : k < 11 := by
          rcases Nat.lt_or_ge k 11 with h11 | h11
          · exact h11
          · obtain rfl : k = 11 := by omega
            have hs := cum_succ Y 12 (by omega) (by omega)
            have h13 := HL.out
            rw [show (12 : Int) + 1 = 13 from rfl] at hs
            rw [show ((11 : Nat) : Int) + 1 = 12 from rfl] at hlt
            omega
        have HS := Lib.hid (cum_succ Y ((k : Int) + 1) (by omega) (by omega))
        generalize ml Y ((k : Int) + 1) = u at *
        generalize cum Y ((k : Int) + 1) = c at *
        generalize hLL : n - ahd Y - c = L at *
        have hLb : L ≤ 800 := by omega
        have HLL := Lib.hid hLL
        clear hLL
        go_wp2
        go_round
        case rel => exact ⟨k + 1, by omega, by go_num, by rw [show (((k + 1 : Nat) : Int) + 1) = (k : Int) + 1 + 1 by omega, HS.out]; have := HLL.out; go_num, by rw [show (((k + 1 : Nat) : Int) + 1) = (k : Int) + 1 + 1 by omega, HS.out]; have := HLL.out; omega⟩
        case measure => simp [intOf]; omega
      · have he := of_end k HY.out hk hl0 (by omega)
        have hyo := HY.out
        have E1 := Lib.hid he.1
        have E2 := Lib.hid he.2
        have E3 := Lib.hid hyo
        clear he hyo
        generalize ml Y ((k : Int) + 1) = u at *
        generalize hLL : n - ahd Y - cum Y ((k : Int) + 1) = L at *
        have hLb : L ≤ 800 := by omega
        clear hLL
        go_wp2
        exact bodyPost_ret (v := .tuple #[.agg #[.int .i64 Y, .int .i64 ((k : Int) + 1), .int .i64 (L + 1)], .int .i64 0]) (by simp [results, Tryd.results19, go_sem, r0, r1, r2]) rfl ⟨by rw [E1.out, E2.out, E3.out], ((hB3.setCell (Nat.le_refl _) _).setCell (Nat.le_refl _) _).setCell (Nat.le_refl _) _⟩
  · have hY : yOf n = 1900 + n / 365 := by unfold yOf; rw [if_neg hc]
    rw [hY] at y1 y2 y3 y4
    have q3 : decide (n < ahd (1900 + n / 365)) = false := by simpa using hc
    have hg2 := hg1
    have hl := lengths_any (1900 + n / 365) (by omega) (by omega)
    have HA := Lib.hid (ahd_succ (1900 + n / 365))
    have HY := Lib.hid hY
    clear hY
    unfold mls at hl
    go_enter Tryd.func19, Tryd.ntmps19
    go_wp2_with (fail)
    refine (ha _).mono ?_
    rintro e w' ⟨rfl, rfl⟩
    go_wp2_with (fail)
    refine (ha _).mono ?_
    rintro e w' ⟨rfl, rfl⟩
    go_wp2_with (fail)
    refine (hl _).mono ?_
    rintro e w2 ⟨rfl, hb2⟩
    clear ha hl hg1 hc
    generalize 1900 + n / 365 = Y at *
    have hz2 : w.heap.size < w2.heap.size := by have := hb2.size; simp at this; omega
    have hB2 : Below w.heap.size w w2 := below_step ((Below.refl _ _).alloc (Nat.le_refl _) _) hb2 (by simp)
    have hres : w2.cell? ⟨w.heap.size, 0, none⟩ = some (.int .i64 0) ∧ w2.cell? ⟨w.heap.size, 1, none⟩ = some (.int .i64 0) ∧ w2.cell? ⟨w.heap.size, 2, none⟩ = some (.int .i64 0) := Day.below (day_new w 0 0 0 23) hb2 (by simp)
    have hres3 : Day (w2.alloc (.cells #[.int .i64 31, .int .i64 (28 + lp Y), .int .i64 31, .int .i64 30, .int .i64 31, .int .i64 30, .int .i64 31, .int .i64 31, .int .i64 30, .int .i64 31, .int .i64 30, .int .i64 31] 56)) w.heap.size 0 0 0 := Day.below hres ((Below.refl _ _).alloc (Nat.le_refl _) _) hz2
    have hfr3 : Free (w2.alloc (.cells #[.int .i64 31, .int .i64 (28 + lp Y), .int .i64 31, .int .i64 30, .int .i64 31, .int .i64 30, .int .i64 31, .int .i64 31, .int .i64 30, .int .i64 31, .int .i64 30, .int .i64 31] 56)) w.heap.size := Free.below (Free.below (free_new w #[.int .i64 0, .int .i64 0, .int .i64 0] 23) hb2 (by simp)) ((Below.refl _ _).alloc (Nat.le_refl _) _) hz2
    clear hb2 hres
    have hcell := mls_cell w2 Y 56
    unfold mls at hcell
    have HC := Lib.hid hcell
    clear hcell
    have hB3 : Below w.heap.size w (w2.alloc (.cells #[.int .i64 31, .int .i64 (28 + lp Y), .int .i64 31, .int .i64 30, .int .i64 31, .int .i64 30, .int .i64 31, .int .i64 31, .int .i64 30, .int .i64 31, .int .i64 30, .int .i64 31] 56)) := hB2.alloc (by omega) _
    go_wp2_with (fail)
    generalize w2.alloc (.cells #[.int .i64 31, .int .i64 (28 + lp Y), .int .i64 31, .int .i64 30, .int .i64 31, .int .i64 30, .int .i64 31, .int .i64 31, .int .i64 30, .int .i64 31, .int .i64 30, .int .i64 31] 56) = W3 at HC hB3 hres3 hfr3 ⊢
    generalize w2.heap.size = B2 at *
    have hsz := hB3.size
    clear hB2
    obtain ⟨r0, r1, r2⟩ := hres3
    obtain ⟨f0, f1, f2⟩ := hfr3
    have hl1 := cum_13 Y
    have hlp := lp_01 Y
    have HL := Lib.hid hl1
    have HA2 := HA.out
    have hr1 : n - ahd Y < 365 + lp Y := by omega
    have hr0 : 0 ≤ n - ahd Y := by omega
    clear HA HA2 hl1
    go_loop [5, 7] (fun l i => ∃ k : Nat, k ≤ 11 ∧ i = .int .i64 k ∧ l = .int .i64 (n - ahd Y - cum Y ((k : Int) + 1)) ∧ 0 ≤ n - ahd Y - cum Y ((k : Int) + 1)) (fun _ i => 12 - (intOf i).toNat)
    case atStart => exact ⟨0, by omega, rfl, by rw [show ((0 : Nat) : Int) + 1 = 1 from rfl, cum_one]; simp, by rw [show ((0 : Nat) : Int) + 1 = 1 from rfl, cum_one]; omega⟩
    case round =>
      obtain ⟨k, hk, rfl, rfl, hl0⟩ := hrel
      have hck := HC.out k (by omega)
      have hu := ml_bd Y ((k : Int) + 1)
      have hcu := cum_bd Y ((k : Int) + 1) (by omega) (by omega)
      by_cases hlt : ml Y ((k : Int) + 1) ≤ n - ahd Y - cum Y ((k : Int) + 1)
      · have hk2 : k < 11 := by
          rcases Nat.lt_or_ge k 11 with h11 | h11
          · exact h11
          · obtain rfl : k = 11 := by omega
            have hs := cum_succ Y 12 (by omega) (by omega)
            have h13 := HL.out
            rw [show (12 : Int) + 1 = 13 from rfl] at hs
            rw [show ((11 : Nat) : Int) + 1 = 12 from rfl] at hlt
            omega
        have HS := Lib.hid (cum_succ Y ((k : Int) + 1) (by omega) (by omega))
        generalize ml Y ((k : Int) + 1) = u at *
        generalize cum Y ((k : Int) + 1) = c at *
        generalize hLL : n - ahd Y - c = L at *
        have hLb : L ≤ 800 := by omega
        have HLL := Lib.hid hLL
        clear hLL
        go_wp2
        go_round
        case rel => exact ⟨k + 1, by omega, by go_num, by rw [show (((k + 1 : Nat) : Int) + 1) = (k : Int) + 1 + 1 by omega, HS.out]; have := HLL.out; go_num, by rw [show (((k + 1 : Nat) : Int) + 1) = (k : Int) + 1 + 1 by omega, HS.out]; have := HLL.out; omega⟩
        case measure => simp [intOf]; omega
      · have he := of_end k HY.out hk hl0 (by omega)
        have hyo := HY.out
        have E1 := Lib.hid he.1
        have E2 := Lib.hid he.2
        have E3 := Lib.hid hyo
        clear he hyo
        generalize ml Y ((k : Int) + 1) = u at *
        generalize hLL : n - ahd Y - cum Y ((k : Int) + 1) = L at *
        have hLb : L ≤ 800 := by omega
        clear hLL
        go_wp2
        exact bodyPost_ret (v := .tuple #[.agg #[.int .i64 Y, .int .i64 ((k : Int) + 1), .int .i64 (L + 1)], .int .i64 0]) (by simp [results, Tryd.results19, go_sem, r0, r1, r2]) rfl ⟨by rw [E1.out, E2.out, E3.out], ((hB3.setCell (Nat.le_refl _) _).setCell (Nat.le_refl _) _).setCell (Nat.le_refl _) _⟩
end Go.Proofs.YtkgfmanolanlhaaDoor
