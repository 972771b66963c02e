/- The walk of the law OrderChecks. -/
import Derived.Test.YthknjpmhomjobaaGreatDoorBkS
import Derived.Test.YthknjpmhomjobaaGreatDoorOwr
import Derived.Test.YthknjpmhomjobaaGreatDoorWds
namespace Go.Proofs.YthknjpmhomjobaaGreatDoor
open Go.RowKit Go.Sort
set_option linter.unusedVariables false
set_option linter.unusedSimpArgs false

set_option maxRecDepth 100000 in
set_option maxHeartbeats 8000000 in
theorem wOrderChecks (i p a r t : Int) (W : World) (hT : Tab W) :
    Calls Tryz.prog 3 #[.agg #[.int .i64 i, .int .i64 p, .int .i64 a, .int .i64 r, .int .i64 t]] W fun e w' => e = .returned (.bool true) ∧ Below W.heap.size W w' := by
  have K := bx_new W [.int .i64 i, .int .i64 p, .int .i64 a, .int .i64 r, .int .i64 t] 23
  have B1 := below_new W (.cells #[.int .i64 i, .int .i64 p, .int .i64 a, .int .i64 r, .int .i64 t] 23)
  have hlt : W.heap.size < (W.alloc (.cells #[.int .i64 i, .int .i64 p, .int .i64 a, .int .i64 r, .int .i64 t] 23)).heap.size := by simp
  have hT1 := hT.below B1
  obtain ⟨v, hv⟩ : ∃ v, chkO i p a r t = v := ⟨_, rfl⟩
  have hvv : (v != v) = false := by simp
  go_enter Tryz.func3, Tryz.ntmps3
  go_wp2_with (fail)
  with_reducible refine (obooks_any _).mono ?_
  rintro e w1 ⟨rfl, C1⟩
  have K1 := K.below C1
  have BB1 := below_step B1 C1 (by omega)
  have hT2 := hT1.below C1
  have hbo1 : W.heap.size < w1.heap.size := Nat.lt_of_lt_of_le hlt C1.size
  clear K B1 hT1 C1 hlt hT
  generalize hbo : W.heap.size = bo at *
  generalize W.alloc _ = W1 at *
  have k0 := K1.cell (i := 0) rfl
  have k1 := K1.cell (i := 1) rfl
  have k2 := K1.cell (i := 2) rfl
  have k3 := K1.cell (i := 3) rfl
  have k4 := K1.cell (i := 4) rfl
  go_wp2_with (fail)
  with_reducible refine (owrong_any i p a r t w1 v hv).mono ?_
  rintro e w2 ⟨rfl, C2⟩
  have K2 := K1.below C2
  have BB2 := below_step BB1 C2 (by omega)
  have hT3 := hT2.below C2
  have hbo2 : bo < w2.heap.size := Nat.lt_of_lt_of_le hbo1 C2.size
  clear K1 BB1 hT2 C2 hbo1 k0 k1 k2 k3 k4
  have k0 := K2.cell (i := 0) rfl
  have k1 := K2.cell (i := 1) rfl
  have k2 := K2.cell (i := 2) rfl
  have k3 := K2.cell (i := 3) rfl
  have k4 := K2.cell (i := 4) rfl
  go_wp2_with (fail)
  with_reducible refine (ocheck_any i p a r t w2 v hv).mono ?_
  rintro e wk ⟨rfl, C3⟩
  have K3 := K2.below C3
  have BB3 := below_step BB2 C3 (by omega)
  have hT4 := hT3.below C3
  have hbo3 : bo < wk.heap.size := Nat.lt_of_lt_of_le hbo2 C3.size
  clear K2 BB2 hT3 C3 hbo2 k0 k1 k2 k3 k4
  have k0 := K3.cell (i := 0) rfl
  have k1 := K3.cell (i := 1) rfl
  have k2 := K3.cell (i := 2) rfl
  have k3 := K3.cell (i := 3) rfl
  have k4 := K3.cell (i := 4) rfl
  by_cases hc0 : 100000000000 < a
  · have d0 : decide (100000000000 < a) = true := decide_eq_true hc0
    go_wp2
    go_ret
    exact ⟨rfl, by rw [hbo]; exact BB3⟩
  have d0 : decide (100000000000 < a) = false := decide_eq_false hc0
  have n0 : a ≤ 100000000000 := by omega
  clear hc0
  by_cases hc1 : a < -100000000000
  · have d1 : decide (a < -100000000000) = true := decide_eq_true hc1
    go_wp2
    go_ret
    exact ⟨rfl, by rw [hbo]; exact BB3⟩
  have d1 : decide (a < -100000000000) = false := decide_eq_false hc1
  have n1 : -100000000000 ≤ a := by omega
  clear hc1
  by_cases hc2 : 100000000000 < t
  · have d2 : decide (100000000000 < t) = true := decide_eq_true hc2
    go_wp2
    go_ret
    exact ⟨rfl, by rw [hbo]; exact BB3⟩
  have d2 : decide (100000000000 < t) = false := decide_eq_false hc2
  have n2 : t ≤ 100000000000 := by omega
  clear hc2
  by_cases hc3 : t < -100000000000
  · have d3 : decide (t < -100000000000) = true := decide_eq_true hc3
    go_wp2
    go_ret
    exact ⟨rfl, by rw [hbo]; exact BB3⟩
  have d3 : decide (t < -100000000000) = false := decide_eq_false hc3
  have n3 : -100000000000 ≤ t := by omega
  clear hc3
  by_cases hc4 : 999999999 < i
  · have d4 : decide (999999999 < i) = true := decide_eq_true hc4
    go_wp2
    go_ret
    exact ⟨rfl, by rw [hbo]; exact BB3⟩
  have d4 : decide (999999999 < i) = false := decide_eq_false hc4
  have n4 : i ≤ 999999999 := by omega
  clear hc4
  by_cases hc5 : i < -999999999
  · have d5 : decide (i < -999999999) = true := decide_eq_true hc5
    go_wp2
    go_ret
    exact ⟨rfl, by rw [hbo]; exact BB3⟩
  have d5 : decide (i < -999999999) = false := decide_eq_false hc5
  have n5 : -999999999 ≤ i := by omega
  clear hc5
  by_cases hc6 : 999999999 < p
  · have d6 : decide (999999999 < p) = true := decide_eq_true hc6
    go_wp2
    go_ret
    exact ⟨rfl, by rw [hbo]; exact BB3⟩
  have d6 : decide (999999999 < p) = false := decide_eq_false hc6
  have n6 : p ≤ 999999999 := by omega
  clear hc6
  by_cases hc7 : p < -999999999
  · have d7 : decide (p < -999999999) = true := decide_eq_true hc7
    go_wp2
    go_ret
    exact ⟨rfl, by rw [hbo]; exact BB3⟩
  have d7 : decide (p < -999999999) = false := decide_eq_false hc7
  have n7 : -999999999 ≤ p := by omega
  clear hc7
  by_cases hc8 : 999999999 < r
  · have d8 : decide (999999999 < r) = true := decide_eq_true hc8
    go_wp2
    go_ret
    exact ⟨rfl, by rw [hbo]; exact BB3⟩
  have d8 : decide (999999999 < r) = false := decide_eq_false hc8
  have n8 : r ≤ 999999999 := by omega
  clear hc8
  by_cases hc9 : r < -999999999
  · have d9 : decide (r < -999999999) = true := decide_eq_true hc9
    go_wp2
    go_ret
    exact ⟨rfl, by rw [hbo]; exact BB3⟩
  have d9 : decide (r < -999999999) = false := decide_eq_false hc9
  have n9 : -999999999 ≤ r := by omega
  clear hc9
  have ha2 := n0; have ha1 := n1; have ht2 := n2; have ht1 := n3; have hi2 := n4; have hi1 := n5; have hp2 := n6; have hp1 := n7; have hr2 := n8; have hr1 := n9
  clear n0 n1 n2 n3 n4 n5 n6 n7 n8 n9
  obtain ⟨z0, z1, z2, z3, z4, hz, aP⟩ := parse_od i p a r t ⟨hi1, hi2⟩ ⟨hp1, hp2⟩ ⟨ha1, ha2⟩ ⟨hr1, hr2⟩ ⟨ht1, ht2⟩ v hv
  have aI := fun X h => itoa_q i hi1 hi2 X h
  have aQ := fun X h => itoa_q p hp1 hp2 X h
  have aR := fun X h => itoa_q r hr1 hr2 X h
  have aA := fun X h => text_any a X (by omega) (by omega) h
  have aT := fun X h => text_any t X (by omega) (by omega) h
  go_upto_region 8 with fail
  go_cut [4, 5] from 62 to 81 (fun s4 s5 wx => ∃ q, s4 = .pointer (some ⟨q, 0, none⟩) ∧ s5 = .int .i64 v ∧ Bx wx q 23 [.int .i64 z0, .int .i64 z1, .int .i64 z2, .int .i64 z3, .int .i64 z4] ∧ Below wk.heap.size wk wx)
  case first =>
    have S0 : wk.drew.cell? ⟨bo, 0, none⟩ = some (.int .i64 i) ∧ wk.drew.cell? ⟨bo, 1, none⟩ = some (.int .i64 p) ∧ wk.drew.cell? ⟨bo, 2, none⟩ = some (.int .i64 a) ∧ wk.drew.cell? ⟨bo, 3, none⟩ = some (.int .i64 r) ∧ wk.drew.cell? ⟨bo, 4, none⟩ = some (.int .i64 t) ∧ Tab wk.drew ∧ Below wk.heap.size wk wk.drew := ⟨k0, k1, k2, k3, k4, hT4, (Below.refl _ _).drew⟩
    have step : ∀ U V : World, Below U.heap.size U V → (U.cell? ⟨bo, 0, none⟩ = some (.int .i64 i) ∧ U.cell? ⟨bo, 1, none⟩ = some (.int .i64 p) ∧ U.cell? ⟨bo, 2, none⟩ = some (.int .i64 a) ∧ U.cell? ⟨bo, 3, none⟩ = some (.int .i64 r) ∧ U.cell? ⟨bo, 4, none⟩ = some (.int .i64 t) ∧ Tab U ∧ Below wk.heap.size wk U) → (V.cell? ⟨bo, 0, none⟩ = some (.int .i64 i) ∧ V.cell? ⟨bo, 1, none⟩ = some (.int .i64 p) ∧ V.cell? ⟨bo, 2, none⟩ = some (.int .i64 a) ∧ V.cell? ⟨bo, 3, none⟩ = some (.int .i64 r) ∧ V.cell? ⟨bo, 4, none⟩ = some (.int .i64 t) ∧ Tab V ∧ Below wk.heap.size wk V) := fun U V hb h => ⟨cell_later hb h.1, cell_later hb h.2.1, cell_later hb h.2.2.1, cell_later hb h.2.2.2.1, cell_later hb h.2.2.2.2.1, h.2.2.2.2.2.1.below hb, below_step h.2.2.2.2.2.2 hb h.2.2.2.2.2.2.size⟩
    have stB : ∀ Z : World, Below wk.heap.size wk Z → Z.cell? ⟨bo, 0, none⟩ = some (.int .i64 i) ∧ Z.cell? ⟨bo, 1, none⟩ = some (.int .i64 p) ∧ Z.cell? ⟨bo, 2, none⟩ = some (.int .i64 a) ∧ Z.cell? ⟨bo, 3, none⟩ = some (.int .i64 r) ∧ Z.cell? ⟨bo, 4, none⟩ = some (.int .i64 t) ∧ Tab Z ∧ Below wk.heap.size wk Z := fun Z B9 => ⟨cell_later B9 k0, cell_later B9 k1, cell_later B9 k2, cell_later B9 k3, cell_later B9 k4, hT4.below B9, B9⟩
    have bI : ∀ X, (X.cell? ⟨bo, 0, none⟩ = some (.int .i64 i) ∧ X.cell? ⟨bo, 1, none⟩ = some (.int .i64 p) ∧ X.cell? ⟨bo, 2, none⟩ = some (.int .i64 a) ∧ X.cell? ⟨bo, 3, none⟩ = some (.int .i64 r) ∧ X.cell? ⟨bo, 4, none⟩ = some (.int .i64 t) ∧ Tab X ∧ Below wk.heap.size wk X) → Calls Tryz.prog 11 #[.int .i64 i] X fun e w' => e = .returned (.string ⟨(Lib.itoa i).toArray⟩) ∧ (w'.cell? ⟨bo, 0, none⟩ = some (.int .i64 i) ∧ w'.cell? ⟨bo, 1, none⟩ = some (.int .i64 p) ∧ w'.cell? ⟨bo, 2, none⟩ = some (.int .i64 a) ∧ w'.cell? ⟨bo, 3, none⟩ = some (.int .i64 r) ∧ w'.cell? ⟨bo, 4, none⟩ = some (.int .i64 t) ∧ Tab w' ∧ Below wk.heap.size wk w') ∧ Below X.heap.size X w' := fun X h => (aI X h.2.2.2.2.2.1).mono fun e w' hh => ⟨hh.1, step X w' hh.2 h, hh.2⟩
    have bQ : ∀ X, (X.cell? ⟨bo, 0, none⟩ = some (.int .i64 i) ∧ X.cell? ⟨bo, 1, none⟩ = some (.int .i64 p) ∧ X.cell? ⟨bo, 2, none⟩ = some (.int .i64 a) ∧ X.cell? ⟨bo, 3, none⟩ = some (.int .i64 r) ∧ X.cell? ⟨bo, 4, none⟩ = some (.int .i64 t) ∧ Tab X ∧ Below wk.heap.size wk X) → Calls Tryz.prog 11 #[.int .i64 p] X fun e w' => e = .returned (.string ⟨(Lib.itoa p).toArray⟩) ∧ (w'.cell? ⟨bo, 0, none⟩ = some (.int .i64 i) ∧ w'.cell? ⟨bo, 1, none⟩ = some (.int .i64 p) ∧ w'.cell? ⟨bo, 2, none⟩ = some (.int .i64 a) ∧ w'.cell? ⟨bo, 3, none⟩ = some (.int .i64 r) ∧ w'.cell? ⟨bo, 4, none⟩ = some (.int .i64 t) ∧ Tab w' ∧ Below wk.heap.size wk w') ∧ Below X.heap.size X w' := fun X h => (aQ X h.2.2.2.2.2.1).mono fun e w' hh => ⟨hh.1, step X w' hh.2 h, hh.2⟩
    have bR : ∀ X, (X.cell? ⟨bo, 0, none⟩ = some (.int .i64 i) ∧ X.cell? ⟨bo, 1, none⟩ = some (.int .i64 p) ∧ X.cell? ⟨bo, 2, none⟩ = some (.int .i64 a) ∧ X.cell? ⟨bo, 3, none⟩ = some (.int .i64 r) ∧ X.cell? ⟨bo, 4, none⟩ = some (.int .i64 t) ∧ Tab X ∧ Below wk.heap.size wk X) → Calls Tryz.prog 11 #[.int .i64 r] X fun e w' => e = .returned (.string ⟨(Lib.itoa r).toArray⟩) ∧ (w'.cell? ⟨bo, 0, none⟩ = some (.int .i64 i) ∧ w'.cell? ⟨bo, 1, none⟩ = some (.int .i64 p) ∧ w'.cell? ⟨bo, 2, none⟩ = some (.int .i64 a) ∧ w'.cell? ⟨bo, 3, none⟩ = some (.int .i64 r) ∧ w'.cell? ⟨bo, 4, none⟩ = some (.int .i64 t) ∧ Tab w' ∧ Below wk.heap.size wk w') ∧ Below X.heap.size X w' := fun X h => (aR X h.2.2.2.2.2.1).mono fun e w' hh => ⟨hh.1, step X w' hh.2 h, hh.2⟩
    have bA : ∀ X, (X.cell? ⟨bo, 0, none⟩ = some (.int .i64 i) ∧ X.cell? ⟨bo, 1, none⟩ = some (.int .i64 p) ∧ X.cell? ⟨bo, 2, none⟩ = some (.int .i64 a) ∧ X.cell? ⟨bo, 3, none⟩ = some (.int .i64 r) ∧ X.cell? ⟨bo, 4, none⟩ = some (.int .i64 t) ∧ Tab X ∧ Below wk.heap.size wk X) → Calls Tryz.prog 12 #[.int .i64 a] X fun e w' => e = .returned (.string ⟨(txt a).toArray⟩) ∧ (w'.cell? ⟨bo, 0, none⟩ = some (.int .i64 i) ∧ w'.cell? ⟨bo, 1, none⟩ = some (.int .i64 p) ∧ w'.cell? ⟨bo, 2, none⟩ = some (.int .i64 a) ∧ w'.cell? ⟨bo, 3, none⟩ = some (.int .i64 r) ∧ w'.cell? ⟨bo, 4, none⟩ = some (.int .i64 t) ∧ Tab w' ∧ Below wk.heap.size wk w') ∧ Below X.heap.size X w' := fun X h => (aA X h.2.2.2.2.2.1).mono fun e w' hh => ⟨hh.1, step X w' hh.2 h, hh.2⟩
    have bT : ∀ X, (X.cell? ⟨bo, 0, none⟩ = some (.int .i64 i) ∧ X.cell? ⟨bo, 1, none⟩ = some (.int .i64 p) ∧ X.cell? ⟨bo, 2, none⟩ = some (.int .i64 a) ∧ X.cell? ⟨bo, 3, none⟩ = some (.int .i64 r) ∧ X.cell? ⟨bo, 4, none⟩ = some (.int .i64 t) ∧ Tab X ∧ Below wk.heap.size wk X) → Calls Tryz.prog 12 #[.int .i64 t] X fun e w' => e = .returned (.string ⟨(txt t).toArray⟩) ∧ (w'.cell? ⟨bo, 0, none⟩ = some (.int .i64 i) ∧ w'.cell? ⟨bo, 1, none⟩ = some (.int .i64 p) ∧ w'.cell? ⟨bo, 2, none⟩ = some (.int .i64 a) ∧ w'.cell? ⟨bo, 3, none⟩ = some (.int .i64 r) ∧ w'.cell? ⟨bo, 4, none⟩ = some (.int .i64 t) ∧ Tab w' ∧ Below wk.heap.size wk w') ∧ Below X.heap.size X w' := fun X h => (aT X h.2.2.2.2.2.1).mono fun e w' hh => ⟨hh.1, step X w' hh.2 h, hh.2⟩
    have cl5 : ∀ (b : Nat) (X : World), Bx X b 9 [.string ⟨(Lib.itoa i).toArray⟩, .string ⟨(Lib.itoa p).toArray⟩, .string ⟨(txt a).toArray⟩, .string ⟨(Lib.itoa r).toArray⟩, .string ⟨(txt t).toArray⟩] → ∀ j, j < 5 → X.cell? ⟨b, j, none⟩ = some (.string (od5 i p a r t j)) := fun b X KB j hj => by
      rcases (by omega : j = 0 ∨ j = 1 ∨ j = 2 ∨ j = 3 ∨ j = 4) with rfl | rfl | rfl | rfl | rfl
      · exact KB.cell (i := 0) rfl
      · exact KB.cell (i := 1) rfl
      · exact KB.cell (i := 2) rfl
      · exact KB.cell (i := 3) rfl
      · exact KB.cell (i := 4) rfl
    refine wp_region_X (S := fun X => X.cell? ⟨bo, 0, none⟩ = some (.int .i64 i) ∧ X.cell? ⟨bo, 1, none⟩ = some (.int .i64 p) ∧ X.cell? ⟨bo, 2, none⟩ = some (.int .i64 a) ∧ X.cell? ⟨bo, 3, none⟩ = some (.int .i64 r) ∧ X.cell? ⟨bo, 4, none⟩ = some (.int .i64 t) ∧ Tab X ∧ Below wk.heap.size wk X) (by kernel_rfl) S0 ?_
    refine wpX_take (i := 0) (v := ?_) rfl (some 63) (by rfl) (by kernel_rfl) (by kernel_rfl) (by kernel_rfl) (fun _ _ _ h => h) (by rfl) (by intro X hSw; (try dsimp only at hSw); go_simp; with_reducible rfl) ?_
    try simp only [Act.put, List.setIfInBounds_toArray, List.set_cons_zero, List.set_cons_succ]
    refine wpX_take (i := 1) (v := ?_) rfl (some 64) (by rfl) (by kernel_rfl) (by kernel_rfl) (by kernel_rfl) (fun _ _ _ h => h) (by rfl) (by intro X hSw; (try dsimp only at hSw); go_simp; with_reducible rfl) ?_
    try simp only [Act.put, List.setIfInBounds_toArray, List.set_cons_zero, List.set_cons_succ]
    refine wpX_call (i := 2) (v := .string ⟨(Lib.itoa i).toArray⟩) 11 #[.int .i64 i] rfl (some 65) (by rfl) (by kernel_rfl) (by kernel_rfl) (by kernel_rfl) (fun _ _ _ h => h) (by rfl) (fun _ => by kernel_rfl) (fun X h => bI X h) ?_
    try simp only [Act.put, List.setIfInBounds_toArray, List.set_cons_zero, List.set_cons_succ]
    refine wpX_take (i := 3) (v := ?_) rfl (some 66) (by rfl) (by kernel_rfl) (by kernel_rfl) (by kernel_rfl) (fun _ _ _ h => h) (by rfl) (by intro X hSw; (try dsimp only at hSw); go_simp; with_reducible rfl) ?_
    try simp only [Act.put, List.setIfInBounds_toArray, List.set_cons_zero, List.set_cons_succ]
    refine wpX_take (i := 4) (v := ?_) rfl (some 67) (by rfl) (by kernel_rfl) (by kernel_rfl) (by kernel_rfl) (fun _ _ _ h => h) (by rfl) (by intro X hSw; (try dsimp only at hSw); go_simp; with_reducible rfl) ?_
    try simp only [Act.put, List.setIfInBounds_toArray, List.set_cons_zero, List.set_cons_succ]
    refine wpX_call (i := 5) (v := .string ⟨(Lib.itoa p).toArray⟩) 11 #[.int .i64 p] rfl (some 68) (by rfl) (by kernel_rfl) (by kernel_rfl) (by kernel_rfl) (fun _ _ _ h => h) (by rfl) (fun _ => by kernel_rfl) (fun X h => bQ X h) ?_
    try simp only [Act.put, List.setIfInBounds_toArray, List.set_cons_zero, List.set_cons_succ]
    refine wpX_take (i := 6) (v := ?_) rfl (some 69) (by rfl) (by kernel_rfl) (by kernel_rfl) (by kernel_rfl) (fun _ _ _ h => h) (by rfl) (by intro X hSw; (try dsimp only at hSw); go_simp; with_reducible rfl) ?_
    try simp only [Act.put, List.setIfInBounds_toArray, List.set_cons_zero, List.set_cons_succ]
    refine wpX_take (i := 7) (v := ?_) rfl (some 70) (by rfl) (by kernel_rfl) (by kernel_rfl) (by kernel_rfl) (fun _ _ _ h => h) (by rfl) (by intro X hSw; (try dsimp only at hSw); go_simp; with_reducible rfl) ?_
    try simp only [Act.put, List.setIfInBounds_toArray, List.set_cons_zero, List.set_cons_succ]
    refine wpX_call (i := 8) (v := .string ⟨(txt a).toArray⟩) 12 #[.int .i64 a] rfl (some 71) (by rfl) (by kernel_rfl) (by kernel_rfl) (by kernel_rfl) (fun _ _ _ h => h) (by rfl) (fun _ => by kernel_rfl) (fun X h => bA X h) ?_
    try simp only [Act.put, List.setIfInBounds_toArray, List.set_cons_zero, List.set_cons_succ]
    refine wpX_take (i := 9) (v := ?_) rfl (some 72) (by rfl) (by kernel_rfl) (by kernel_rfl) (by kernel_rfl) (fun _ _ _ h => h) (by rfl) (by intro X hSw; (try dsimp only at hSw); go_simp; with_reducible rfl) ?_
    try simp only [Act.put, List.setIfInBounds_toArray, List.set_cons_zero, List.set_cons_succ]
    refine wpX_take (i := 10) (v := ?_) rfl (some 73) (by rfl) (by kernel_rfl) (by kernel_rfl) (by kernel_rfl) (fun _ _ _ h => h) (by rfl) (by intro X hSw; (try dsimp only at hSw); go_simp; with_reducible rfl) ?_
    try simp only [Act.put, List.setIfInBounds_toArray, List.set_cons_zero, List.set_cons_succ]
    refine wpX_call (i := 11) (v := .string ⟨(Lib.itoa r).toArray⟩) 11 #[.int .i64 r] rfl (some 74) (by rfl) (by kernel_rfl) (by kernel_rfl) (by kernel_rfl) (fun _ _ _ h => h) (by rfl) (fun _ => by kernel_rfl) (fun X h => bR X h) ?_
    try simp only [Act.put, List.setIfInBounds_toArray, List.set_cons_zero, List.set_cons_succ]
    refine wpX_take (i := 12) (v := ?_) rfl (some 75) (by rfl) (by kernel_rfl) (by kernel_rfl) (by kernel_rfl) (fun _ _ _ h => h) (by rfl) (by intro X hSw; (try dsimp only at hSw); go_simp; with_reducible rfl) ?_
    try simp only [Act.put, List.setIfInBounds_toArray, List.set_cons_zero, List.set_cons_succ]
    refine wpX_take (i := 13) (v := ?_) rfl (some 76) (by rfl) (by kernel_rfl) (by kernel_rfl) (by kernel_rfl) (fun _ _ _ h => h) (by rfl) (by intro X hSw; (try dsimp only at hSw); go_simp; with_reducible rfl) ?_
    try simp only [Act.put, List.setIfInBounds_toArray, List.set_cons_zero, List.set_cons_succ]
    refine wpX_call (i := 14) (v := .string ⟨(txt t).toArray⟩) 12 #[.int .i64 t] rfl (some 77) (by rfl) (by kernel_rfl) (by kernel_rfl) (by kernel_rfl) (fun _ _ _ h => h) (by rfl) (fun _ => by kernel_rfl) (fun X h => bT X h) ?_
    try simp only [Act.put, List.setIfInBounds_toArray, List.set_cons_zero, List.set_cons_succ]
    refine wpX_two (i := 15) (j := 20) (by kernel_rfl) rfl rfl ?_ ?_
    · intro w1 hS1 hb1 KK hK
      go_simp
      refine hK.out _ _ (step w1 _ (below_new w1 _) hS1) ?_
      try simp only [Act.put, List.setIfInBounds_toArray, List.set_cons_zero, List.set_cons_succ]
      have SR := step w1 _ (below_new w1 (.cells (List.toArray [.string ⟨(Lib.itoa i).toArray⟩, .string ⟨(Lib.itoa p).toArray⟩, .string ⟨(txt a).toArray⟩, .string ⟨(Lib.itoa r).toArray⟩, .string ⟨(txt t).toArray⟩]) 9)) hS1
      have KR := bx_new w1 [.string ⟨(Lib.itoa i).toArray⟩, .string ⟨(Lib.itoa p).toArray⟩, .string ⟨(txt a).toArray⟩, .string ⟨(Lib.itoa r).toArray⟩, .string ⟨(txt t).toArray⟩] 9
      have hrb : wk.heap.size ≤ w1.heap.size := hS1.2.2.2.2.2.2.size
      have hrl : w1.heap.size < (w1.alloc (.cells (List.toArray [.string ⟨(Lib.itoa i).toArray⟩, .string ⟨(Lib.itoa p).toArray⟩, .string ⟨(txt a).toArray⟩, .string ⟨(Lib.itoa r).toArray⟩, .string ⟨(txt t).toArray⟩]) 9)).heap.size := by simp
      generalize hgr : w1.heap.size = rb at *
      clear hgr
      refine wpX_more (S' := fun X => (X.cell? ⟨bo, 0, none⟩ = some (.int .i64 i) ∧ X.cell? ⟨bo, 1, none⟩ = some (.int .i64 p) ∧ X.cell? ⟨bo, 2, none⟩ = some (.int .i64 a) ∧ X.cell? ⟨bo, 3, none⟩ = some (.int .i64 r) ∧ X.cell? ⟨bo, 4, none⟩ = some (.int .i64 t) ∧ Tab X ∧ Below wk.heap.size wk X) ∧ Bx X rb 9 [.string ⟨(Lib.itoa i).toArray⟩, .string ⟨(Lib.itoa p).toArray⟩, .string ⟨(txt a).toArray⟩, .string ⟨(Lib.itoa r).toArray⟩, .string ⟨(txt t).toArray⟩]) (fun _ h => h.1) (fun u u' h hb hs => ⟨hs, h.2.below hb⟩) _ _ _ _ ⟨SR, KR⟩ ?_
      have bP : ∀ X, ((X.cell? ⟨bo, 0, none⟩ = some (.int .i64 i) ∧ X.cell? ⟨bo, 1, none⟩ = some (.int .i64 p) ∧ X.cell? ⟨bo, 2, none⟩ = some (.int .i64 a) ∧ X.cell? ⟨bo, 3, none⟩ = some (.int .i64 r) ∧ X.cell? ⟨bo, 4, none⟩ = some (.int .i64 t) ∧ Tab X ∧ Below wk.heap.size wk X) ∧ Bx X rb 9 [.string ⟨(Lib.itoa i).toArray⟩, .string ⟨(Lib.itoa p).toArray⟩, .string ⟨(txt a).toArray⟩, .string ⟨(Lib.itoa r).toArray⟩, .string ⟨(txt t).toArray⟩]) → Calls Tryz.prog 10 #[.slice (some ⟨rb, 0, none⟩) 5 5] X fun e w' => e = .returned (.tuple #[.agg #[.int .i64 z0, .int .i64 z1, .int .i64 z2, .int .i64 z3, .int .i64 z4], .int .i64 v]) ∧ ((w'.cell? ⟨bo, 0, none⟩ = some (.int .i64 i) ∧ w'.cell? ⟨bo, 1, none⟩ = some (.int .i64 p) ∧ w'.cell? ⟨bo, 2, none⟩ = some (.int .i64 a) ∧ w'.cell? ⟨bo, 3, none⟩ = some (.int .i64 r) ∧ w'.cell? ⟨bo, 4, none⟩ = some (.int .i64 t) ∧ Tab w' ∧ Below wk.heap.size wk w') ∧ Bx w' rb 9 [.string ⟨(Lib.itoa i).toArray⟩, .string ⟨(Lib.itoa p).toArray⟩, .string ⟨(txt a).toArray⟩, .string ⟨(Lib.itoa r).toArray⟩, .string ⟨(txt t).toArray⟩]) ∧ Below X.heap.size X w' := fun X h => (aP rb X (cl5 rb X h.2)).mono fun e w' hh => ⟨hh.1, ⟨step X w' hh.2 h.1, h.2.below hh.2⟩, hh.2⟩
      refine wpX_call (i := 16) (v := .tuple #[.agg #[.int .i64 z0, .int .i64 z1, .int .i64 z2, .int .i64 z3, .int .i64 z4], .int .i64 v]) 10 #[.slice (some ⟨rb, 0, none⟩) 5 5] rfl (some 79) (by rfl) (by kernel_rfl) (by kernel_rfl) (by kernel_rfl) (fun _ _ _ h => h) (by rfl) (fun _ => by kernel_rfl) (fun X h => bP X h) ?_
      try simp only [Act.put, List.setIfInBounds_toArray, List.set_cons_zero, List.set_cons_succ]
      refine wpX_take (i := 17) (v := ?_) rfl (some 62) (by rfl) (by kernel_rfl) (by kernel_rfl) (by kernel_rfl) (fun _ _ _ h => h) (by rfl) (by intro X hSw; (try dsimp only at hSw); go_simp; with_reducible rfl) ?_
      try simp only [Act.put, List.setIfInBounds_toArray, List.set_cons_zero, List.set_cons_succ]
      refine wpX_take (i := 18) (v := ?_) rfl (some 80) (by rfl) (by kernel_rfl) (by kernel_rfl) (by kernel_rfl) (fun _ _ _ h => h) (by rfl) (by intro X hSw; (try dsimp only at hSw); go_simp; with_reducible rfl) ?_
      try simp only [Act.put, List.setIfInBounds_toArray, List.set_cons_zero, List.set_cons_succ]
      refine wpX_take (i := 19) (v := ?_) rfl (some 81) (by rfl) (by kernel_rfl) (by kernel_rfl) (by kernel_rfl) (fun _ _ _ h => h) (by rfl) (by intro X hSw; (try dsimp only at hSw); go_simp; with_reducible rfl) ?_
      try simp only [Act.put, List.setIfInBounds_toArray, List.set_cons_zero, List.set_cons_succ]
      refine wpX_one (i := 20) (by kernel_rfl) rfl ?_
      intro w3 hS3 hb3 KK1 hK1
      go_simp
      have NZ := below_new w3 (.cells (List.toArray [.int .i64 0, .int .i64 0, .int .i64 0, .int .i64 0, .int .i64 0]) 23)
      refine hK1.out _ _ ⟨step w3 _ NZ hS3.1, hS3.2.below NZ⟩ ?_
      try simp only [Act.put, List.setIfInBounds_toArray, List.set_cons_zero, List.set_cons_succ]
      have KZ := bx_new w3 [.int .i64 0, .int .i64 0, .int .i64 0, .int .i64 0, .int .i64 0] 23
      have hqq : wk.heap.size ≤ w3.heap.size := hS3.1.2.2.2.2.2.2.size
      have hne : w3.heap.size ≠ rb := by have := hb3.size; omega
      generalize hgq : w3.heap.size = q at *
      clear hgq
      refine wpX_one (i := 21) (by kernel_rfl) rfl ?_
      intro w4 hS4 hb4 KK2 hK2
      have ZB := KZ.below hb4
      have hq : wk.heap.size ≤ q := hqq
      have z_0 := ZB.cell (i := 0) rfl
      have zf_0 := ZB.fr 0
      have z_1 := ZB.cell (i := 1) rfl
      have zf_1 := ZB.fr 1
      have z_2 := ZB.cell (i := 2) rfl
      have zf_2 := ZB.fr 2
      have z_3 := ZB.cell (i := 3) rfl
      have zf_3 := ZB.fr 3
      have z_4 := ZB.cell (i := 4) rfl
      have zf_4 := ZB.fr 4
      have B4 := hS4.1.2.2.2.2.2.2
      go_simp
      have BC := ((((B4.setCell (p := ⟨q, 0, none⟩) hq (.int .i64 z0)).setCell (p := ⟨q, 1, none⟩) hq (.int .i64 z1)).setCell (p := ⟨q, 2, none⟩) hq (.int .i64 z2)).setCell (p := ⟨q, 3, none⟩) hq (.int .i64 z3)).setCell (p := ⟨q, 4, none⟩) hq (.int .i64 z4)
      have KC := ((((hS4.2.other hne 0 (.int .i64 z0)).other hne 1 (.int .i64 z1)).other hne 2 (.int .i64 z2)).other hne 3 (.int .i64 z3)).other hne 4 (.int .i64 z4)
      have KQ := ((((ZB.set 0 (.int .i64 z0)).set 1 (.int .i64 z1)).set 2 (.int .i64 z2)).set 3 (.int .i64 z3)).set 4 (.int .i64 z4)
      refine hK2.out _ _ ⟨stB _ BC, KC⟩ ?_
      try simp only [Act.put, List.setIfInBounds_toArray, List.set_cons_zero, List.set_cons_succ]
      refine wpX_take (i := 22) (v := ?_) rfl (some 5) (by rfl) (by kernel_rfl) (by kernel_rfl) (by kernel_rfl) (fun _ _ _ h => h) (by rfl) (by intro X hSw; (try dsimp only at hSw); go_simp; with_reducible rfl) ?_
      try simp only [Act.put, List.setIfInBounds_toArray, List.set_cons_zero, List.set_cons_succ]
      refine wpX_done (by kernel_rfl) ?_
      intro w5 hS5 hb5
      have HREL := Lib.hid (And.intro (KQ.below hb5) hS5.1.2.2.2.2.2.2)
      clear hS5 hb5 KQ KC BC B4 hK2 hS4 hb4 ZB z_0 z_1 z_2 z_3 z_4 zf_0 zf_1 zf_2 zf_3 zf_4 hK
      go_wp2_with fail
      go_meet
      case rel => exact ⟨q, rfl, rfl, HREL.out.1, HREL.out.2⟩
    · intro w1 hS1 hb1 KK hK
      go_simp
      have NZ := below_new w1 (.cells (List.toArray [.int .i64 0, .int .i64 0, .int .i64 0, .int .i64 0, .int .i64 0]) 23)
      refine hK.out _ _ (step w1 _ NZ hS1) ?_
      try simp only [Act.put, List.setIfInBounds_toArray, List.set_cons_zero, List.set_cons_succ]
      have KZ0 := bx_new w1 [.int .i64 0, .int .i64 0, .int .i64 0, .int .i64 0, .int .i64 0] 23
      have hqq : wk.heap.size ≤ w1.heap.size := hS1.2.2.2.2.2.2.size
      have hql : w1.heap.size < (w1.alloc (.cells (List.toArray [.int .i64 0, .int .i64 0, .int .i64 0, .int .i64 0, .int .i64 0]) 23)).heap.size := by simp
      generalize hgq : w1.heap.size = q at *
      clear hgq
      refine wpX_one (i := 15) (by kernel_rfl) rfl ?_
      intro w3 hS3 hb3 KK1 hK1
      go_simp
      have NR := below_new w3 (.cells (List.toArray [.string ⟨(Lib.itoa i).toArray⟩, .string ⟨(Lib.itoa p).toArray⟩, .string ⟨(txt a).toArray⟩, .string ⟨(Lib.itoa r).toArray⟩, .string ⟨(txt t).toArray⟩]) 9)
      refine hK1.out _ _ (step w3 _ NR hS3) ?_
      try simp only [Act.put, List.setIfInBounds_toArray, List.set_cons_zero, List.set_cons_succ]
      have SR := step w3 _ NR hS3
      have KR := bx_new w3 [.string ⟨(Lib.itoa i).toArray⟩, .string ⟨(Lib.itoa p).toArray⟩, .string ⟨(txt a).toArray⟩, .string ⟨(Lib.itoa r).toArray⟩, .string ⟨(txt t).toArray⟩] 9
      have KZ := (KZ0.below hb3).below NR
      have hne : q ≠ w3.heap.size := by have := hb3.size; omega
      generalize hgr : w3.heap.size = rb at *
      clear hgr
      refine wpX_more (S' := fun X => (X.cell? ⟨bo, 0, none⟩ = some (.int .i64 i) ∧ X.cell? ⟨bo, 1, none⟩ = some (.int .i64 p) ∧ X.cell? ⟨bo, 2, none⟩ = some (.int .i64 a) ∧ X.cell? ⟨bo, 3, none⟩ = some (.int .i64 r) ∧ X.cell? ⟨bo, 4, none⟩ = some (.int .i64 t) ∧ Tab X ∧ Below wk.heap.size wk X) ∧ Bx X rb 9 [.string ⟨(Lib.itoa i).toArray⟩, .string ⟨(Lib.itoa p).toArray⟩, .string ⟨(txt a).toArray⟩, .string ⟨(Lib.itoa r).toArray⟩, .string ⟨(txt t).toArray⟩]) (fun _ h => h.1) (fun u u' h hb hs => ⟨hs, h.2.below hb⟩) _ _ _ _ ⟨SR, KR⟩ ?_
      have bP : ∀ X, ((X.cell? ⟨bo, 0, none⟩ = some (.int .i64 i) ∧ X.cell? ⟨bo, 1, none⟩ = some (.int .i64 p) ∧ X.cell? ⟨bo, 2, none⟩ = some (.int .i64 a) ∧ X.cell? ⟨bo, 3, none⟩ = some (.int .i64 r) ∧ X.cell? ⟨bo, 4, none⟩ = some (.int .i64 t) ∧ Tab X ∧ Below wk.heap.size wk X) ∧ Bx X rb 9 [.string ⟨(Lib.itoa i).toArray⟩, .string ⟨(Lib.itoa p).toArray⟩, .string ⟨(txt a).toArray⟩, .string ⟨(Lib.itoa r).toArray⟩, .string ⟨(txt t).toArray⟩]) → Calls Tryz.prog 10 #[.slice (some ⟨rb, 0, none⟩) 5 5] X fun e w' => e = .returned (.tuple #[.agg #[.int .i64 z0, .int .i64 z1, .int .i64 z2, .int .i64 z3, .int .i64 z4], .int .i64 v]) ∧ ((w'.cell? ⟨bo, 0, none⟩ = some (.int .i64 i) ∧ w'.cell? ⟨bo, 1, none⟩ = some (.int .i64 p) ∧ w'.cell? ⟨bo, 2, none⟩ = some (.int .i64 a) ∧ w'.cell? ⟨bo, 3, none⟩ = some (.int .i64 r) ∧ w'.cell? ⟨bo, 4, none⟩ = some (.int .i64 t) ∧ Tab w' ∧ Below wk.heap.size wk w') ∧ Bx w' rb 9 [.string ⟨(Lib.itoa i).toArray⟩, .string ⟨(Lib.itoa p).toArray⟩, .string ⟨(txt a).toArray⟩, .string ⟨(Lib.itoa r).toArray⟩, .string ⟨(txt t).toArray⟩]) ∧ Below X.heap.size X w' := fun X h => (aP rb X (cl5 rb X h.2)).mono fun e w' hh => ⟨hh.1, ⟨step X w' hh.2 h.1, h.2.below hh.2⟩, hh.2⟩
      refine wpX_call (i := 16) (v := .tuple #[.agg #[.int .i64 z0, .int .i64 z1, .int .i64 z2, .int .i64 z3, .int .i64 z4], .int .i64 v]) 10 #[.slice (some ⟨rb, 0, none⟩) 5 5] rfl (some 79) (by rfl) (by kernel_rfl) (by kernel_rfl) (by kernel_rfl) (fun _ _ _ h => h) (by rfl) (fun _ => by kernel_rfl) (fun X h => bP X h) ?_
      try simp only [Act.put, List.setIfInBounds_toArray, List.set_cons_zero, List.set_cons_succ]
      refine wpX_take (i := 17) (v := ?_) rfl (some 62) (by rfl) (by kernel_rfl) (by kernel_rfl) (by kernel_rfl) (fun _ _ _ h => h) (by rfl) (by intro X hSw; (try dsimp only at hSw); go_simp; with_reducible rfl) ?_
      try simp only [Act.put, List.setIfInBounds_toArray, List.set_cons_zero, List.set_cons_succ]
      refine wpX_take (i := 18) (v := ?_) rfl (some 80) (by rfl) (by kernel_rfl) (by kernel_rfl) (by kernel_rfl) (fun _ _ _ h => h) (by rfl) (by intro X hSw; (try dsimp only at hSw); go_simp; with_reducible rfl) ?_
      try simp only [Act.put, List.setIfInBounds_toArray, List.set_cons_zero, List.set_cons_succ]
      refine wpX_take (i := 19) (v := ?_) rfl (some 81) (by rfl) (by kernel_rfl) (by kernel_rfl) (by kernel_rfl) (fun _ _ _ h => h) (by rfl) (by intro X hSw; (try dsimp only at hSw); go_simp; with_reducible rfl) ?_
      try simp only [Act.put, List.setIfInBounds_toArray, List.set_cons_zero, List.set_cons_succ]
      refine wpX_one (i := 21) (by kernel_rfl) rfl ?_
      intro w4 hS4 hb4 KK2 hK2
      have ZB := KZ.below hb4
      have hq : wk.heap.size ≤ q := hqq
      have z_0 := ZB.cell (i := 0) rfl
      have zf_0 := ZB.fr 0
      have z_1 := ZB.cell (i := 1) rfl
      have zf_1 := ZB.fr 1
      have z_2 := ZB.cell (i := 2) rfl
      have zf_2 := ZB.fr 2
      have z_3 := ZB.cell (i := 3) rfl
      have zf_3 := ZB.fr 3
      have z_4 := ZB.cell (i := 4) rfl
      have zf_4 := ZB.fr 4
      have B4 := hS4.1.2.2.2.2.2.2
      go_simp
      have BC := ((((B4.setCell (p := ⟨q, 0, none⟩) hq (.int .i64 z0)).setCell (p := ⟨q, 1, none⟩) hq (.int .i64 z1)).setCell (p := ⟨q, 2, none⟩) hq (.int .i64 z2)).setCell (p := ⟨q, 3, none⟩) hq (.int .i64 z3)).setCell (p := ⟨q, 4, none⟩) hq (.int .i64 z4)
      have KC := ((((hS4.2.other hne 0 (.int .i64 z0)).other hne 1 (.int .i64 z1)).other hne 2 (.int .i64 z2)).other hne 3 (.int .i64 z3)).other hne 4 (.int .i64 z4)
      have KQ := ((((ZB.set 0 (.int .i64 z0)).set 1 (.int .i64 z1)).set 2 (.int .i64 z2)).set 3 (.int .i64 z3)).set 4 (.int .i64 z4)
      refine hK2.out _ _ ⟨stB _ BC, KC⟩ ?_
      try simp only [Act.put, List.setIfInBounds_toArray, List.set_cons_zero, List.set_cons_succ]
      refine wpX_take (i := 22) (v := ?_) rfl (some 5) (by rfl) (by kernel_rfl) (by kernel_rfl) (by kernel_rfl) (fun _ _ _ h => h) (by rfl) (by intro X hSw; (try dsimp only at hSw); go_simp; with_reducible rfl) ?_
      try simp only [Act.put, List.setIfInBounds_toArray, List.set_cons_zero, List.set_cons_succ]
      refine wpX_done (by kernel_rfl) ?_
      intro w5 hS5 hb5
      have HREL := Lib.hid (And.intro (KQ.below hb5) hS5.1.2.2.2.2.2.2)
      clear hS5 hb5 KQ KC BC B4 hK2 hS4 hb4 ZB z_0 z_1 z_2 z_3 z_4 zf_0 zf_1 zf_2 zf_3 zf_4 hK
      go_wp2_with fail
      go_meet
      case rel => exact ⟨q, rfl, rfl, HREL.out.1, HREL.out.2⟩
  case rest =>
    obtain ⟨q, rfl, rfl, KZ, BZ⟩ := hcut
    have KO := K3.below BZ
    have BB4 := below_step BB3 BZ (by omega)
    clear aI aQ aR aA aT aP K3 BB3 BZ k0 k1 k2 k3 k4 hT4 hbo3
    have k0 := KO.cell (i := 0) rfl
    have k1 := KO.cell (i := 1) rfl
    have k2 := KO.cell (i := 2) rfl
    have k3 := KO.cell (i := 3) rfl
    have k4 := KO.cell (i := 4) rfl
    have m0 := KZ.cell (i := 0) rfl
    have m1 := KZ.cell (i := 1) rfl
    have m2 := KZ.cell (i := 2) rfl
    have m3 := KZ.cell (i := 3) rfl
    have m4 := KZ.cell (i := 4) rfl
    rcases hz with ⟨rfl, rfl, rfl, rfl, rfl, rfl⟩ | ⟨hv0, rfl, rfl, rfl, rfl, rfl⟩
    · go_wp2
      go_ret
      exact ⟨rfl, by rw [hbo]; exact BB4⟩
    · have t1 : (v != 0) = true := by simp [hv0]
      go_wp2
      go_ret
      exact ⟨rfl, by rw [hbo]; exact BB4⟩
end Go.Proofs.YthknjpmhomjobaaGreatDoor
