/- The first call of all of tax's laws. -/
import Derived.Test.YtfnjhalpedccaaaDoorTaxB
import Derived.Test.YtfnjhalpedccaaaDoorPerF
import Derived.Deep.RegionHeld3
namespace Go.Proofs.YtfnjhalpedccaaaDoor
open Go.RowKit Go.Sort
set_option linter.unusedVariables false
set_option linter.unusedSimpArgs false

def simB (b0 : Nat) : SB := ⟨some ⟨b0, 0, none⟩, 2, 2, fun i => if i = 0 then 0 else 120000, fun i => if i = 0 then 2000 else 4000, fun _ => 0⟩
/-- the laws' simple table, wherever it lies -/
def simT (b0 b1 b2 : Nat) : TB := ⟨some ⟨b1, 0, none⟩, 1, 1, none, 0, 0, some ⟨b2, 0, none⟩, 1, 1, 5000, 1, fun _ => simB b0, fun _ => ⟨⟨#[]⟩, 0, simB b0, 0, 0, 0⟩, fun _ => ⟨⟨#[107]⟩, 0, 0, 0⟩⟩
theorem simT_ok (b0 b1 b2 : Nat) : TG (simT b0 b1 b2) := by
  refine ⟨⟨Nat.le_refl _, by show (1 : Nat) ≤ 8; omega, by show (0 : Nat) ≤ 6; omega, Nat.le_refl _, by show (1 : Nat) ≤ 12; omega, by show (0 : Int) ≤ 5000; omega, by show (5000 : Int) ≤ 10000; omega, fun i hi => ?_, fun i hi => absurd hi (Nat.not_lt_zero _)⟩, rfl, by show (1 : Nat) ≤ _; omega, fun i hi => by show (2 : Nat) ≤ _; omega⟩
  refine ⟨by show (1 : Nat) ≤ 2; omega, by show (2 : Nat) ≤ 8; omega, ⟨rfl, fun j h1 h2 => ?_⟩, fun j hj => ?_, fun j hj => ?_, fun j hj => ?_⟩
  · have h2 : j < 2 := h2
    obtain rfl : j = 1 := by omega
    show (0 : Int) < 120000
    omega
  · have hj : j < 2 := hj
    have : j = 0 ∨ j = 1 := by omega
    rcases this with rfl | rfl
    · exact ⟨by show (0 : Int) ≤ 0; omega, by show (0 : Int) ≤ _; omega⟩
    · exact ⟨by show (0 : Int) ≤ 120000; omega, by show (120000 : Int) ≤ _; omega⟩
  · have hj : j < 2 := hj
    have : j = 0 ∨ j = 1 := by omega
    rcases this with rfl | rfl
    · exact ⟨by show (0 : Int) ≤ 2000; omega, by show (2000 : Int) ≤ _; omega⟩
    · exact ⟨by show (0 : Int) ≤ 4000; omega, by show (4000 : Int) ≤ _; omega⟩
  · exact ⟨by show (0 : Int) ≤ 0; omega, by show (0 : Int) ≤ _; omega⟩
theorem sim_any (w : World) :
    Calls Tryd.prog 18 #[] w fun e w' => ∃ b0 b1 b2, e = .returned (.agg #[.slice (some ⟨b1, 0, none⟩) 1 1, .slice none 0 0, .slice (some ⟨b2, 0, none⟩) 1 1, .int .i64 5000, .int .i64 1]) ∧ SchM w' (some ⟨b1, 0, none⟩) 1 (simT b0 b1 b2).S ∧ Below w.heap.size w w' := by
  go_enter Tryd.func18, Tryd.ntmps18
  go_wp2
  have KA : Bx ((((w.alloc (.cells #[.slice (some ⟨w.heap.size + 1 + 1, 0, none⟩) 1 1, .slice none 0 0, .slice (some ⟨w.heap.size + 1 + 1 + 1, 0, none⟩) 1 1, .int .i64 5000, .int .i64 1] 26)).alloc (.cells #[.int .i64 0, .int .i64 2000, .int .i64 0, .int .i64 120000, .int .i64 4000, .int .i64 0] 90)).alloc (.cells #[.slice (some ⟨w.heap.size + 1, 0, none⟩) 2 2] 79)).alloc (.cells #[.string ⟨#[107]⟩, .int .i64 0, .int .i64 0, .int .i64 0] 92)) w.heap.size 26 [.slice (some ⟨w.heap.size + 1 + 1, 0, none⟩) 1 1, .slice none 0 0, .slice (some ⟨w.heap.size + 1 + 1 + 1, 0, none⟩) 1 1, .int .i64 5000, .int .i64 1] := ((Bx.alloc (bx_new w [.slice (some ⟨w.heap.size + 1 + 1, 0, none⟩) 1 1, .slice none 0 0, .slice (some ⟨w.heap.size + 1 + 1 + 1, 0, none⟩) 1 1, .int .i64 5000, .int .i64 1] 26) _).alloc _).alloc _
  have KB : Bx ((((w.alloc (.cells #[.slice (some ⟨w.heap.size + 1 + 1, 0, none⟩) 1 1, .slice none 0 0, .slice (some ⟨w.heap.size + 1 + 1 + 1, 0, none⟩) 1 1, .int .i64 5000, .int .i64 1] 26)).alloc (.cells #[.int .i64 0, .int .i64 2000, .int .i64 0, .int .i64 120000, .int .i64 4000, .int .i64 0] 90)).alloc (.cells #[.slice (some ⟨w.heap.size + 1, 0, none⟩) 2 2] 79)).alloc (.cells #[.string ⟨#[107]⟩, .int .i64 0, .int .i64 0, .int .i64 0] 92)) (w.heap.size + 1) 90 [.int .i64 0, .int .i64 2000, .int .i64 0, .int .i64 120000, .int .i64 4000, .int .i64 0] := ((bx_at (w.alloc (.cells #[.slice (some ⟨w.heap.size + 1 + 1, 0, none⟩) 1 1, .slice none 0 0, .slice (some ⟨w.heap.size + 1 + 1 + 1, 0, none⟩) 1 1, .int .i64 5000, .int .i64 1] 26)) [.int .i64 0, .int .i64 2000, .int .i64 0, .int .i64 120000, .int .i64 4000, .int .i64 0] 90 (by simp)).alloc _).alloc _
  have KC : Bx ((((w.alloc (.cells #[.slice (some ⟨w.heap.size + 1 + 1, 0, none⟩) 1 1, .slice none 0 0, .slice (some ⟨w.heap.size + 1 + 1 + 1, 0, none⟩) 1 1, .int .i64 5000, .int .i64 1] 26)).alloc (.cells #[.int .i64 0, .int .i64 2000, .int .i64 0, .int .i64 120000, .int .i64 4000, .int .i64 0] 90)).alloc (.cells #[.slice (some ⟨w.heap.size + 1, 0, none⟩) 2 2] 79)).alloc (.cells #[.string ⟨#[107]⟩, .int .i64 0, .int .i64 0, .int .i64 0] 92)) (w.heap.size + 1 + 1) 79 [.slice (some ⟨w.heap.size + 1, 0, none⟩) 2 2] := (bx_at ((w.alloc (.cells #[.slice (some ⟨w.heap.size + 1 + 1, 0, none⟩) 1 1, .slice none 0 0, .slice (some ⟨w.heap.size + 1 + 1 + 1, 0, none⟩) 1 1, .int .i64 5000, .int .i64 1] 26)).alloc (.cells #[.int .i64 0, .int .i64 2000, .int .i64 0, .int .i64 120000, .int .i64 4000, .int .i64 0] 90)) [.slice (some ⟨w.heap.size + 1, 0, none⟩) 2 2] 79 (by simp)).alloc _
  have B : Below w.heap.size w ((((w.alloc (.cells #[.slice (some ⟨w.heap.size + 1 + 1, 0, none⟩) 1 1, .slice none 0 0, .slice (some ⟨w.heap.size + 1 + 1 + 1, 0, none⟩) 1 1, .int .i64 5000, .int .i64 1] 26)).alloc (.cells #[.int .i64 0, .int .i64 2000, .int .i64 0, .int .i64 120000, .int .i64 4000, .int .i64 0] 90)).alloc (.cells #[.slice (some ⟨w.heap.size + 1, 0, none⟩) 2 2] 79)).alloc (.cells #[.string ⟨#[107]⟩, .int .i64 0, .int .i64 0, .int .i64 0] 92)) := ((((Below.refl _ _).alloc (Nat.le_refl _) _).alloc (by simp) _).alloc (by simp; omega) _).alloc (by simp; omega) _
  have z0 := KA.cell (i := 0) rfl
  have z1 := KA.cell (i := 1) rfl
  have z2 := KA.cell (i := 2) rfl
  have z3 := KA.cell (i := 3) rfl
  have z4 := KA.cell (i := 4) rfl
  refine bodyPost_ret (v := .agg #[.slice (some ⟨w.heap.size + 1 + 1, 0, none⟩) 1 1, .slice none 0 0, .slice (some ⟨w.heap.size + 1 + 1 + 1, 0, none⟩) 1 1, .int .i64 5000, .int .i64 1]) (by simp [results, Tryd.results18, go_sem, z0, z1, z2, z3, z4]) rfl ⟨w.heap.size + 1, w.heap.size + 1 + 1, w.heap.size + 1 + 1 + 1, rfl, fun _ => ⟨_, 0, rfl, fun i hi => ?_⟩, B⟩
  obtain rfl : i = 0 := by omega
  refine ⟨KC.cell (i := 0) rfl, fun _ => ⟨_, 0, rfl, fun j hj => ?_⟩⟩
  have hj : j < 2 := hj
  have : j = 0 ∨ j = 1 := by omega
  rcases this with rfl | rfl
  · exact ⟨KB.cell (i := 0) rfl, KB.cell (i := 1) rfl, KB.cell (i := 2) rfl⟩
  · exact ⟨KB.cell (i := 3) rfl, KB.cell (i := 4) rfl, KB.cell (i := 5) rfl⟩
def g3 (i : Nat) : St := ⟨0, 1, 12000, 0, decide (i = 2), if i = 2 then 11001 else 5000⟩
theorem sim_year_v (b0 b1 b2 : Nat) : tyL 12 12 (simT b0 b1 b2) g3 3 = [800, 1600, 3600] ∧ firstE (tyE 12 12 (simT b0 b1 b2) g3) 3 = 0 := by
  constructor <;> kernel_rfl
theorem sim_rate_v (b0 b1 b2 : Nat) : rateT (simT b0 b1 b2) 0 1 12000 0 11000 1 12 = (4000, 0) := by kernel_rfl
theorem sim_corn_v (b0 b1 b2 : Nat) : cornT (simT b0 b1 b2) 0 1 12000 0 1 12 = ([1000, 11000], 0) := by kernel_rfl
theorem yrB_24 : yrB 2024 4 6 = true := by decide +kernel
theorem nom_4 : nom 4 = 12 := by decide +kernel
theorem cnt_24 : cnt 4 2024 4 6 = 12 := by decide +kernel

theorem g3_F (i : Nat) : (g3 i).F := by
  refine ⟨⟨by show (-9223372036854775808 : Int) ≤ 12000; omega, by show (12000 : Int) ≤ _; omega⟩, ?_⟩
  show -9223372036854775808 ≤ (if i = 2 then (11001 : Int) else 5000) ∧ (if i = 2 then (11001 : Int) else 5000) ≤ _
  split <;> omega
theorem sim_year (b0 b1 b2 p : Nat) (A : Option Addr) (c : Nat) (w : World) (h : SchM w (some ⟨b1, 0, none⟩) 1 (simT b0 b1 b2).S) (hY : Yr w p 4 2024 4 6) (hA : Sts w A 3 g3) :
    Calls Tryd.prog 8 #[.agg #[.slice (some ⟨b1, 0, none⟩) 1 1, .slice none 0 0, .slice (some ⟨b2, 0, none⟩) 1 1, .int .i64 5000, .int .i64 1], .pointer (some ⟨p, 0, none⟩), .slice A 3 c] w fun e w' => ∃ v, e = .returned (.tuple #[v, .int .i64 0]) ∧ Iw w' w.heap.size v [800, 1600, 3600] ∧ Below w.heap.size w w' := by
  have := tyear_tab (simT b0 b1 b2) p 4 2024 4 6 A 3 c g3 w h (simT_ok b0 b1 b2) hY yrB_24 (by omega) (by omega) hA (fun i _ => g3_F i) (by rw [cnt_24]; omega) (by omega)
  rw [nom_4, cnt_24] at this
  refine this.mono fun e w' ⟨h1, _, hb⟩ => ?_
  obtain ⟨v, he, hv⟩ := h1 (sim_year_v b0 b1 b2).2
  rw [(sim_year_v b0 b1 b2).1] at hv
  exact ⟨v, he, hv, hb⟩
theorem sim_rate (b0 b1 b2 : Nat) (w : World) (h : SchM w (some ⟨b1, 0, none⟩) 1 (simT b0 b1 b2).S) :
    Calls Tryd.prog 19 #[.agg #[.slice (some ⟨b1, 0, none⟩) 1 1, .slice none 0 0, .slice (some ⟨b2, 0, none⟩) 1 1, .int .i64 5000, .int .i64 1], .agg #[.int .i64 0, .int .i64 1, .int .i64 12000, .int .i64 0, .bool false], .int .i64 11000, .int .i64 1, .int .i64 12] w fun e w' => e = .returned (.tuple #[.int .i64 4000, .int .i64 0]) ∧ Below w.heap.size w w' := by
  have := rate_tab (simT b0 b1 b2) 0 1 12000 0 false 11000 1 12 w h (simT_ok b0 b1 b2) (by omega) (by omega)
  rw [sim_rate_v] at this
  exact this
theorem sim_corn (b0 b1 b2 : Nat) (w : World) (h : SchM w (some ⟨b1, 0, none⟩) 1 (simT b0 b1 b2).S) :
    Calls Tryd.prog 20 #[.agg #[.slice (some ⟨b1, 0, none⟩) 1 1, .slice none 0 0, .slice (some ⟨b2, 0, none⟩) 1 1, .int .i64 5000, .int .i64 1], .agg #[.int .i64 0, .int .i64 1, .int .i64 12000, .int .i64 0, .bool false], .int .i64 1, .int .i64 12] w fun e w' => ∃ v, e = .returned (.tuple #[v, .int .i64 0]) ∧ Iw w' w.heap.size v [1000, 11000] ∧ Below w.heap.size w w' := by
  have := corn_tab (simT b0 b1 b2) 0 1 12000 0 false 1 12 w h (simT_ok b0 b1 b2) (by omega) (by omega)
  rw [sim_corn_v] at this
  exact this
/-- three steps in a block of their own -/
theorem sts_three (W : World) (b : Nat) (h : Bx W b 44 [.int .i64 0, .int .i64 1, .int .i64 12000, .int .i64 0, .bool false, .int .i64 5000, .int .i64 0, .int .i64 1, .int .i64 12000, .int .i64 0, .bool false, .int .i64 5000, .int .i64 0, .int .i64 1, .int .i64 12000, .int .i64 0, .bool true, .int .i64 11001]) : Sts W (some ⟨b, 0, none⟩) 3 g3 := fun _ => ⟨b, 0, rfl, fun i hi => by
  have : i = 0 ∨ i = 1 ∨ i = 2 := by omega
  rcases this with rfl | rfl | rfl
  · exact ⟨h.cell (i := 0) rfl, h.cell (i := 1) rfl, h.cell (i := 2) rfl, h.cell (i := 3) rfl, h.cell (i := 4) rfl, h.cell (i := 5) rfl⟩
  · exact ⟨h.cell (i := 6) rfl, h.cell (i := 7) rfl, h.cell (i := 8) rfl, h.cell (i := 9) rfl, h.cell (i := 10) rfl, h.cell (i := 11) rfl⟩
  · exact ⟨h.cell (i := 12) rfl, h.cell (i := 13) rfl, h.cell (i := 14) rfl, h.cell (i := 15) rfl, h.cell (i := 16) rfl, h.cell (i := 17) rfl⟩⟩
set_option maxRecDepth 100000 in
set_option maxHeartbeats 4000000 in
theorem dues_any (w : World) (hK : Kinds w) :
    Calls Tryd.prog 5 #[] w fun e w' => e = .returned (.bool true) ∧ Below w.heap.size w w' := by
  have nw := new_ok 4 2024 4 6 (by omega) (by omega) yrB_24 w hK
  go_enter Tryd.func5, Tryd.ntmps5
  go_wp2_with (fail)
  with_reducible refine nw.mono ?_
  rintro e w1 ⟨p, rfl, hp, hY, hb⟩
  have K1 : Bx ((w1.alloc (.cells #[.int .i64 0, .int .i64 1, .int .i64 12000, .int .i64 0, .bool false] 42)).alloc (.cells #[.int .i64 0, .int .i64 1, .int .i64 12000, .int .i64 0, .bool true] 42)) w1.heap.size 42 [.int .i64 0, .int .i64 1, .int .i64 12000, .int .i64 0, .bool false] := (bx_new w1 [.int .i64 0, .int .i64 1, .int .i64 12000, .int .i64 0, .bool false] 42).alloc _
  have K2 : Bx ((w1.alloc (.cells #[.int .i64 0, .int .i64 1, .int .i64 12000, .int .i64 0, .bool false] 42)).alloc (.cells #[.int .i64 0, .int .i64 1, .int .i64 12000, .int .i64 0, .bool true] 42)) (w1.heap.size + 1) 42 [.int .i64 0, .int .i64 1, .int .i64 12000, .int .i64 0, .bool true] := bx_at _ [.int .i64 0, .int .i64 1, .int .i64 12000, .int .i64 0, .bool true] 42 (by simp)
  have N3 : Below w1.heap.size w1 ((w1.alloc (.cells #[.int .i64 0, .int .i64 1, .int .i64 12000, .int .i64 0, .bool false] 42)).alloc (.cells #[.int .i64 0, .int .i64 1, .int .i64 12000, .int .i64 0, .bool true] 42)) := ((Below.refl _ _).alloc (Nat.le_refl _) _).alloc (by simp) _
  have Y3 := hY.below N3
  have B3 := below_step hb N3 hb.size
  clear hY hb N3 nw
  go_wp2_with (fail)
  generalize ((w1.alloc (.cells #[.int .i64 0, .int .i64 1, .int .i64 12000, .int .i64 0, .bool false] 42)).alloc (.cells #[.int .i64 0, .int .i64 1, .int .i64 12000, .int .i64 0, .bool true] 42)) = w3 at *
  have k0 := K1.cell (i := 0) rfl
  have k1 := K1.cell (i := 1) rfl
  have k2 := K1.cell (i := 2) rfl
  have k3 := K1.cell (i := 3) rfl
  have k4 := K1.cell (i := 4) rfl
  have k5 := K2.cell (i := 0) rfl
  have k6 := K2.cell (i := 1) rfl
  have k7 := K2.cell (i := 2) rfl
  have k8 := K2.cell (i := 3) rfl
  have k9 := K2.cell (i := 4) rfl
  have S1 : w3.drew.cell? ⟨w1.heap.size, 0, none⟩ = some (.int .i64 0) ∧ w3.drew.cell? ⟨w1.heap.size, 1, none⟩ = some (.int .i64 1) ∧ w3.drew.cell? ⟨w1.heap.size, 2, none⟩ = some (.int .i64 12000) ∧ w3.drew.cell? ⟨w1.heap.size, 3, none⟩ = some (.int .i64 0) ∧ w3.drew.cell? ⟨w1.heap.size, 4, none⟩ = some (.bool false) ∧ w3.drew.cell? ⟨w1.heap.size + 1, 0, none⟩ = some (.int .i64 0) ∧ w3.drew.cell? ⟨w1.heap.size + 1, 1, none⟩ = some (.int .i64 1) ∧ w3.drew.cell? ⟨w1.heap.size + 1, 2, none⟩ = some (.int .i64 12000) ∧ w3.drew.cell? ⟨w1.heap.size + 1, 3, none⟩ = some (.int .i64 0) ∧ w3.drew.cell? ⟨w1.heap.size + 1, 4, none⟩ = some (.bool true) ∧ Below w3.heap.size w3 w3.drew := ⟨k0, k1, k2, k3, k4, k5, k6, k7, k8, k9, (Below.refl _ _).drew⟩
  have step : ∀ X Y : World, Below X.heap.size X Y → (X.cell? ⟨w1.heap.size, 0, none⟩ = some (.int .i64 0) ∧ X.cell? ⟨w1.heap.size, 1, none⟩ = some (.int .i64 1) ∧ X.cell? ⟨w1.heap.size, 2, none⟩ = some (.int .i64 12000) ∧ X.cell? ⟨w1.heap.size, 3, none⟩ = some (.int .i64 0) ∧ X.cell? ⟨w1.heap.size, 4, none⟩ = some (.bool false) ∧ X.cell? ⟨w1.heap.size + 1, 0, none⟩ = some (.int .i64 0) ∧ X.cell? ⟨w1.heap.size + 1, 1, none⟩ = some (.int .i64 1) ∧ X.cell? ⟨w1.heap.size + 1, 2, none⟩ = some (.int .i64 12000) ∧ X.cell? ⟨w1.heap.size + 1, 3, none⟩ = some (.int .i64 0) ∧ X.cell? ⟨w1.heap.size + 1, 4, none⟩ = some (.bool true) ∧ Below w3.heap.size w3 X) → (Y.cell? ⟨w1.heap.size, 0, none⟩ = some (.int .i64 0) ∧ Y.cell? ⟨w1.heap.size, 1, none⟩ = some (.int .i64 1) ∧ Y.cell? ⟨w1.heap.size, 2, none⟩ = some (.int .i64 12000) ∧ Y.cell? ⟨w1.heap.size, 3, none⟩ = some (.int .i64 0) ∧ Y.cell? ⟨w1.heap.size, 4, none⟩ = some (.bool false) ∧ Y.cell? ⟨w1.heap.size + 1, 0, none⟩ = some (.int .i64 0) ∧ Y.cell? ⟨w1.heap.size + 1, 1, none⟩ = some (.int .i64 1) ∧ Y.cell? ⟨w1.heap.size + 1, 2, none⟩ = some (.int .i64 12000) ∧ Y.cell? ⟨w1.heap.size + 1, 3, none⟩ = some (.int .i64 0) ∧ Y.cell? ⟨w1.heap.size + 1, 4, none⟩ = some (.bool true) ∧ Below w3.heap.size w3 Y) := fun X Y hb h => ⟨cell_later hb h.1, cell_later hb h.2.1, cell_later hb h.2.2.1, cell_later hb h.2.2.2.1, cell_later hb h.2.2.2.2.1, cell_later hb h.2.2.2.2.2.1, cell_later hb h.2.2.2.2.2.2.1, cell_later hb h.2.2.2.2.2.2.2.1, cell_later hb h.2.2.2.2.2.2.2.2.1, cell_later hb h.2.2.2.2.2.2.2.2.2.1, below_step h.2.2.2.2.2.2.2.2.2.2 hb h.2.2.2.2.2.2.2.2.2.2.size⟩
  go_region_held3 (fun X => X.cell? ⟨w1.heap.size, 0, none⟩ = some (.int .i64 0) ∧ X.cell? ⟨w1.heap.size, 1, none⟩ = some (.int .i64 1) ∧ X.cell? ⟨w1.heap.size, 2, none⟩ = some (.int .i64 12000) ∧ X.cell? ⟨w1.heap.size, 3, none⟩ = some (.int .i64 0) ∧ X.cell? ⟨w1.heap.size, 4, none⟩ = some (.bool false) ∧ X.cell? ⟨w1.heap.size + 1, 0, none⟩ = some (.int .i64 0) ∧ X.cell? ⟨w1.heap.size + 1, 1, none⟩ = some (.int .i64 1) ∧ X.cell? ⟨w1.heap.size + 1, 2, none⟩ = some (.int .i64 12000) ∧ X.cell? ⟨w1.heap.size + 1, 3, none⟩ = some (.int .i64 0) ∧ X.cell? ⟨w1.heap.size + 1, 4, none⟩ = some (.bool true) ∧ Below w3.heap.size w3 X)
    ((first | exact S1 | assumption | exact step _ _ hb6 (by assumption) | exact step _ _ hb7 (by assumption) | exact step _ _ ((Below.refl _ _).alloc (Nat.le_refl _) _) (by assumption)))
    (first
      | (go_at_call 18; with_reducible refine (sim_any _).mono ?_; rintro e w6 ⟨b0, b1, b2, rfl, h6, hb6⟩; have S6 := step _ _ hb6 (by assumption); have Y6 := Y3.below S6.2.2.2.2.2.2.2.2.2.2; (try have s6 : Bx w6 w3.heap.size 44 [.int .i64 0, .int .i64 1, .int .i64 12000, .int .i64 0, .bool false, .int .i64 5000, .int .i64 0, .int .i64 1, .int .i64 12000, .int .i64 0, .bool false, .int .i64 5000, .int .i64 0, .int .i64 1, .int .i64 12000, .int .i64 0, .bool true, .int .i64 11001] := (by first | exact (bx_at w3.drew [.int .i64 0, .int .i64 1, .int .i64 12000, .int .i64 0, .bool false, .int .i64 5000, .int .i64 0, .int .i64 1, .int .i64 12000, .int .i64 0, .bool false, .int .i64 5000, .int .i64 0, .int .i64 1, .int .i64 12000, .int .i64 0, .bool true, .int .i64 11001] 44 rfl).below hb6 | exact Bx.below (W := (w3.alloc (.cells #[.int .i64 0, .int .i64 1, .int .i64 12000, .int .i64 0, .bool false, .int .i64 5000, .int .i64 0, .int .i64 1, .int .i64 12000, .int .i64 0, .bool false, .int .i64 5000, .int .i64 0, .int .i64 1, .int .i64 12000, .int .i64 0, .bool true, .int .i64 11001] 44)).drew) ((bx_new w3 [.int .i64 0, .int .i64 1, .int .i64 12000, .int .i64 0, .bool false, .int .i64 5000, .int .i64 0, .int .i64 1, .int .i64 12000, .int .i64 0, .bool false, .int .i64 5000, .int .i64 0, .int .i64 1, .int .i64 12000, .int .i64 0, .bool true, .int .i64 11001] 44).of_block rfl) hb6)))
      | (go_at_call 8; (first | (with_reducible refine (sim_year b0 b1 b2 p _ _ _ (h6.below ((Below.refl _ _).alloc (Nat.le_refl _) (.cells #[.int .i64 0, .int .i64 1, .int .i64 12000, .int .i64 0, .bool false, .int .i64 5000, .int .i64 0, .int .i64 1, .int .i64 12000, .int .i64 0, .bool false, .int .i64 5000, .int .i64 0, .int .i64 1, .int .i64 12000, .int .i64 0, .bool true, .int .i64 11001] 44))) (Y6.below ((Below.refl _ _).alloc (Nat.le_refl _) _)) (sts_three _ _ (bx_new w6 [.int .i64 0, .int .i64 1, .int .i64 12000, .int .i64 0, .bool false, .int .i64 5000, .int .i64 0, .int .i64 1, .int .i64 12000, .int .i64 0, .bool false, .int .i64 5000, .int .i64 0, .int .i64 1, .int .i64 12000, .int .i64 0, .bool true, .int .i64 11001] 44))).mono ?_) | (with_reducible refine (sim_year b0 b1 b2 p _ _ _ h6 Y6 (sts_three _ _ s6)).mono ?_)); rintro e w7 ⟨v7, rfl, hv7, hb7⟩; have S7 := step _ _ hb7 (by assumption)))
  all_goals
    have c7 : ∃ g c, v7 = .slice (some ⟨g, 0, none⟩) 3 c ∧ w7.cell? ⟨g, 0, none⟩ = some (.int .i64 800) ∧ w7.cell? ⟨g, 1, none⟩ = some (.int .i64 1600) ∧ w7.cell? ⟨g, 2, none⟩ = some (.int .i64 3600) := by
      rcases iw_cell hv7 with ⟨h1, _⟩ | ⟨g, c, hv, _, _, hc⟩
      · cases h1
      · exact ⟨g, c, hv, hc 0 _ rfl, hc 1 _ rfl, hc 2 _ rfl⟩
    obtain ⟨g7, q7, rfl, a0, a1, a2⟩ := c7
    have B7 := below_step B3 S7.2.2.2.2.2.2.2.2.2.2 B3.size
    have K1 := K1.below S7.2.2.2.2.2.2.2.2.2.2
    have K2 := K2.below S7.2.2.2.2.2.2.2.2.2.2
    clear S1 step k0 k1 k2 k3 k4 k5 k6 k7 k8 k9 hv7 hb7 S7 S6 hb6 h6 Y6 Y3 B3
    have hg7 := World.block_lt_of_cell? _ _ a0
    have k0 := K1.cell (i := 0) rfl
    have k1 := K1.cell (i := 1) rfl
    have k2 := K1.cell (i := 2) rfl
    have k3 := K1.cell (i := 3) rfl
    have k4 := K1.cell (i := 4) rfl
    go_wp2_with (fail)
    have S1B : w7.drew.cell? ⟨w1.heap.size, 0, none⟩ = some (.int .i64 0) ∧ w7.drew.cell? ⟨w1.heap.size, 1, none⟩ = some (.int .i64 1) ∧ w7.drew.cell? ⟨w1.heap.size, 2, none⟩ = some (.int .i64 12000) ∧ w7.drew.cell? ⟨w1.heap.size, 3, none⟩ = some (.int .i64 0) ∧ w7.drew.cell? ⟨w1.heap.size, 4, none⟩ = some (.bool false) ∧ Below w7.heap.size w7 w7.drew := ⟨k0, k1, k2, k3, k4, (Below.refl _ _).drew⟩
    have stepB : ∀ X Y : World, Below X.heap.size X Y → (X.cell? ⟨w1.heap.size, 0, none⟩ = some (.int .i64 0) ∧ X.cell? ⟨w1.heap.size, 1, none⟩ = some (.int .i64 1) ∧ X.cell? ⟨w1.heap.size, 2, none⟩ = some (.int .i64 12000) ∧ X.cell? ⟨w1.heap.size, 3, none⟩ = some (.int .i64 0) ∧ X.cell? ⟨w1.heap.size, 4, none⟩ = some (.bool false) ∧ Below w7.heap.size w7 X) → (Y.cell? ⟨w1.heap.size, 0, none⟩ = some (.int .i64 0) ∧ Y.cell? ⟨w1.heap.size, 1, none⟩ = some (.int .i64 1) ∧ Y.cell? ⟨w1.heap.size, 2, none⟩ = some (.int .i64 12000) ∧ Y.cell? ⟨w1.heap.size, 3, none⟩ = some (.int .i64 0) ∧ Y.cell? ⟨w1.heap.size, 4, none⟩ = some (.bool false) ∧ Below w7.heap.size w7 Y) := fun X Y hb h => ⟨cell_later hb h.1, cell_later hb h.2.1, cell_later hb h.2.2.1, cell_later hb h.2.2.2.1, cell_later hb h.2.2.2.2.1, below_step h.2.2.2.2.2 hb h.2.2.2.2.2.size⟩
    go_region_held3 (fun X => X.cell? ⟨w1.heap.size, 0, none⟩ = some (.int .i64 0) ∧ X.cell? ⟨w1.heap.size, 1, none⟩ = some (.int .i64 1) ∧ X.cell? ⟨w1.heap.size, 2, none⟩ = some (.int .i64 12000) ∧ X.cell? ⟨w1.heap.size, 3, none⟩ = some (.int .i64 0) ∧ X.cell? ⟨w1.heap.size, 4, none⟩ = some (.bool false) ∧ Below w7.heap.size w7 X)
      ((first | exact S1B | assumption | exact stepB _ _ hb8 (by assumption) | exact stepB _ _ hb9 (by assumption)))
      (first
        | (go_at_call 18; with_reducible refine (sim_any _).mono ?_; rintro e w8 ⟨e0, e1, e2, rfl, h8, hb8⟩)
        | (go_at_call 19; with_reducible refine (sim_rate e0 e1 e2 _ h8).mono ?_; rintro e w9 ⟨rfl, hb9⟩; have S9 := stepB _ _ hb9 (by assumption)))
    have B9 := below_step B7 S9.2.2.2.2.2 B7.size
    have K1 := K1.below S9.2.2.2.2.2
    have a0 := cell_later S9.2.2.2.2.2 a0
    have a1 := cell_later S9.2.2.2.2.2 a1
    have a2 := cell_later S9.2.2.2.2.2 a2
    clear S1B stepB S9 hb8 hb9 h8 k0 k1 k2 k3 k4 B7
    have k0 := K1.cell (i := 0) rfl
    have k1 := K1.cell (i := 1) rfl
    have k2 := K1.cell (i := 2) rfl
    have k3 := K1.cell (i := 3) rfl
    have k4 := K1.cell (i := 4) rfl
    go_wp2_with (fail)
    have S1C : w9.drew.cell? ⟨w1.heap.size, 0, none⟩ = some (.int .i64 0) ∧ w9.drew.cell? ⟨w1.heap.size, 1, none⟩ = some (.int .i64 1) ∧ w9.drew.cell? ⟨w1.heap.size, 2, none⟩ = some (.int .i64 12000) ∧ w9.drew.cell? ⟨w1.heap.size, 3, none⟩ = some (.int .i64 0) ∧ w9.drew.cell? ⟨w1.heap.size, 4, none⟩ = some (.bool false) ∧ Below w9.heap.size w9 w9.drew := ⟨k0, k1, k2, k3, k4, (Below.refl _ _).drew⟩
    have stepC : ∀ X Y : World, Below X.heap.size X Y → (X.cell? ⟨w1.heap.size, 0, none⟩ = some (.int .i64 0) ∧ X.cell? ⟨w1.heap.size, 1, none⟩ = some (.int .i64 1) ∧ X.cell? ⟨w1.heap.size, 2, none⟩ = some (.int .i64 12000) ∧ X.cell? ⟨w1.heap.size, 3, none⟩ = some (.int .i64 0) ∧ X.cell? ⟨w1.heap.size, 4, none⟩ = some (.bool false) ∧ Below w9.heap.size w9 X) → (Y.cell? ⟨w1.heap.size, 0, none⟩ = some (.int .i64 0) ∧ Y.cell? ⟨w1.heap.size, 1, none⟩ = some (.int .i64 1) ∧ Y.cell? ⟨w1.heap.size, 2, none⟩ = some (.int .i64 12000) ∧ Y.cell? ⟨w1.heap.size, 3, none⟩ = some (.int .i64 0) ∧ Y.cell? ⟨w1.heap.size, 4, none⟩ = some (.bool false) ∧ Below w9.heap.size w9 Y) := fun X Y hb h => ⟨cell_later hb h.1, cell_later hb h.2.1, cell_later hb h.2.2.1, cell_later hb h.2.2.2.1, cell_later hb h.2.2.2.2.1, below_step h.2.2.2.2.2 hb h.2.2.2.2.2.size⟩
    go_region_held3 (fun X => X.cell? ⟨w1.heap.size, 0, none⟩ = some (.int .i64 0) ∧ X.cell? ⟨w1.heap.size, 1, none⟩ = some (.int .i64 1) ∧ X.cell? ⟨w1.heap.size, 2, none⟩ = some (.int .i64 12000) ∧ X.cell? ⟨w1.heap.size, 3, none⟩ = some (.int .i64 0) ∧ X.cell? ⟨w1.heap.size, 4, none⟩ = some (.bool false) ∧ Below w9.heap.size w9 X)
      ((first | exact S1C | assumption | exact stepC _ _ hb10 (by assumption) | exact stepC _ _ hb11 (by assumption)))
      (first
        | (go_at_call 18; with_reducible refine (sim_any _).mono ?_; rintro e w10 ⟨i0, i1, i2, rfl, h10, hb10⟩)
        | (go_at_call 20; with_reducible refine (sim_corn i0 i1 i2 _ h10).mono ?_; rintro e w11 ⟨v11, rfl, hv11, hb11⟩; have S11 := stepC _ _ hb11 (by assumption)))
    have B11 := below_step B9 S11.2.2.2.2.2 B9.size
    have a0 := cell_later S11.2.2.2.2.2 a0
    have a1 := cell_later S11.2.2.2.2.2 a1
    have a2 := cell_later S11.2.2.2.2.2 a2
    have c11 : ∃ g c, v11 = .slice (some ⟨g, 0, none⟩) 2 c ∧ w11.cell? ⟨g, 0, none⟩ = some (.int .i64 1000) ∧ w11.cell? ⟨g, 1, none⟩ = some (.int .i64 11000) := by
      rcases iw_cell hv11 with ⟨h1, _⟩ | ⟨g, c, hv, _, _, hc⟩
      · cases h1
      · exact ⟨g, c, hv, hc 0 _ rfl, hc 1 _ rfl⟩
    obtain ⟨g11, q11, rfl, b0', b1'⟩ := c11
    clear S1C stepC S11 hb10 hb11 h10 hv11 k0 k1 k2 k3 k4 B9 K1 K2
    go_wp2
    go_ret
    exact ⟨rfl, B11⟩
end Go.Proofs.YtfnjhalpedccaaaDoor
