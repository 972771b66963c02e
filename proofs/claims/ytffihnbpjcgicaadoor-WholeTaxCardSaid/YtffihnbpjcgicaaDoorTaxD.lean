/- The first call of all of tax's laws. -/
import Derived.Test.YtffihnbpjcgicaaDoorTaxB
import Derived.Test.YtffihnbpjcgicaaDoorPerF
import Derived.Deep.RegionHeld3
namespace Go.Proofs.YtffihnbpjcgicaaDoor
open Go.RowKit Go.Sort
set_option linter.unusedVariables false
set_option linter.unusedSimpArgs false

def simB (b0 : Nat) : SB := ⟨some ⟨b0, 0, none⟩, 2, 2, fun i => if i = 0 then 0 else 120000, fun i => if i = 0 then 2000 else 4000, fun _ => 0⟩
/-- the laws' simple table, wherever it lies -/
def simT (b0 b1 b2 : Nat) : TB := ⟨some ⟨b1, 0, none⟩, 1, 1, none, 0, 0, some ⟨b2, 0, none⟩, 1, 1, 5000, 1, fun _ => simB b0, fun _ => ⟨⟨#[]⟩, 0, simB b0, 0, 0, 0⟩, fun _ => ⟨⟨#[107]⟩, 0, 0, 0⟩⟩
theorem simT_ok (b0 b1 b2 : Nat) : TG (simT b0 b1 b2) := by
  refine ⟨⟨Nat.le_refl _, by show (1 : Nat) ≤ 8; omega, by show (0 : Nat) ≤ 6; omega, Nat.le_refl _, by show (1 : Nat) ≤ 12; omega, by show (0 : Int) ≤ 5000; omega, by show (5000 : Int) ≤ 10000; omega, fun i hi => ?_, fun i hi => absurd hi (Nat.not_lt_zero _)⟩, rfl, by show (1 : Nat) ≤ _; omega, fun i hi => by show (2 : Nat) ≤ _; omega⟩
  refine ⟨by show (1 : Nat) ≤ 2; omega, by show (2 : Nat) ≤ 8; omega, ⟨rfl, fun j h1 h2 => ?_⟩, fun j hj => ?_, fun j hj => ?_, fun j hj => ?_⟩
  · have h2 : j < 2 := h2
    obtain rfl : j = 1 := by omega
    show (0 : Int) < 120000
    omega
  · have hj : j < 2 := hj
    have : j = 0 ∨ j = 1 := by omega
    rcases this with rfl | rfl
    · exact ⟨by show (0 : Int) ≤ 0; omega, by show (0 : Int) ≤ _; omega⟩
    · exact ⟨by show (0 : Int) ≤ 120000; omega, by show (120000 : Int) ≤ _; omega⟩
  · have hj : j < 2 := hj
    have : j = 0 ∨ j = 1 := by omega
    rcases this with rfl | rfl
    · exact ⟨by show (0 : Int) ≤ 2000; omega, by show (2000 : Int) ≤ _; omega⟩
    · exact ⟨by show (0 : Int) ≤ 4000; omega, by show (4000 : Int) ≤ _; omega⟩
  · exact ⟨by show (0 : Int) ≤ 0; omega, by show (0 : Int) ≤ _; omega⟩
def g3 (i : Nat) : St := ⟨0, 1, 12000, 0, decide (i = 2), if i = 2 then 11001 else 5000⟩
theorem sim_year_v (b0 b1 b2 : Nat) : tyL 12 12 (simT b0 b1 b2) g3 3 = [800, 1600, 3600] ∧ firstE (tyE 12 12 (simT b0 b1 b2) g3) 3 = 0 := by
  constructor <;> kernel_rfl
theorem sim_rate_v (b0 b1 b2 : Nat) : rateT (simT b0 b1 b2) 0 1 12000 0 11000 1 12 = (4000, 0) := by kernel_rfl
theorem sim_corn_v (b0 b1 b2 : Nat) : cornT (simT b0 b1 b2) 0 1 12000 0 1 12 = ([1000, 11000], 0) := by kernel_rfl
theorem yrB_24 : yrB 2024 4 6 = true := by decide +kernel
theorem nom_4 : nom 4 = 12 := by decide +kernel
theorem cnt_24 : cnt 4 2024 4 6 = 12 := by decide +kernel

theorem g3_F (i : Nat) : (g3 i).F := by
  refine ⟨⟨by show (-9223372036854775808 : Int) ≤ 12000; omega, by show (12000 : Int) ≤ _; omega⟩, ?_⟩
  show -9223372036854775808 ≤ (if i = 2 then (11001 : Int) else 5000) ∧ (if i = 2 then (11001 : Int) else 5000) ≤ _
  split <;> omega
theorem sim_year (b0 b1 b2 p : Nat) (A : Option Addr) (c : Nat) (w : World) (h : SchM w (some ⟨b1, 0, none⟩) 1 (simT b0 b1 b2).S) (hY : Yr w p 4 2024 4 6) (hA : Sts w A 3 g3) :
    Calls Tryd.prog 33 #[.agg #[.slice (some ⟨b1, 0, none⟩) 1 1, .slice none 0 0, .slice (some ⟨b2, 0, none⟩) 1 1, .int .i64 5000, .int .i64 1], .pointer (some ⟨p, 0, none⟩), .slice A 3 c] w fun e w' => ∃ v, e = .returned (.tuple #[v, .int .i64 0]) ∧ Iw w' w.heap.size v [800, 1600, 3600] ∧ Below w.heap.size w w' := by
  have := tyear_tab (simT b0 b1 b2) p 4 2024 4 6 A 3 c g3 w h (simT_ok b0 b1 b2) hY yrB_24 (by omega) (by omega) hA (fun i _ => g3_F i) (by rw [cnt_24]; omega) (by omega)
  rw [nom_4, cnt_24] at this
  refine this.mono fun e w' ⟨h1, _, hb⟩ => ?_
  obtain ⟨v, he, hv⟩ := h1 (sim_year_v b0 b1 b2).2
  rw [(sim_year_v b0 b1 b2).1] at hv
  exact ⟨v, he, hv, hb⟩
/-- three steps in a block of their own -/
theorem sts_three (W : World) (b : Nat) (h : Bx W b 85 [.int .i64 0, .int .i64 1, .int .i64 12000, .int .i64 0, .bool false, .int .i64 5000, .int .i64 0, .int .i64 1, .int .i64 12000, .int .i64 0, .bool false, .int .i64 5000, .int .i64 0, .int .i64 1, .int .i64 12000, .int .i64 0, .bool true, .int .i64 11001]) : Sts W (some ⟨b, 0, none⟩) 3 g3 := fun _ => ⟨b, 0, rfl, fun i hi => by
  have : i = 0 ∨ i = 1 ∨ i = 2 := by omega
  rcases this with rfl | rfl | rfl
  · exact ⟨h.cell (i := 0) rfl, h.cell (i := 1) rfl, h.cell (i := 2) rfl, h.cell (i := 3) rfl, h.cell (i := 4) rfl, h.cell (i := 5) rfl⟩
  · exact ⟨h.cell (i := 6) rfl, h.cell (i := 7) rfl, h.cell (i := 8) rfl, h.cell (i := 9) rfl, h.cell (i := 10) rfl, h.cell (i := 11) rfl⟩
  · exact ⟨h.cell (i := 12) rfl, h.cell (i := 13) rfl, h.cell (i := 14) rfl, h.cell (i := 15) rfl, h.cell (i := 16) rfl, h.cell (i := 17) rfl⟩⟩
end Go.Proofs.YtffihnbpjcgicaaDoor
