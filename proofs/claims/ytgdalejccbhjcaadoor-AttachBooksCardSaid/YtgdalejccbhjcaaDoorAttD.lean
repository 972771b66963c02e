/- The first call of attach's laws: two orders served. -/
import Derived.Test.YtgdalejccbhjcaaDoorAttC
namespace Go.Proofs.YtgdalejccbhjcaaDoor
open Go.RowKit Go.Sort
set_option linter.unusedVariables false
set_option linter.unusedSimpArgs false

def sgA : Sta := ⟨1, 0, 50, 0, 0, 0, 0⟩
def sgB : Sta := ⟨2, 0, 50, 0, 0, 0, 5⟩
def sg (i : Nat) : Sta := if i = 0 then sgA else sgB
theorem sg_ok : ∀ i, i < 2 → (sg i).OK := fun i hi => by
  rcases (show i = 0 ∨ i = 1 by omega) with rfl | rfl
  · exact ⟨by decide +kernel, by decide +kernel, by decide +kernel⟩
  · exact ⟨by decide +kernel, by decide +kernel, by decide +kernel⟩
theorem sg_sv : svB sg 130 2 = true := by decide +kernel
theorem sg_left : (130 : Int) - (max (130 - 50) 0 - rmX sg 130 (max (130 - 50) 0) 2) = 50 := by decide +kernel
theorem sg_t0 : svT sg 130 (max (130 - 50) 0) 0 = ⟨1, 0, 50, 50, 50, 0⟩ := by
  have h1 : sg 0 = sgA := rfl
  have h2 : (sg 0).ordX 130 = 50 := by decide +kernel
  have h3 : (sg 0).dueX 130 = 50 := by decide +kernel
  have h4 : tkX sg 130 (max (130 - 50) 0) 0 = 50 := by decide +kernel
  unfold svT
  rw [h2, h3, h4]; rfl
theorem sg_t1 : svT sg 130 (max (130 - 50) 0) 1 = ⟨2, 5, 50, 55, 30, 25⟩ := by
  have h2 : (sg 1).ordX 130 = 50 := by decide +kernel
  have h3 : (sg 1).dueX 130 = 55 := by decide +kernel
  have h4 : tkX sg 130 (max (130 - 50) 0) 1 = 30 := by decide +kernel
  unfold svT
  rw [h2, h3, h4]; rfl
theorem tx_25 : tx 25 = .string ⟨#[48, 46, 50, 53]⟩ := by
  have : txt 25 = [48, 46, 50, 53] := by decide +kernel
  unfold tx
  rw [this]
set_option maxRecDepth 100000 in
set_option maxHeartbeats 8000000 in
theorem serves_any (w : World) (hT : Tab w) : Calls Tryd.prog 9 #[] w fun e w' => e = .returned (.bool true) ∧ Below w.heap.size w w' := by
  have KA := (bx_new w [.int .i64 1, .int .i64 0, .int .i64 50, .int .i64 0, .int .i64 0, .int .i64 0, .int .i64 0] 32).alloc (.cells #[.int .i64 2, .int .i64 0, .int .i64 50, .int .i64 0, .int .i64 0, .int .i64 0, .int .i64 5] 32)
  have KB := bx_at (w.alloc (.cells #[.int .i64 1, .int .i64 0, .int .i64 50, .int .i64 0, .int .i64 0, .int .i64 0, .int .i64 0] 32)) [.int .i64 2, .int .i64 0, .int .i64 50, .int .i64 0, .int .i64 0, .int .i64 0, .int .i64 5] 32 (n := w.heap.size + 1) (by simp)
  have B1 := (below_new w (.cells #[.int .i64 1, .int .i64 0, .int .i64 50, .int .i64 0, .int .i64 0, .int .i64 0, .int .i64 0] 32)).alloc (by simp) (.cells #[.int .i64 2, .int .i64 0, .int .i64 50, .int .i64 0, .int .i64 0, .int .i64 0, .int .i64 5] 32)
  have KC := bx_at ((w.alloc (.cells #[.int .i64 1, .int .i64 0, .int .i64 50, .int .i64 0, .int .i64 0, .int .i64 0, .int .i64 0] 32)).alloc (.cells #[.int .i64 2, .int .i64 0, .int .i64 50, .int .i64 0, .int .i64 0, .int .i64 0, .int .i64 5] 32)) [.int .i64 1, .int .i64 0, .int .i64 50, .int .i64 0, .int .i64 0, .int .i64 0, .int .i64 0, .int .i64 2, .int .i64 0, .int .i64 50, .int .i64 0, .int .i64 0, .int .i64 0, .int .i64 5] 32 (n := w.heap.size + 1 + 1) (by simp)
  have B2 := B1.alloc B1.size (.cells #[.int .i64 1, .int .i64 0, .int .i64 50, .int .i64 0, .int .i64 0, .int .i64 0, .int .i64 0, .int .i64 2, .int .i64 0, .int .i64 50, .int .i64 0, .int .i64 0, .int .i64 0, .int .i64 5] 32)
  have a0 := KA.cell (i := 0) rfl
  have a1 := KA.cell (i := 1) rfl
  have a2 := KA.cell (i := 2) rfl
  have a3 := KA.cell (i := 3) rfl
  have a4 := KA.cell (i := 4) rfl
  have a5 := KA.cell (i := 5) rfl
  have a6 := KA.cell (i := 6) rfl
  have b0 := KB.cell (i := 0) rfl
  have b1 := KB.cell (i := 1) rfl
  have b2 := KB.cell (i := 2) rfl
  have b3 := KB.cell (i := 3) rfl
  have b4 := KB.cell (i := 4) rfl
  have b5 := KB.cell (i := 5) rfl
  have b6 := KB.cell (i := 6) rfl
  have HO : Ors _ (some ⟨w.heap.size + 1 + 1, 0, none⟩) 2 sg := ors_of KC (fun i hi j hj => by
    rcases (show i = 0 ∨ i = 1 by omega) with rfl | rfl
    all_goals
      rcases (show j = 0 ∨ j = 1 ∨ j = 2 ∨ j = 3 ∨ j = 4 ∨ j = 5 ∨ j = 6 by omega) with rfl | rfl | rfl | rfl | rfl | rfl | rfl <;> rfl)
  have cS := serve_any 130 50 (some ⟨w.heap.size + 1 + 1, 0, none⟩) 2 2 sg _ HO sg_ok (by decide +kernel) (by decide) (by decide)
  have hT2 := hT.below B2
  clear KA KB KC B1 HO hT
  go_enter Tryd.func9, Tryd.ntmps9
  go_wp2_with (fail)
  with_reducible refine cS.mono ?_
  rintro e w3 ⟨hyes, _, NB⟩
  obtain ⟨v, rfl, HOw⟩ := hyes sg_sv
  rw [sg_left]
  have B3 := below_step B2 NB B2.size
  have hT3 := hT2.below NB
  obtain ⟨A, c, rfl, hA, hg⟩ := own_len HOw
  obtain ⟨gb, rfl⟩ := hg (by omega)
  have HK := tks_own HOw
  have cM := asum_any (some ⟨gb, 0, none⟩) 2 c _ w3 HK (by decide) (fun i hi => by
    rcases (show i = 0 ∨ i = 1 by omega) with rfl | rfl
    · rw [sg_t0]; decide +kernel
    · rw [sg_t1]; decide +kernel) (fun i hi => by
    rcases (show i = 0 ∨ i = 1 ∨ i = 2 by omega) with rfl | rfl | rfl
    · decide +kernel
    · decide +kernel
    · decide +kernel)
  rw [show sumT (svT sg 130 (max (130 - 50) 0)) 2 = 80 by decide +kernel] at cM
  clear cS a0 a1 a2 a3 a4 a5 a6 b0 b1 b2 b3 b4 b5 b6 NB B2 hT2 hyes hA hg HOw
  go_wp2_with (fail)
  with_reducible refine cM.mono ?_
  rintro e w4 ⟨rfl, NB⟩
  have B4 := below_step B3 NB B3.size
  have hT4 := hT3.below NB
  replace HK := HK.below NB
  have cR := aright_any (some ⟨gb, 0, none⟩) 2 c _ w4 HK (by decide) (fun i hi => by
    rcases (show i = 0 ∨ i = 1 by omega) with rfl | rfl
    · rw [sg_t0]; decide +kernel
    · rw [sg_t1]; decide +kernel) true (by decide +kernel)
  have cL := fun W h => line_any ⟨2, 5, 50, 55, 30, 25⟩ W h (by unfold Tkn.F fit; simp)
  unfold Tkn.v at cL
  simp only at cL
  obtain ⟨gb', o, e, hc⟩ := id (HK (by decide))
  obtain ⟨rfl, rfl⟩ : gb = gb' ∧ 0 = o := by simpa using e
  have t0 := hc 0 (by decide)
  have t1 := hc 1 (by decide)
  rw [sg_t0] at t0
  rw [sg_t1] at t1
  have x0 : w4.cell? ⟨gb, 4, none⟩ = some (.int .i64 50) := t0.2.2.2.2.1
  obtain ⟨y0, y1, y2, y3, y4, y5⟩ := t1
  replace y0 : w4.cell? ⟨gb, 6, none⟩ = some (.int .i64 2) := y0
  replace y1 : w4.cell? ⟨gb, 7, none⟩ = some (.int .i64 5) := y1
  replace y2 : w4.cell? ⟨gb, 8, none⟩ = some (.int .i64 50) := y2
  replace y3 : w4.cell? ⟨gb, 9, none⟩ = some (.int .i64 55) := y3
  replace y4 : w4.cell? ⟨gb, 10, none⟩ = some (.int .i64 30) := y4
  replace y5 : w4.cell? ⟨gb, 11, none⟩ = some (.int .i64 25) := y5
  clear cM NB B3 hT3 HK hc e t0
  go_wp2_with (fail)
  with_reducible refine cR.mono ?_
  rintro e w5 ⟨rfl, NB⟩
  have B5 := below_step B4 NB B4.size
  have hT5 := hT4.below NB
  replace y0 := cell_later NB y0
  replace y1 := cell_later NB y1
  replace y2 := cell_later NB y2
  replace y3 := cell_later NB y3
  replace y4 := cell_later NB y4
  replace y5 := cell_later NB y5
  clear cR x0 B4 hT4 NB
  go_wp2_with (fail)
  with_reducible refine (cL _ hT5).mono ?_
  rintro e w6 ⟨lb, rfl, KL, _, NB⟩
  have B6 := below_step B5 NB B5.size
  have l3 := KL.cell (i := 3) rfl
  simp only [tx_25] at l3
  clear KL cL NB B5 y0 y1 y2 y3 y4 y5 hT5
  go_wp2
  go_ret
  exact ⟨rfl, B6⟩
end Go.Proofs.YtgdalejccbhjcaaDoor
