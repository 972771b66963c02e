/- What order.earlier answers: which of two orders is served first. -/
import Derived.Test.YthknjpmhomjobaaGreatDoorOrdS
import Derived.Test.YthknjpmhomjobaaGreatDoorOrdA
import Derived.Test.YthknjpmhomjobaaGreatDoorShelf
import Derived.Deep.RegionHeld3
import Derived.Lib.QuietBelow
namespace Go.Proofs.YthknjpmhomjobaaGreatDoor
open Go.RowKit Go.Sort
set_option linter.unusedVariables false
set_option linter.unusedSimpArgs false

theorem compare_any (x y : Int) (w : World) : Calls Tryz.prog 49 #[.int .i64 x, .int .i64 y] w fun e w' => e = .returned (.int .i64 (cmpI x y)) ∧ w = w' := by
  have h := Tryz.cmp_Compare_int x y w
  rw [show Lib.compareInt x y = cmpI x y from rfl] at h
  exact h.mono fun e w' hh => ⟨hh.1, hh.2.symm⟩
theorem or_two (a b r : Int) (hr : (if a = 0 then b else a) = r) (W2 : World) (n : Nat) (k0 : W2.cell? ⟨n, 0, none⟩ = some (.int .i64 a)) (k1 : W2.cell? ⟨n, 1, none⟩ = some (.int .i64 b)) :
    Calls Tryz.prog 48 #[.slice (some ⟨n, 0, none⟩) 2 2] W2 fun e w' => e = .returned (.int .i64 r) ∧ W2 = w' := by
  have HRR := Lib.hid hr
  clear hr
  go_enter Tryz.func48, Tryz.ntmps48
  go_wp2
  go_loop [8] (fun k => ∃ i : Nat, i ≤ 2 ∧ k = .int .i64 i ∧ (1 ≤ i → a = 0) ∧ (2 ≤ i → b = 0)) (fun k => 2 - (intOf k).toNat)
  case atStart => exact ⟨0, by omega, rfl, fun h => absurd h (by omega), fun h => absurd h (by omega)⟩
  case round =>
    obtain ⟨i, hi, rfl, h1, h2⟩ := hrel
    rcases (show i = 0 ∨ i = 1 ∨ i = 2 by omega) with rfl | rfl | rfl
    · clear h1 h2
      by_cases ha : a = 0
      · have t1 : (a != 0) = false := by simp [ha]
        have HA := Lib.hid ha
        clear ha
        go_wp2
        refine ⟨⟨1, by omega, rfl, fun _ => HA.out, fun h => absurd h (by omega)⟩, ?_⟩
        simp [intOf]
      · have t1 : (a != 0) = true := by simp [ha]
        have HR : Hid (r = a) := Lib.hid (HRR.out.symm.trans (if_neg ha))
        clear ha
        go_wp2
        go_ret
        exact ⟨ret_i HR.out.symm, rfl⟩
    · have ha := h1 (by omega)
      clear h1 h2
      by_cases hb : b = 0
      · have t1 : (b != 0) = false := by simp [hb]
        have HA := Lib.hid ha
        have HB := Lib.hid hb
        clear ha hb
        go_wp2
        refine ⟨⟨2, by omega, rfl, fun _ => HA.out, fun _ => HB.out⟩, ?_⟩
        simp [intOf]
      · have t1 : (b != 0) = true := by simp [hb]
        have HR : Hid (r = b) := Lib.hid (HRR.out.symm.trans (if_pos ha))
        clear ha hb
        go_wp2
        go_ret
        exact ⟨ret_i HR.out.symm, rfl⟩
    · have HR : Hid (r = 0) := Lib.hid (by rw [← HRR.out, if_pos (h1 (by omega))]; exact h2 (by omega))
      clear h1 h2
      go_wp2
      go_ret
      exact ⟨ret_i HR.out.symm, rfl⟩
set_option maxRecDepth 100000 in
set_option maxHeartbeats 4000000 in
theorem earlier_any (x y : Sta) (w : World) :
    Calls Tryz.prog 35 #[x.v, y.v] w fun e w' => e = .returned (.int .i64 (cmpO x y)) ∧ Below w.heap.size w w' := by
  have K1 := (bx_new w x.cs 50).alloc (.cells y.cs.toArray 50)
  have K2 := bx_at (w.alloc (.cells x.cs.toArray 50)) y.cs 50 (n := w.heap.size + 1) (by simp)
  have B1 := (below_new w (.cells x.cs.toArray 50)).alloc (by simp) (.cells y.cs.toArray 50)
  have cA := fun W => compare_any x.pr y.pr W
  have cB := fun W => compare_any x.id y.id W
  have HO : Hid (cmpO x y = if cmpI x.pr y.pr = 0 then cmpI x.id y.id else cmpI x.pr y.pr) := Lib.hid rfl
  have cC := fun W n k0 k1 => or_two (cmpI x.pr y.pr) (cmpI x.id y.id) (cmpO x y) HO.out.symm W n k0 k1
  unfold Sta.v
  unfold Sta.cs at K1 K2 B1
  have k1 := K1.cell (i := 1) rfl
  have k0 := K1.cell (i := 0) rfl
  have l1 := K2.cell (i := 1) rfl
  have l0 := K2.cell (i := 0) rfl
  generalize cmpO x y = cv at *
  generalize cmpI x.pr y.pr = c1 at *
  generalize cmpI x.id y.id = c2 at *
  generalize x.id = x0 at *
  generalize x.pr = x1 at *
  generalize y.id = y0 at *
  generalize y.pr = y1 at *
  clear K1 K2
  go_enter Tryz.func35, Tryz.ntmps35
  go_wp2_with (fail)
  generalize hW : (w.alloc _).alloc _ = W at *
  clear hW
  have hB1 := B1.size
  generalize hp : w.heap.size = p at *
  have HP := Lib.hid hp
  clear hp
  have S1 : W.drew.cell? ⟨p, 0, none⟩ = some (.int .i64 x0) ∧ W.drew.cell? ⟨p, 1, none⟩ = some (.int .i64 x1) ∧ W.drew.cell? ⟨p + 1, 0, none⟩ = some (.int .i64 y0) ∧ W.drew.cell? ⟨p + 1, 1, none⟩ = some (.int .i64 y1) := ⟨k0, k1, l0, l1⟩
  have mk : ∀ V : World, Below W.heap.size W V → (V.cell? ⟨p, 0, none⟩ = some (.int .i64 x0) ∧ V.cell? ⟨p, 1, none⟩ = some (.int .i64 x1) ∧ V.cell? ⟨p + 1, 0, none⟩ = some (.int .i64 y0) ∧ V.cell? ⟨p + 1, 1, none⟩ = some (.int .i64 y1)) := fun V hb => ⟨cell_later hb k0, cell_later hb k1, cell_later hb l0, cell_later hb l1⟩
  have hw : Below W.heap.size W W.drew := (Below.refl _ _).drew
  have KO := bx_new W [.int .i64 c1, .int .i64 c2] 3
  have KO2 := bx_at W.drew [.int .i64 c1, .int .i64 c2] 3 (n := W.heap.size) rfl
  have cD := cC (W.alloc (.cells #[.int .i64 c1, .int .i64 c2] 3)).drew W.heap.size (KO.cell (i := 0) rfl) (KO.cell (i := 1) rfl)
  have cE := cC (W.drew.alloc (.cells #[.int .i64 c1, .int .i64 c2] 3)) W.heap.size (KO2.cell (i := 0) rfl) (KO2.cell (i := 1) rfl)
  go_region_held3 (fun X => X.cell? ⟨p, 0, none⟩ = some (.int .i64 x0) ∧ X.cell? ⟨p, 1, none⟩ = some (.int .i64 x1) ∧ X.cell? ⟨p + 1, 0, none⟩ = some (.int .i64 y0) ∧ X.cell? ⟨p + 1, 1, none⟩ = some (.int .i64 y1))
    ((first | exact S1 | assumption | exact mk _ hw | exact mk _ (hw.alloc hw.size _) | exact mk _ ((below_new W _).drew)))
    (first
      | (go_at_call 49; with_reducible refine (cA _).mono ?_; rintro e w6 ⟨rfl, rfl⟩)
      | (go_at_call 49; with_reducible refine (cB _).mono ?_; rintro e w6 ⟨rfl, rfl⟩)
      | (go_at_call 48; with_reducible refine cD.mono ?_; rintro e w6 ⟨rfl, rfl⟩)
      | (go_at_call 48; with_reducible refine cE.mono ?_; rintro e w6 ⟨rfl, rfl⟩))
  all_goals
    have B5 := ((below_new W (.cells #[.int .i64 c1, .int .i64 c2] 3)).drew)
    have B6 := hw.alloc hw.size (.cells #[.int .i64 c1, .int .i64 c2] 3)
    rw [← HP.out] at B1
    have B7 := below_step B1 B5 B1.size
    have B8 := below_step B1 B6 B1.size
    clear cD cE KO KO2 mk S1
    go_wp2
    go_ret
    first | exact ⟨rfl, B7⟩ | exact ⟨rfl, B8⟩
end Go.Proofs.YthknjpmhomjobaaGreatDoor
