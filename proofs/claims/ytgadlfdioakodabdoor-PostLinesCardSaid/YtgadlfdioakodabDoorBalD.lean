/- slices.DeleteFunc of entries none of which is of nothing. -/
import Derived.Test.YtgadlfdioakodabDoorBalJ
namespace Go.Proofs.YtgadlfdioakodabDoor
open Go.RowKit Go.Sort
set_option linter.unusedVariables false
set_option linter.unusedSimpArgs false

theorem ofc_any (x : En) (w : World) (hx : (x.2 == 0) = false) : Calls Tryd.prog 63 #[.agg (enC x).toArray] w fun e w' => e = .returned (.bool false) ∧ Below w.heap.size w w' := by
  have B1 := below_new w (.cells #[.string x.1, .int .i64 x.2] 26)
  unfold enC
  generalize x.2 = v at *
  go_enter Tryd.func63, Tryd.ntmps63
  go_wp2
  go_ret
  exact ⟨by rw [← hx]; rfl, B1⟩
set_option maxRecDepth 100000 in
set_option maxHeartbeats 4000000 in
theorem idx_none (A : Option Addr) (n c : Nat) (f : Nat → En) (w : World) (h : EnM w A n f) (hn : n ≤ 100000) (hz : ∀ i, i < n → ((f i).2 == 0) = false) :
    Calls Tryd.prog 80 #[.slice A n c, .func (.func 63) #[] #[]] w fun e w' => e = .returned (.int .i64 (-1)) ∧ Below w.heap.size w w' := by
  have HE := Lib.hid h
  have HN := Lib.hid hn
  have HZ := Lib.hid hz
  clear h hn hz
  go_enter Tryd.func80, Tryd.ntmps80
  go_wp2
  go_loopw [8] (fun j X => ∃ i : Nat, i ≤ n ∧ j = .int .i64 i ∧ Below w.heap.size w X) (fun j _ => n - (intOf j).toNat)
  case atStart => exact ⟨0, Nat.zero_le _, rfl, Below.refl _ _⟩
  case round =>
    obtain ⟨i, hi, rfl, hbX⟩ := hrel
    by_cases hlt : i < n
    · have hil : (i : Int) < (n : Int) := by omega
      have hwi : wrap64 ((i : Int) + 1) = (i : Int) + 1 := IntWalk.wrap64_in _ (by have := HN.out; omega)
      obtain ⟨b, o, rfl, hc⟩ := HE.out (by omega)
      obtain ⟨x0, x1⟩ := hc i hlt
      replace x0 := cell_later hbX x0
      replace x1 := cell_later hbX x1
      have HL := Lib.hid hlt
      have cC := fun w => ofc_any (f i) w (HZ.out i hlt)
      unfold enC at cC
      clear hc hi hlt
      generalize (f i).1 = N at *
      generalize (f i).2 = v at *
      have HB := Lib.hid hbX
      clear hbX
      go_wp2_with (fail)
      with_reducible refine (cC _).mono ?_
      rintro e w6 ⟨rfl, hb6⟩
      have hb7 := Lib.hid (below_step HB.out hb6 HB.out.size)
      clear hb6 cC x0 x1
      go_wp2
      exact ⟨⟨i + 1, Nat.succ_le_of_lt HL.out, by go_num, hb7.out⟩, by first | exact meas_step HL.out | (rw [hwi]; exact meas_step HL.out)⟩
    · obtain rfl : i = n := by omega
      have hnl : ¬ (i : Int) < (i : Int) := by omega
      go_wp2
      go_ret
      exact ⟨rfl, hbX⟩
theorem del_none (A : Option Addr) (n c : Nat) (f : Nat → En) (w : World) (h : EnM w A n f) (hn : n ≤ 100000) (hz : ∀ i, i < n → ((f i).2 == 0) = false) :
    Calls Tryd.prog 62 #[.slice A n c, .func (.func 63) #[] #[]] w fun e w' => e = .returned (.slice A n c) ∧ Below w.heap.size w w' := by
  have cI := idx_none A n c f w h hn hz
  clear h hn hz
  go_enter Tryd.func62, Tryd.ntmps62
  go_wp2_with (fail)
  with_reducible refine cI.mono ?_
  rintro e w6 ⟨rfl, hb6⟩
  go_wp2
  go_ret
  exact ⟨rfl, hb6⟩
end Go.Proofs.YtgadlfdioakodabDoor
