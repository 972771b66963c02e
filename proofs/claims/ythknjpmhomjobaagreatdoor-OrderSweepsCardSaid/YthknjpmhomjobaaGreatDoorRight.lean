/- What money.Right answers, of amounts wherever they lie: whether all of them may be. It changes nothing. -/
import Derived.Test.YthknjpmhomjobaaGreatDoorPlain
import Derived.Test.YthknjpmhomjobaaGreatDoorProg
import Derived.WalkKit
import Derived.WalkSpells
import Derived.Lib.Hide
namespace Go.Proofs.YthknjpmhomjobaaGreatDoor
open Go.RowKit

set_option maxHeartbeats 400000 in
theorem right_any (A : Option Addr) (n c : Nat) (w : World) (f : Nat → Int) (h : rowAt w A n fun i => .int .i64 (f i)) (hn : n ≤ 4611686018427387904) :
    Calls Tryz.prog 26 #[.slice A n c] w fun e w' => e = .returned (.bool (allB f n)) ∧ w = w' := by
  go_enter Tryz.func26, Tryz.ntmps26
  go_wp2
  go_loop [7] (fun k => ∃ i : Nat, i ≤ n ∧ allB f i = true ∧ k = .int .i64 i) (fun k => n - (intOf k).toNat)
  case atStart => exact ⟨0, Nat.zero_le _, by simp [allB], rfl⟩
  case round =>
    obtain ⟨i, hi, ha, rfl⟩ := hrel
    by_cases hlt : i < n
    · obtain ⟨b, o, rfl, hc⟩ := h (by omega)
      have hcell := hc i hlt
      have hs := allB_succ f i
      cases hB : amtB (f i)
      · have hF := allB_false hlt hB
        have HF := Lib.hid hF
        clear hF hs ha
        have hb2 := amtB_no hB
        clear hB hc
        rcases hb2 with hb2 | hb2
        · go_wp2
          go_ret
          exact ⟨ret_b HF.out.symm, rfl⟩
        · have hb3 : ¬ f i < -100000000000 := by omega
          go_wp2
          go_ret
          exact ⟨ret_b HF.out.symm, rfl⟩
      · have hb2 := amtB_yes hB
        obtain ⟨h1, h2⟩ := hb2
        have HS : allB f (i + 1) = true := by rw [hs, ha, hB]; rfl
        have HS := Lib.hid HS
        clear hs ha hB hc
        go_wp2
        go_round
        case rel => exact ⟨i + 1, by omega, HS.out, by go_num⟩
        case measure => simp [intOf]; omega
    · obtain rfl : i = n := by omega
      have HA := Lib.hid ha
      clear ha
      go_wp2
      go_ret
      exact ⟨ret_b HA.out.symm, rfl⟩

theorem row_one (w : World) (x : Value) (t : TypeId) : rowAt (w.alloc (.cells #[x] t)) (some ⟨w.heap.size, 0, none⟩) 1 fun _ => x := fun _ =>
  ⟨_, _, rfl, fun i hi => by
    obtain rfl : i = 0 := by omega
    simp [World.cell?_alloc_new]⟩
theorem row_two (w : World) (x y : Value) (t : TypeId) : rowAt (w.alloc (.cells #[x, y] t)) (some ⟨w.heap.size, 0, none⟩) 2 fun i => if i = 0 then x else y := fun _ =>
  ⟨_, _, rfl, fun i hi => by
    have : i = 0 ∨ i = 1 := by omega
    rcases this with rfl | rfl <;> simp [World.cell?_alloc_new]⟩
theorem right1 (x : Int) (w : World) (t : TypeId) (b : Bool) (hb : amtB x = b) :
    Calls Tryz.prog 26 #[.slice (some ⟨w.heap.size, 0, none⟩) 1 1] (w.alloc (.cells #[.int .i64 x] t)) fun e w' => e = .returned (.bool b) ∧ w.alloc (.cells #[.int .i64 x] t) = w' := by
  have h := right_any _ 1 1 _ (fun _ => x) (row_one w (.int .i64 x) t) (by omega)
  have e : allB (fun _ => x) 1 = b := by simp [allB, hb]
  rw [e] at h
  exact h
theorem right2 (x y : Int) (w : World) (t : TypeId) (b : Bool) (hb : (amtB x && amtB y) = b) :
    Calls Tryz.prog 26 #[.slice (some ⟨w.heap.size, 0, none⟩) 2 2] (w.alloc (.cells #[.int .i64 x, .int .i64 y] t)) fun e w' => e = .returned (.bool b) ∧ w.alloc (.cells #[.int .i64 x, .int .i64 y] t) = w' := by
  have hr := row_two w (.int .i64 x) (.int .i64 y) t
  have e1 : (fun i : Nat => if i = 0 then Value.int .i64 x else Value.int .i64 y) = fun i => .int .i64 (if i = 0 then x else y) := by
    funext i; split <;> rfl
  rw [e1] at hr
  have h := right_any _ 2 2 _ (fun i => if i = 0 then x else y) hr (by omega)
  have e : allB (fun i => if i = 0 then x else y) 2 = b := by simp [allB, List.range_succ, hb]
  rw [e] at h
  exact h
/-- of one amount, wherever it lies -/
theorem right_at (x : Int) (W : World) (b o : Nat) (v : Bool) (hv : amtB x = v) (hc : W.cell? ⟨b, o, none⟩ = some (.int .i64 x)) :
    Calls Tryz.prog 26 #[.slice (some ⟨b, o, none⟩) 1 1] W fun e w' => e = .returned (.bool v) ∧ W = w' := by
  have h := right_any (some ⟨b, o, none⟩) 1 1 W (fun _ => x) (fun _ => ⟨b, o, rfl, fun i hi => by
    obtain rfl : i = 0 := by omega
    exact hc⟩) (by omega)
  have e : allB (fun _ => x) 1 = v := by simp [allB, hv]
  rw [e] at h
  exact h
end Go.Proofs.YthknjpmhomjobaaGreatDoor
