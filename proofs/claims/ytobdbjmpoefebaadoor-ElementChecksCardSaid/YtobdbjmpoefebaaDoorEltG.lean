/- What element.Same answers of like elements. -/
import Derived.Test.YtobdbjmpoefebaaDoorEltF
import Derived.LoopTactic
import Derived.Deep.QuietTactic
import Derived.BigQuiet
namespace Go.Proofs.YtobdbjmpoefebaaDoor
open Go.RowKit Go.Sort
set_option linter.unusedVariables false
set_option linter.unusedSimpArgs false
theorem neq_el (N : ByteArray) (a u : Int) (W : World) : (binOp .neq 45 (.agg #[.string N, .int .i64 a, .int .i64 u]) (.agg #[.string N, .int .i64 a, .int .i64 u])).run Tryd.prog W = .ok (.bool false) W := by
  simp [go_sem]
set_option maxHeartbeats 1000000 in
theorem equal_els (A A' : Option Addr) (n c c' : Nat) (w : World) (E : Nat → EB) (h : ElM w A n E) (h' : ElM w A' n E) (hn : n ≤ 1000000) :
    Calls Tryd.prog 78 #[.slice A n c, .slice A' n c'] w fun e w' => e = .returned (.bool true) ∧ Below w.heap.size w w' := by
  have n0 : ((n : Int) != (n : Int)) = false := by simp
  have H := Lib.hid h
  have H' := Lib.hid h'
  clear h h'
  go_enter Tryd.func78, Tryd.ntmps78
  go_wp2
  go_loopw [13] (fun k W => ∃ i : Nat, i ≤ n ∧ k = .int .i64 i ∧ Below w.heap.size w W) (fun k _ => n - (intOf k).toNat)
  case atStart => exact ⟨0, Nat.zero_le _, rfl, Below.refl _ _⟩
  case round =>
    obtain ⟨i, hi, rfl, hb⟩ := hrel
    by_cases hlt : i < n
    · obtain ⟨b, o, rfl, hc⟩ := H.out (by omega)
      obtain ⟨b', o', rfl, hc'⟩ := H'.out (by omega)
      obtain ⟨x0, x1, x2⟩ := hc i hlt
      obtain ⟨y0, y1, y2⟩ := hc' i hlt
      have c0 := cell_later hb x0
      have c1 := cell_later hb x1
      have c2 := cell_later hb x2
      have d0 := cell_later hb y0
      have d1 := cell_later hb y1
      have d2 := cell_later hb y2
      have i4 : (i : Int) < (n : Int) := by omega
      clear x0 x1 x2 y0 y1 y2 hc hc'
      have hne := neq_el (E i).N (E i).A (E i).U
      generalize (E i).N = p at *
      generalize (E i).A = q at *
      generalize (E i).U = r at *
      go_wp2
      go_quiet (fail)
      go_wp2
      go_roundw
      case rel => exact ⟨i + 1, by omega, by go_num, below_drewN hb _⟩
      case measure => first | omega | (simp [intOf]; omega)
    · obtain rfl : i = n := by omega
      go_wp2
      go_ret
      exact ⟨rfl, hb⟩
theorem same_els (A A' : Option Addr) (n c c' : Nat) (w : World) (E : Nat → EB) (h : ElM w A n E) (h' : ElM w A' n E) (hn : n ≤ 1000000) :
    Calls Tryd.prog 34 #[.slice A n c, .slice A' n c'] w fun e w' => e = .returned (.bool true) ∧ Below w.heap.size w w' := by
  have q := fun w h h' => equal_els A A' n c c' w E h h' hn
  go_enter Tryd.func34, Tryd.ntmps34
  go_wp2_with (fail)
  refine (q _ h h').mono ?_
  rintro e w2 ⟨rfl, hb⟩
  go_wp2
  go_ret
  exact ⟨rfl, hb⟩
end Go.Proofs.YtobdbjmpoefebaaDoor
