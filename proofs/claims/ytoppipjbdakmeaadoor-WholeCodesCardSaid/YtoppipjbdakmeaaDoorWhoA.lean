/- WholeCodes: where the code may not be, or the words are too many. -/
import Derived.Test.YtoppipjbdakmeaaDoorWrdK
import Derived.Test.YtoppipjbdakmeaaDoorWkCodeChecks
namespace Go.Proofs.YtoppipjbdakmeaaDoor
open Go.RowKit
set_option linter.unusedVariables false
set_option linter.unusedSimpArgs false

set_option maxHeartbeats 2000000 in
set_option maxRecDepth 100000 in
theorem whole_bad (s k a f : Int) (x : Bool) (A : Option Addr) (m c : Nat) (n : Int) (w : World) (D : Tab w) (ba : -9223372036854775808 ≤ a ∧ a ≤ 9223372036854775807) (hz : chkC s k a f ≠ 0) :
    Calls Tryd.prog 5 #[.agg #[.int .i64 s, .int .i64 k, .int .i64 a, .int .i64 f, .bool x], .slice A m c, .int .i64 n] w fun e w' => e = .returned (.bool true) ∧ Below w.heap.size w w' := by
  have p1 := fun w => parse_v ⟨#[53, 76]⟩ w (by decide) 0 1 5000 0 0 false rfl
  have nm := fun w => name_b ⟨#[97]⟩ true (by decide +kernel) w (by decide)
  have tx : ∀ w, Calls Tryd.prog 19 #[.agg #[.int .i64 s, .int .i64 k, .int .i64 a, .int .i64 f, .bool x]] w fun e w' => e = .returned (.string ⟨#[]⟩) ∧ Below w.heap.size w w' := fun w => by
    have := text_bad s k a f x w ba.1 ba.2 hz
    rw [txtC_bad hz] at this
    exact this
  have ck := fun w => check_any s k a f x w ba.1 ba.2
  have t1 : (chkC s k a f != 0) = true := by simpa using hz
  have K0 := kd_new w s k a f x D
  clear hz
  generalize chkC s k a f = v at *
  go_enter Tryd.func5, Tryd.ntmps5
  go_wp2_with (fail)
  refine (p1 _).mono ?_
  rintro e w1 ⟨rfl, hb⟩
  have H := K0.step hb
  have C9 := cb_new w1 0 1 5000 0 false 47
  have hn := below_new w1 (.cells #[.int .i64 0, .int .i64 1, .int .i64 5000, .int .i64 0, .bool false] 47)
  replace H := H.step hn
  clear hb hn K0
  obtain ⟨⟨e0, e1, e2, e3, e4⟩, ez⟩ := C9
  obtain ⟨B, ⟨⟨d0, d1, d2, d3, d4⟩, dz⟩, T⟩ := id H
  go_wp2_with (fail)
  refine (nm _).mono ?_
  rintro e w' ⟨rfl, rfl⟩
  go_wp2_with (fail)
  refine (tx _).mono ?_
  rintro e w2 ⟨rfl, hb⟩
  replace H := H.step hb
  clear hb B d0 d1 d2 d3 d4 dz T e0 e1 e2 e3 e4 ez
  obtain ⟨B, ⟨⟨d0, d1, d2, d3, d4⟩, dz⟩, T⟩ := id H
  go_wp2_with (fail)
  refine (ck _).mono ?_
  rintro e w3 ⟨rfl, hb⟩
  replace H := H.step hb
  go_wp2
  go_ret
  exact ⟨rfl, H.1⟩
end Go.Proofs.YtoppipjbdakmeaaDoor
