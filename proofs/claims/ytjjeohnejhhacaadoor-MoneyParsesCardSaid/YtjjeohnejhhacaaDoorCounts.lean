/- What the statements of the first layer ask first: a sum, a text, a refusal and a spreading of the document's. -/
import Derived.Test.YtjjeohnejhhacaaDoorSpreadC
import Derived.Test.YtjjeohnejhhacaaDoorText
import Derived.Test.YtjjeohnejhhacaaDoorParseC
namespace Go.Proofs.YtjjeohnejhhacaaDoor
open Go.RowKit
theorem txt_one : txt (-125) = [45, 49, 46, 50, 53] := by
  have h : txt (-125) = [45] ++ (Lib.decDigits 1 ++ (46 :: tailB 125)) := rfl
  rw [h, Lib.decDigits_one (by decide)]
  rfl
theorem ones_row (w : World) (t : TypeId) : rowAt (w.alloc (.cells #[.int .i64 1, .int .i64 1, .int .i64 1] t)) (some ⟨w.heap.size, 0, none⟩) 3 fun _ => .int .i64 1 := fun _ =>
  ⟨_, _, rfl, fun i hi => by
    have : i = 0 ∨ i = 1 ∨ i = 2 := by omega
    rcases this with rfl | rfl | rfl <;> simp⟩
set_option maxRecDepth 100000 in
set_option maxHeartbeats 2000000 in
theorem counts_any (w : World) (htab : Tab w) : Calls Tryd.prog 12 #[] w fun e w' => e = .returned (.bool true) ∧ Below w.heap.size w w' := by
  have a1 := fun w => add_ok 250 (-375) w rfl rfl
  have a2 := fun w => add_sum 100000000000 1 w rfl rfl
  have tx := fun w h => text_any (-125) w (by decide) (by decide) h
  rw [txt_one] at tx
  go_enter Tryd.func12, Tryd.ntmps12
  go_wp2_with (fail)
  refine (a1 _).mono ?_
  rintro e w1 ⟨rfl, b1⟩
  go_wp2_with (fail)
  refine (parse_one _).mono ?_
  rintro e w2 ⟨rfl, b2⟩
  go_wp2_with (fail)
  refine (a2 _).mono ?_
  rintro e w3 ⟨rfl, b3⟩
  go_wp2_with (fail)
  refine (spread_three _ _ _ (ones_row _ _)).mono ?_
  rintro e w4 ⟨B, rfl, b4, c0, c1, c2⟩
  have b13 := below_step (below_step b1 b2 b1.size) b3 (below_step b1 b2 b1.size).size
  have b14 : Below w.heap.size w w4 := below_step (b13.alloc b13.size _) b4 (b13.alloc b13.size _).size
  have t4 := htab.below b14
  clear b1 b2 b3 b4 b13 htab c1
  go_wp2_with (fail)
  refine (tx _ t4).mono ?_
  rintro e w5 ⟨rfl, b5⟩
  have d0 := cell_later b5 c0
  have d2 := cell_later b5 c2
  clear t4 c0 c2
  go_wp2_with (fail)
  refine (least_any 1 2 _).mono ?_
  rintro e w' ⟨rfl, rfl⟩
  go_wp2_with (fail)
  refine (greatest_any 1 2 _).mono ?_
  rintro e w' ⟨rfl, rfl⟩
  go_wp2
  go_ret
  exact ⟨rfl, below_step b14 b5 b14.size⟩
end Go.Proofs.YtjjeohnejhhacaaDoor
