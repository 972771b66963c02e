/- The first call of all of words' laws. -/
import Derived.Test.YthndkplmhpbgdaaDoorWrdG
namespace Go.Proofs.YthndkplmhpbgdaaDoor
open Go.RowKit
set_option linter.unusedVariables false
set_option linter.unusedSimpArgs false

/-- a cell that is older than what comes -/
def At (W : World) (b o : Nat) (x : Value) : Prop := W.cell? ⟨b, o, none⟩ = some x ∧ b < W.heap.size
theorem At.step {W W' : World} {b o : Nat} {x : Value} (h : At W b o x) (hb : Below W.heap.size W W') : At W' b o x := ⟨(hb.cell (p := ⟨b, o, none⟩) h.2).trans h.1, by have := hb.size; have := h.2; omega⟩
theorem below_new2 (w : World) (o : Obj) : Below w.heap.size w (w.alloc o) := (Below.refl _ _).alloc (Nat.le_refl _) _
theorem row_three (w : World) (x y z : List UInt8) (t : TypeId) : rowAt (w.alloc (.cells #[.string ⟨x.toArray⟩, .string ⟨y.toArray⟩, .string ⟨z.toArray⟩] t)) (some ⟨w.heap.size, 0, none⟩) 3 fun i => sv (([x, y, z] : List (List UInt8)).getD i []) := fun _ =>
  ⟨_, _, rfl, fun i hi => by
    have : i = 0 ∨ i = 1 ∨ i = 2 := by omega
    rcases this with rfl | rfl | rfl <;> simp [World.cell?_alloc_new, sv]⟩
set_option maxHeartbeats 4000000 in
set_option maxRecDepth 100000 in
theorem reads_any (w : World) : Calls Tryd.prog 14 #[] w fun e w' => e = .returned (.bool true) ∧ Below w.heap.size w w' := by
  have c1 := fun w => cut_any ⟨#[112, 97, 121, 32, 97, 110, 110, 32, 32, 34, 97, 32, 35, 32, 98, 34, 32, 45, 49, 50, 32, 35, 32, 115, 111]⟩ w (by decide)
  have e1 : cutV (⟨#[112, 97, 121, 32, 97, 110, 110, 32, 32, 34, 97, 32, 35, 32, 98, 34, 32, 45, 49, 50, 32, 35, 32, 115, 111]⟩ : ByteArray).data.toList = ([[112, 97, 121], [97, 110, 110], [97, 32, 35, 32, 98], [45, 49, 50]], 0) := by decide +kernel
  have hr := fun w => row_three w [112, 97, 121] [] [97, 32, 98] 9
  have c2 := fun w => join_any [[112, 97, 121], [], [97, 32, 98]] (some ⟨w.heap.size, 0, none⟩) 3 3 (w.alloc (.cells #[.string ⟨([112, 97, 121] : List UInt8).toArray⟩, .string ⟨([] : List UInt8).toArray⟩, .string ⟨([97, 32, 98] : List UInt8).toArray⟩] 9)) rfl (hr w) (by decide) (by decide)
  have e2 : joiV [[112, 97, 121], [], [97, 32, 98]] = ([112, 97, 121, 32, 34, 34, 32, 34, 97, 32, 98, 34], 0) := by decide +kernel
  have c3 := fun w => int_any ⟨#[45, 49, 50]⟩ w (by decide)
  have e3 : intV (⟨#[45, 49, 50]⟩ : ByteArray).data.toList = (-12, 0) := by decide +kernel
  have c4 := fun w => opt_yes ⟨#[120, 61, 49, 61, 50]⟩ 1 w (by decide +kernel) (by decide) (by decide)
  have e4 : (⟨#[120, 61, 49, 61, 50]⟩ : ByteArray).extract 0 1 = ⟨#[120]⟩ := by decide +kernel
  have e5 : (⟨#[120, 61, 49, 61, 50]⟩ : ByteArray).extract (1 + 1) (⟨#[120, 61, 49, 61, 50]⟩ : ByteArray).size = ⟨#[49, 61, 50]⟩ := by decide +kernel
  rw [e4, e5] at c4
  have c5 := fun w => name_b ⟨#[97, 110, 110, 45, 50]⟩ true (by decide +kernel) w (by decide)
  have c6 := fun w => name_b ⟨#[50, 97, 110, 110]⟩ false (by decide +kernel) w (by decide)
  have c7 := fun w => lines_any ⟨#[97, 10, 10, 98, 10]⟩ w (by decide)
  have e7 : linV (⟨#[97, 10, 10, 98, 10]⟩ : ByteArray).data.toList = [[97], [], [98]] := by decide +kernel
  rw [e7] at c7
  have E1 := Lib.hid e1
  have E2 := Lib.hid e2
  have E3 := Lib.hid e3
  clear e1 e2 e3 e4 e5 e7 hr
  go_enter Tryd.func14, Tryd.ntmps14
  go_wp2_with (fail)
  refine (c1 _).mono ?_
  rintro e w1 ⟨v, rfl, hr, B1⟩
  rw [E1.out] at hr ⊢
  obtain ⟨A, cc, rfl, hrow⟩ := rs_row hr
  obtain ⟨b, rfl, hb1, h2⟩ := hrow 2 (by simp)
  obtain ⟨b', hbb, _, h3⟩ := hrow 3 (by simp)
  cases hbb
  have K2 : At w1 b 2 (.string ⟨#[97, 32, 35, 32, 98]⟩) := ⟨h2, World.block_lt_of_cell? _ _ h2⟩
  have K3 : At w1 b 3 (.string ⟨#[45, 49, 50]⟩) := ⟨h3, World.block_lt_of_cell? _ _ h3⟩
  clear hrow h2 h3 hr hb1
  go_wp2_with (fail)
  refine (c2 _).mono ?_
  rintro e w2 ⟨rfl, hb⟩
  have hn := below_new2 w1 (.cells #[.string ⟨([112, 97, 121] : List UInt8).toArray⟩, .string ⟨([] : List UInt8).toArray⟩, .string ⟨([97, 32, 98] : List UInt8).toArray⟩] 9)
  have B2 := below_step (below_step B1 hn B1.size) hb (below_step B1 hn B1.size).size
  have K2 := (K2.step hn).step hb
  have K3 := (K3.step hn).step hb
  clear hn hb B1
  rw [E2.out]
  go_wp2_with (fail)
  refine (c3 _).mono ?_
  rintro e w3 ⟨rfl, hb⟩
  have B3 := below_step B2 hb B2.size
  have K2 := K2.step hb
  have K3 := K3.step hb
  clear hb B2
  rw [E3.out]
  go_wp2_with (fail)
  refine (c4 _).mono ?_
  rintro e w4 ⟨rfl, hb⟩
  have B4 := below_step B3 hb B3.size
  have K2 := K2.step hb
  have K3 := K3.step hb
  clear hb B3
  obtain ⟨k2, k2z⟩ := K2
  obtain ⟨k3, k3z⟩ := K3
  go_wp2_with (fail)
  refine (c5 _).mono ?_
  rintro e w' ⟨rfl, rfl⟩
  go_wp2_with (fail)
  refine (c6 _).mono ?_
  rintro e w' ⟨rfl, rfl⟩
  go_wp2_with (fail)
  refine (c7 _).mono ?_
  rintro e w5 ⟨v, rfl, hr, hb⟩
  obtain ⟨A, cc2, rfl, hrow⟩ := rs_row hr
  have B5 := below_step B4 hb B4.size
  clear hrow hr
  go_wp2
  go_ret
  exact ⟨rfl, B5⟩
end Go.Proofs.YthndkplmhpbgdaaDoor
