/- The first call of all of codes' laws. -/
import Derived.Test.YtoppipjbdakmeaaDoorCodF
namespace Go.Proofs.YtoppipjbdakmeaaDoor
open Go.RowKit Go.Shelf
set_option linter.unusedVariables false
set_option linter.unusedSimpArgs false

/-- a code in its place, older than what comes -/
def Cb (W : World) (b : Nat) (s k a f : Int) (x : Bool) : Prop := Cd W b s k a f x ∧ b < W.heap.size
theorem Cb.step {W W' : World} {b : Nat} {s k a f : Int} {x : Bool} (h : Cb W b s k a f x) (hb : Below W.heap.size W W') : Cb W' b s k a f x := ⟨h.1.below hb h.2, by have := hb.size; have := h.2; omega⟩
theorem cb_new (w : World) (s k a f : Int) (x : Bool) (t : TypeId) : Cb (w.alloc (.cells #[.int .i64 s, .int .i64 k, .int .i64 a, .int .i64 f, .bool x] t)) w.heap.size s k a f x := ⟨cd_new w s k a f x t, by simp⟩
theorem below_new (w : World) (o : Obj) : Below w.heap.size w (w.alloc o) := (Below.refl _ _).alloc (Nat.le_refl _) _
theorem eqc_yes (s k a f s' k' a' f' : Int) (x x' : Bool) (W : World) (h : s = s' ∧ k = k' ∧ a = a' ∧ f = f' ∧ x = x') : (binOp .eql 47 (.agg #[.int .i64 s, .int .i64 k, .int .i64 a, .int .i64 f, .bool x]) (.agg #[.int .i64 s', .int .i64 k', .int .i64 a', .int .i64 f', .bool x'])).run Tryd.prog W = .ok (.bool true) W := by
  obtain ⟨rfl, rfl, rfl, rfl, rfl⟩ := h
  cases x <;> simp [go_sem]
set_option maxHeartbeats 1000000 in
set_option maxRecDepth 100000 in
theorem codes_any (w : World) (D : Tab w) : Calls Tryd.prog 16 #[] w fun e w' => e = .returned (.bool true) ∧ Below w.heap.size w w' := by
  have p1 := fun w => parse_v ⟨#[49, 50, 53, 55, 76]⟩ w (by decide) 0 1 1257000 0 0 false rfl
  have p2 := fun w => parse_v ⟨#[81, 75, 49, 48, 88]⟩ w (by decide) 2 2 10000 0 0 true rfl
  have p3 := fun w => parse_v ⟨#[68, 49]⟩ w (by decide) 0 3 0 1 0 false rfl
  have f1 := fun w => free_v 0 1 1257000 0 1 12 false 104750 0 (by decide) w (by omega) (by omega)
  have f2 := fun w => free_v 2 2 10000 0 1 12 true (-833) 0 (by decide) w (by omega) (by omega)
  have c1 := fun w => charge_v 0 1 1257000 0 2000000 12 12 false 743000 0 (by decide) w (by omega) (by omega)
  have t1 := fun w D => text_ok 2 2 10000 0 true w D (by decide)
  rw [show txtC 2 2 10000 0 true = [81, 75, 49, 48, 88] from by decide +kernel] at t1
  have q1 := eqc_yes 0 1 1257000 0 0 1 1257000 0 false false
  have q2 := eqc_yes 2 2 10000 0 2 2 10000 0 true true
  have q3 := eqc_yes 0 3 0 1 0 3 0 1 false false
  have q1 := fun W => q1 W (by simp)
  have q2 := fun W => q2 W (by simp)
  have q3 := fun W => q3 W (by simp)
  go_enter Tryd.func16, Tryd.ntmps16
  go_wp2_with (fail)
  refine (p1 _).mono ?_
  rintro e w1 ⟨rfl, hb⟩
  have C1 := cb_new w1 0 1 1257000 0 false 47
  have B1 := below_step hb (below_new w1 (.cells #[.int .i64 0, .int .i64 1, .int .i64 1257000, .int .i64 0, .bool false] 47)) hb.size
  clear hb
  go_wp2_with (fail)
  refine (p2 _).mono ?_
  rintro e w2 ⟨rfl, hb⟩
  have B2 := below_step B1 hb B1.size
  have C1 := C1.step hb
  have C2 := cb_new w2 2 2 10000 0 true 47
  have C1 := C1.step (below_new w2 (.cells #[.int .i64 2, .int .i64 2, .int .i64 10000, .int .i64 0, .bool true] 47))
  have B2 := below_step B2 (below_new w2 (.cells #[.int .i64 2, .int .i64 2, .int .i64 10000, .int .i64 0, .bool true] 47)) B2.size
  clear hb
  go_wp2_with (fail)
  refine (p3 _).mono ?_
  rintro e w3 ⟨rfl, hb⟩
  have B3 := below_step B2 hb B2.size
  have C1 := C1.step hb
  have C2 := C2.step hb
  have C3 := cb_new w3 0 3 0 1 false 47
  have hn := below_new w3 (.cells #[.int .i64 0, .int .i64 3, .int .i64 0, .int .i64 1, .bool false] 47)
  have C1 := C1.step hn
  have C2 := C2.step hn
  have B3 := below_step B3 hn B3.size
  clear hb hn B1 B2
  obtain ⟨a0, a1, a2, a3, a4⟩ := id C1.1
  go_wp2_with (fail)
  refine (f1 _).mono ?_
  rintro e w4 ⟨rfl, hb⟩
  have B4 := below_step B3 hb B3.size
  have C1 := C1.step hb
  have C2 := C2.step hb
  have C3 := C3.step hb
  clear hb B3 a0 a1 a2 a3 a4
  obtain ⟨a0, a1, a2, a3, a4⟩ := id C2.1
  go_wp2_with (fail)
  refine (f2 _).mono ?_
  rintro e w5 ⟨rfl, hb⟩
  have B5 := below_step B4 hb B4.size
  have C1 := C1.step hb
  have C2 := C2.step hb
  have C3 := C3.step hb
  clear hb B4 a0 a1 a2 a3 a4
  obtain ⟨a0, a1, a2, a3, a4⟩ := id C1.1
  go_wp2_with (fail)
  refine (c1 _).mono ?_
  rintro e w6 ⟨rfl, hb⟩
  have B6 := below_step B5 hb B5.size
  have C1 := C1.step hb
  have C2 := C2.step hb
  have C3 := C3.step hb
  clear hb B5 a0 a1 a2 a3 a4
  obtain ⟨a0, a1, a2, a3, a4⟩ := id C1.1
  obtain ⟨b0, b1, b2, b3, b4⟩ := id C2.1
  obtain ⟨d0, d1, d2, d3, d4⟩ := id C3.1
  have T6 := D.below B6
  go_wp2_with (fail)
  refine (t1 _ T6).mono ?_
  rintro e w7 ⟨rfl, hb⟩
  have B7 := below_step B6 hb B6.size
  go_wp2
  go_ret
  exact ⟨rfl, B7⟩
end Go.Proofs.YtoppipjbdakmeaaDoor
