/- The first call of all of date's laws: a day, its number, its weekday and the day a month on. -/
import Derived.Test.YtkgfmanolanlhaaDoorParseD
import Derived.Deep.RegionWith
namespace Go.Proofs.YtkgfmanolanlhaaDoor
open Go.RowKit
set_option linter.unusedVariables false
set_option linter.unusedSimpArgs false

/-- a day in its place -/
def DS (W : World) (t : Nat × Int × Int × Int) : Prop := Day W t.1 t.2.1 t.2.2.1 t.2.2.2 ∧ t.1 < W.heap.size
/-- some days, held -/
def HD (w : World) (qs : List (Nat × Int × Int × Int)) (W : World) : Prop := Door W ∧ Below w.heap.size w W ∧ ∀ t, t ∈ qs → DS W t
theorem HD.step {w : World} {qs : List (Nat × Int × Int × Int)} {W W' : World} (hb : Below W.heap.size W W') (K : HD w qs W) : HD w qs W' :=
  ⟨K.1.below hb, below_step K.2.1 hb K.2.1.size, fun t ht => ⟨(K.2.2 t ht).1.below hb (K.2.2 t ht).2, by have := (K.2.2 t ht).2; have := hb.size; omega⟩⟩
theorem HD.add {w : World} {qs : List (Nat × Int × Int × Int)} {W : World} (K : HD w qs W) (a b c : Int) (t : TypeId) : HD w ((W.heap.size, a, b, c) :: qs) (W.alloc (.cells #[.int .i64 a, .int .i64 b, .int .i64 c] t)) := by
  have K2 := K.step (W' := W.alloc (.cells #[.int .i64 a, .int .i64 b, .int .i64 c] t)) ((Below.refl _ _).alloc (Nat.le_refl _) _)
  refine ⟨K2.1, K2.2.1, fun s hs => ?_⟩
  rcases List.mem_cons.1 hs with rfl | h
  · exact ⟨day_new W a b c t, by simp⟩
  · exact K2.2.2 s h
theorem HD.nil {w : World} (D : Door w) : HD w [] w := ⟨D, Below.refl _ _, fun _ h => by cases h⟩
theorem HD.sub {w : World} {qs qs' : List (Nat × Int × Int × Int)} {W : World} (K : HD w qs W) (h : ∀ t, t ∈ qs' → t ∈ qs) : HD w qs' W := ⟨K.1, K.2.1, fun t ht => K.2.2 t (h t ht)⟩
theorem HD.drew {w : World} {qs : List (Nat × Int × Int × Int)} {W : World} (K : HD w qs W) : HD w qs W.drew := K.step (Below.refl _ _).drew

def txt0 : ByteArray := ⟨#[50, 48, 50, 52, 45, 48, 49, 45, 51, 49]⟩
theorem pa0 : paV txt0 = .tuple #[.agg #[.int .i64 2024, .int .i64 1, .int .i64 31], .int .i64 0] := by
  unfold paV
  rw [if_pos (by decide), if_pos (by decide)]
  rfl
set_option maxRecDepth 100000 in
theorem days_any (w : World) (D : Door w) : Calls Tryd.prog 11 #[] w fun e w' => e = .returned (.bool true) ∧ Below w.heap.size w w' := by
  have hp := fun W E => parse_any txt0 (by decide) W E
  rw [pa0] at hp
  have hn := number_yes 2024 1 31 (by decide)
  rw [show num 2024 1 31 = 45320 by decide] at hn
  have hw := weekday_yes 2024 1 31 (by decide)
  rw [show num 2024 1 31 % 7 = 2 by decide] at hw
  have hm := months_yes 2024 1 31 1 (by decide) (by decide)
  rw [show yM (mt 2024 1 1) = 2024 by decide, show mM (mt 2024 1 1) = 2 by decide, show dM (mt 2024 1 1) 31 = 29 by decide] at hm
  have ho := of_yes 45320 (by decide) (by decide)
  rw [show yOf 45320 = 2024 by decide, show mOf 45320 = 1 by decide, show dOf 45320 = 31 by decide] at ho
  have hbt := between_yes 2024 1 31 2024 2 29 (by decide) (by decide)
  rw [show num 2024 2 29 - num 2024 1 31 = 29 by decide] at hbt
  have ht := fun W E => text_yes 2024 1 31 (by decide) W E
  rw [show (⟨(txtD 2024 1 31).toArray⟩ : ByteArray) = txt0 by decide] at ht
  unfold txt0 at hp ht
  have K0 := HD.nil D
  go_enter Tryd.func11, Tryd.ntmps11
  go_wp2_with (fail)
  refine (hp _ K0.1).mono ?_
  rintro e w1 ⟨rfl, hb⟩
  have K1 := (K0.step hb).add 2024 1 31 23
  clear hb K0
  obtain ⟨a0, a1, a2⟩ := (K1.2.2 (w1.heap.size, 2024, 1, 31) (by simp)).1
  go_wp2_with (fail)
  refine (hn _).mono ?_
  rintro e w2 ⟨rfl, hb⟩
  have K2 := K1.step hb
  clear hb K1 a0 a1 a2
  obtain ⟨a0, a1, a2⟩ := (K2.2.2 (w1.heap.size, 2024, 1, 31) (by simp)).1
  go_wp2_with (fail)
  refine (hw _).mono ?_
  rintro e w3 ⟨rfl, hb⟩
  have K3 := K2.step hb
  clear hb K2 a0 a1 a2
  obtain ⟨a0, a1, a2⟩ := (K3.2.2 (w1.heap.size, 2024, 1, 31) (by simp)).1
  go_wp2_with (fail)
  refine (hm _).mono ?_
  rintro e w4 ⟨rfl, hb⟩
  have K4 := (K3.step hb).add 2024 2 29 23
  clear hb K3 a0 a1 a2
  go_wp2_with (fail)
  refine (ho _).mono ?_
  rintro e w5 ⟨rfl, hb⟩
  have K5 := (K4.step hb).add 2024 1 31 23
  clear hb K4
  obtain ⟨a0, a1, a2⟩ := (K5.2.2 (w1.heap.size, 2024, 1, 31) (by simp)).1
  obtain ⟨b0, b1, b2⟩ := (K5.2.2 (w4.heap.size, 2024, 2, 29) (by simp)).1
  go_wp2_with (fail)
  refine (hbt _).mono ?_
  rintro e w6 ⟨rfl, hb⟩
  have K6 := K5.step hb
  clear hb K5 a0 a1 a2 b0 b1 b2
  obtain ⟨a0, a1, a2⟩ := (K6.2.2 (w1.heap.size, 2024, 1, 31) (by simp)).1
  obtain ⟨b0, b1, b2⟩ := (K6.2.2 (w4.heap.size, 2024, 2, 29) (by simp)).1
  obtain ⟨c0, c1, c2⟩ := (K6.2.2 (w5.heap.size, 2024, 1, 31) (by simp)).1
  go_wp2_with (fail)
  refine (ht _ K6.1).mono ?_
  rintro e w7 ⟨rfl, hb⟩
  have B7 := (K6.step hb).2.1
  clear hb K6 a0 a1 a2 b0 b1 b2 c0 c1 c2
  go_wp2
  go_ret
  exact ⟨rfl, B7⟩
end Go.Proofs.YtkgfmanolanlhaaDoor
