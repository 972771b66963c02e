/- Functions of straight pieces in memory; what the small calls of piece answer. -/
import Derived.Test.YtcldknmhmbpboaaOwnN
import Derived.Test.YtcldknmhmbpboaaPcD
import Derived.Deep.QuietTactic
import Derived.BigQuiet
import Derived.BigGuardPart
import Derived.Lib.QuietBelow
import Derived.Deep.RegionWith
namespace Go.Proofs.Ytcldknmhmbpboaa
open Go.RowKit Go.Sort
set_option linter.unusedVariables false
set_option linter.unusedSimpArgs false

/-- a slice's pieces, wherever they lie -/
def Lm (w : World) (A : Option Addr) (f : Lf) : Prop :=
  0 < f.n → ∃ b o, A = some ⟨b, o, none⟩ ∧ ∀ i, i < f.n → w.cell? ⟨b, o + i * 3, none⟩ = some (.int .i64 (f.F i)) ∧ w.cell? ⟨b, o + i * 3 + 1, none⟩ = some (.int .i64 (f.V i)) ∧ w.cell? ⟨b, o + i * 3 + 2, none⟩ = some (.int .i64 (f.R i))
theorem Lm.below {w w' : World} {A : Option Addr} {f : Lf} (h : Lm w A f) (hb : Below w.heap.size w w') : Lm w' A f := fun hn => by
  obtain ⟨b, o, e, hc⟩ := h hn
  exact ⟨b, o, e, fun i hi => ⟨cell_later hb (hc i hi).1, cell_later hb (hc i hi).2.1, cell_later hb (hc i hi).2.2⟩⟩
/-- may a value be? -/
def vB (y : Int) : Bool := decide (-4000000000000000 ≤ y ∧ y ≤ 4000000000000000)
def xB (x : Int) : Bool := decide (0 ≤ x ∧ x ≤ 10000000000)
theorem held_go {F : Exit → Act → World → Prop} {e : Exit} {a : Act} {W : World} (S : World → Prop) (h : S W) (k : ∀ W, S W → F e a W) : F e a W := k W h
theorem within_any (x : Int) (w : World) : Calls Try.prog 26 #[.int .i64 x] w fun e w' => e = .returned (.bool (xB x)) ∧ Below w.heap.size w w' := by
  by_cases h1 : 0 ≤ x
  · have d1 : decide (0 ≤ x) = true := decide_eq_true h1
    have hE : xB x = decide (x ≤ 10000000000) := by unfold xB; simp [h1]
    go_enter Try.func26, Try.ntmps26
    go_wp2
    go_ret
    exact ⟨ret_b (by rw [hE]), Below.refl _ _⟩
  · have d1 : decide (0 ≤ x) = false := decide_eq_false h1
    have hE : xB x = false := by unfold xB; simp [h1]
    go_enter Try.func26, Try.ntmps26
    go_wp2
    go_ret
    exact ⟨rfl, Below.refl _ _⟩
theorem right_any (x : Int) (w : World) : Calls Try.prog 28 #[.int .i64 x] w fun e w' => e = .returned (.bool (vB x)) ∧ Below w.heap.size w w' := by
  by_cases h1 : -4000000000000000 ≤ x
  · have d1 : decide (-4000000000000000 ≤ x) = true := decide_eq_true h1
    have hE : vB x = decide (x ≤ 4000000000000000) := by unfold vB; simp [h1]
    go_enter Try.func28, Try.ntmps28
    go_wp2
    go_ret
    exact ⟨ret_b (by rw [hE]), Below.refl _ _⟩
  · have d1 : decide (-4000000000000000 ≤ x) = false := decide_eq_false h1
    have hE : vB x = false := by unfold vB; simp [h1]
    go_enter Try.func28, Try.ntmps28
    go_wp2
    go_ret
    exact ⟨rfl, Below.refl _ _⟩
theorem lat_any (f v r x : Int) (w : World) (h1 : -4000000000000000000 ≤ x - f ∧ x - f ≤ 4000000000000000000) (h2 : -4000000000000000 ≤ (x - f) * r ∧ (x - f) * r ≤ 4000000000000000) (h3 : -9000000000000000 ≤ v ∧ v ≤ 9000000000000000) :
    Calls Try.prog 27 #[.agg #[.int .i64 f, .int .i64 v, .int .i64 r], .int .i64 x] w fun e w' => e = .returned (.int .i64 (v + (x - f) * r)) ∧ Below w.heap.size w w' := by
  have w1 : IntKind.i64.wrap (x - f) = x - f := IntWalk.i64_in _ (by omega)
  have w2 : IntKind.i64.wrap ((x - f) * r) = (x - f) * r := IntWalk.i64_in _ (by omega)
  have w3 : IntKind.i64.wrap (v + (x - f) * r) = v + (x - f) * r := IntWalk.i64_in _ (by omega)
  have B1 := below_new w (.cells #[.int .i64 f, .int .i64 v, .int .i64 r] 37)
  go_enter Try.func27, Try.ntmps27
  go_wp2
  go_ret
  exact ⟨rfl, B1⟩
theorem since_any (f v r x : Int) (w : World) (h1 : -4000000000000000000 ≤ x - f ∧ x - f ≤ 4000000000000000000) (h2 : -4000000000000000 ≤ (x - f) * r ∧ (x - f) * r ≤ 4000000000000000) (h3 : -9000000000000000 ≤ v ∧ v ≤ 9000000000000000) :
    Calls Try.prog 35 #[.agg #[.int .i64 f, .int .i64 v, .int .i64 r], .int .i64 x] w fun e w' => e = .returned (.agg #[.int .i64 x, .int .i64 (v + (x - f) * r), .int .i64 r]) ∧ Below w.heap.size w w' := by
  have B1 := below_new w (.cells #[.int .i64 f, .int .i64 v, .int .i64 r] 37)
  have B2 := B1.alloc (by simp) (.cells #[.int .i64 0, .int .i64 0, .int .i64 0] 37)
  have K1 : Bx ((w.alloc (.cells #[.int .i64 f, .int .i64 v, .int .i64 r] 37)).alloc (.cells #[.int .i64 0, .int .i64 0, .int .i64 0] 37)).drew w.heap.size 37 [.int .i64 f, .int .i64 v, .int .i64 r] := (bx_new w [.int .i64 f, .int .i64 v, .int .i64 r] 37).alloc _
  have K2 : Bx ((w.alloc (.cells #[.int .i64 f, .int .i64 v, .int .i64 r] 37)).alloc (.cells #[.int .i64 0, .int .i64 0, .int .i64 0] 37)).drew (w.heap.size + 1) 37 [.int .i64 0, .int .i64 0, .int .i64 0] := bx_at (w.alloc (.cells #[.int .i64 f, .int .i64 v, .int .i64 r] 37)) [.int .i64 0, .int .i64 0, .int .i64 0] 37 (by simp)
  have p10 := K1.cell (i := 0) rfl
  have p11 := K1.cell (i := 1) rfl
  have p12 := K1.cell (i := 2) rfl
  have c := fun W => lat_any f v r x W h1 h2 h3
  generalize v + (x - f) * r = y at *
  clear h1 h2 h3
  go_enter Try.func35, Try.ntmps35
  go_wp2
  go_region_with (go_at_call 27; (with_reducible refine (c _).mono ?_); rintro e w2 ⟨rfl, hb⟩; have k1 := K1.below hb; have k2 := K2.below hb; have k10 := k1.cell (i := 0) rfl; have k11 := k1.cell (i := 1) rfl; have k12 := k1.cell (i := 2) rfl; have k20 := k2.cell (i := 0) rfl; have k21 := k2.cell (i := 1) rfl; have k22 := k2.cell (i := 2) rfl; have k2f0 := k2.fr 0; have k2f1 := k2.fr 1; have k2f2 := k2.fr 2; have B3 := below_step B2.drew hb B2.size)
  all_goals
    refine held_go (fun X => Below w.heap.size w X ∧ Bx X (w.heap.size + 1) 37 [.int .i64 x, .int .i64 y, .int .i64 r]) ⟨((B3.setCell (p := ⟨w.heap.size + 1, 0, none⟩) (by simp) _).setCell (p := ⟨w.heap.size + 1, 1, none⟩) (by simp) _).setCell (p := ⟨w.heap.size + 1, 2, none⟩) (by simp) _, ((k2.set 0 (.int .i64 x)).set 1 (.int .i64 y)).set 2 (.int .i64 r)⟩ ?_
    rintro W9 ⟨B9, K9⟩
    have j0 := K9.cell (i := 0) rfl
    have j1 := K9.cell (i := 1) rfl
    have j2 := K9.cell (i := 2) rfl
    clear k1 k2 k10 k11 k12 k20 k21 k22 k2f0 k2f1 k2f2 K1 K2 p10 p11 p12 B1 B2
    go_wp2
    exact bodyPost_ret (v := .agg #[.int .i64 x, .int .i64 y, .int .i64 r]) (by simp [results, Try.results35, go_sem, j0, j1, j2]) rfl ⟨rfl, B9⟩
theorem last_any (A : Option Addr) (c : Nat) (f : Lf) (i : Nat) (w : World) (h : Lm w A f) (hi : i < f.n) (hn : f.n ≤ 4611686018427387904) (hb : ∀ i, i < f.n → 0 ≤ f.F i ∧ f.F i ≤ 10000000000) :
    Calls Try.prog 29 #[.slice A f.n c, .int .i64 (i : Int)] w fun e w' => e = .returned (.int .i64 (f.lst i)) ∧ Below w.heap.size w w' := by
  obtain ⟨b, o, rfl, hc⟩ := h (by omega)
  have w1 : IntKind.i64.wrap ((i : Int) + 1) = (i : Int) + 1 := IntWalk.i64_in _ (by omega)
  by_cases hl : i + 1 < f.n
  · have d1 : decide ((i : Int) + 1 < (f.n : Int)) = true := by simp; omega
    have c0 := (hc (i + 1) hl).1
    have fb := hb (i + 1) hl
    have hE := Lf.lst_in hl
    have e1 : ((i : Int) + 1).toNat = i + 1 := by omega
    go_enter Try.func29, Try.ntmps29
    go_wp2
    go_ret
    exact ⟨ret_i (by rw [hE]), Below.refl _ _⟩
  · have d1 : decide ((i : Int) + 1 < (f.n : Int)) = false := by simp; omega
    have hE := Lf.lst_out hl
    go_enter Try.func29, Try.ntmps29
    go_wp2
    go_ret
    exact ⟨ret_i (by rw [hE]), Below.refl _ _⟩
end Go.Proofs.Ytcldknmhmbpboaa
