/- What period's Index answers. -/
import Derived.Test.YtkgfmanolanlhaaDoorPerD
import Derived.Test.YtkgfmanolanlhaaDoorIdxE
import Derived.Deep.RegionWith
namespace Go.Proofs.YtkgfmanolanlhaaDoor
open Go.RowKit
set_option linter.unusedVariables false
set_option linter.unusedSimpArgs false
set_option maxRecDepth 100000 in
set_option maxHeartbeats 1000000 in
theorem index_late' (p : Nat) (f y m d a b c : Int) (W : World) (Y : Yr W p f y m d) (hd : dayB a b c = true) (hcs : ∀ w, Calls Tryd.prog 27 #[.agg #[.int .i64 a, .int .i64 b, .int .i64 c], .agg #[.int .i64 y, .int .i64 m, .int .i64 d]] w fun e w' => e = .returned (.int .i64 1) ∧ Below w.heap.size w w') (hce : ∀ w, Calls Tryd.prog 27 #[.agg #[.int .i64 a, .int .i64 b, .int .i64 c], .agg #[.int .i64 (yOf (yend y m d)), .int .i64 (mOf (yend y m d)), .int .i64 (dOf (yend y m d))]] w fun e w' => e = .returned (.int .i64 1) ∧ Below w.heap.size w w') :
    Calls Tryd.prog 53 #[.pointer (some ⟨p, 0, none⟩), .agg #[.int .i64 a, .int .i64 b, .int .i64 c]] W fun e w' => e = .returned (.tuple #[.int .i64 0, .int .i64 1]) ∧ Below W.heap.size W w' := by
  have hc := right_b a b c true hd
  have L0 := ls_new W p f y m d a b c 47 23 Y
  obtain ⟨k0, k1, k2, k3, _, B0, _⟩ := id L0
  clear hd Y
  go_enter Tryd.func53, Tryd.ntmps53
  go_wp2_with (fail)
  refine (hc _).mono ?_
  rintro e w1 ⟨rfl, hb⟩
  have X1 := (XS.of L0).step hb
  have X2 := X1.step (Below.refl _ _).drew
  clear k0 k1 k2 k3 B0 L0 hb
  go_wp2
  go_region_held3 (fun W' => W'.cell? ⟨W.heap.size, 0, none⟩ = some (.pointer (some ⟨p, 0, none⟩)) ∧ W'.cell? ⟨W.heap.size + 1, 0, none⟩ = some (.int .i64 a) ∧ W'.cell? ⟨W.heap.size + 1, 1, none⟩ = some (.int .i64 b) ∧ W'.cell? ⟨W.heap.size + 1, 2, none⟩ = some (.int .i64 c) ∧ W'.cell? ⟨p, 1, none⟩ = some (.int .i64 y) ∧ W'.cell? ⟨p, 2, none⟩ = some (.int .i64 m) ∧ W'.cell? ⟨p, 3, none⟩ = some (.int .i64 d) ∧ W'.cell? ⟨p, 4, none⟩ = some (.int .i64 (yOf (yend y m d))) ∧ W'.cell? ⟨p, 5, none⟩ = some (.int .i64 (mOf (yend y m d))) ∧ W'.cell? ⟨p, 6, none⟩ = some (.int .i64 (dOf (yend y m d))) ∧ LS W W.heap.size (W.heap.size + 1) p f y m d a b c W')
    ((first | exact X2 | exact XS.step hb (by assumption)))
    (first
      | (go_at_call 27; (with_reducible refine (hcs _).mono ?_); rintro e w2 ⟨rfl, hb⟩)
      | (go_at_call 27; (with_reducible refine (hce _).mono ?_); rintro e w2 ⟨rfl, hb⟩))
  rename_i hH
  have hB := hH.2.2.2.2.2.2.2.2.2.2.2.2.2.2.2.1
  clear hb hH X1 X2
  go_wp2
  go_ret2
  exact ⟨rfl, hB⟩
theorem index_early (p : Nat) (f y m d a b c : Int) (W : World) (Y : Yr W p f y m d) (h : yrB y m d = true) (hd : dayB a b c = true) (ho : num a b c < num y m d) :
    Calls Tryd.prog 53 #[.pointer (some ⟨p, 0, none⟩), .agg #[.int .i64 a, .int .i64 b, .int .i64 c]] W fun e w' => e = .returned (.tuple #[.int .i64 0, .int .i64 1]) ∧ Below W.heap.size W w' := by
  refine index_early' p f y m d a b c W Y hd ?_ trivial
  have hcs := compare_int a b c y m d
  rcases cmp3_cases a b c y m d hd (yrB_yes h).1 with ⟨e, l⟩ | ⟨e, l⟩ | ⟨e, l, _⟩
  · rw [e] at hcs; exact hcs
  · omega
  · omega
theorem index_late (p : Nat) (f y m d a b c : Int) (W : World) (Y : Yr W p f y m d) (h : yrB y m d = true) (hd : dayB a b c = true) (ho : yend y m d < num a b c) :
    Calls Tryd.prog 53 #[.pointer (some ⟨p, 0, none⟩), .agg #[.int .i64 a, .int .i64 b, .int .i64 c]] W fun e w' => e = .returned (.tuple #[.int .i64 0, .int .i64 1]) ∧ Below W.heap.size W w' := by
  obtain ⟨e1, e2, e3, e4⟩ := end_day h
  have hl := year_bd (y := y) (d := d) (dayB_yes (yrB_yes h).1).2.2.1
  refine index_late' p f y m d a b c W Y hd ?_ ?_
  · have hcs := compare_int a b c y m d
    rcases cmp3_cases a b c y m d hd (yrB_yes h).1 with ⟨e, l⟩ | ⟨e, l⟩ | ⟨e, l, _⟩
    · omega
    · rw [e] at hcs; exact hcs
    · omega
  · have hce := compare_int a b c (yOf (yend y m d)) (mOf (yend y m d)) (dOf (yend y m d))
    rcases cmp3_cases a b c _ _ _ hd e1 with ⟨e, l⟩ | ⟨e, l⟩ | ⟨e, l, _⟩
    · omega
    · rw [e] at hce; exact hce
    · omega

end Go.Proofs.YtkgfmanolanlhaaDoor
