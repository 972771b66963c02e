/- The first call of all of share's laws. -/
import Derived.Test.YtgdalejccbhjcaaDoorShrD
namespace Go.Proofs.YtgdalejccbhjcaaDoor
open Go.RowKit Go.Sort
set_option linter.unusedVariables false
set_option linter.unusedSimpArgs false

theorem shs_one {W : World} {p : Nat} {t : TypeId} {x y : Int} (K : Bx W p t [.int .i64 x, .int .i64 y]) : Shs W (some ⟨p, 0, none⟩) 1 (fun _ => x) (fun _ => y) := fun _ => ⟨p, 0, rfl, fun i hi => by
  obtain rfl : i = 0 := by omega
  exact ⟨K.cell rfl, K.cell rfl⟩⟩
theorem new_one (w : World) :
    Calls Tryd.prog 43 #[.int .i64 1] w fun e w' => ∃ p, e = .returned (.tuple #[.pointer (some ⟨p, 0, none⟩), .int .i64 0]) ∧ YrO w' w.heap.size p 1 (fun _ => 0) (fun _ => 0) 0 ∧ Below w.heap.size w w' := new_ok 1 w (by omega)
theorem reach_a (q : Nat) (t : TypeId) {W : World} {B p : Nat} (h : YrO W B p 1 (fun _ => 0) (fun _ => 0) 0) (K : Bx W q t [.int .i64 5, .int .i64 9]) (hB : B ≤ W.heap.size) :
    Calls Tryd.prog 44 #[.pointer (some ⟨p, 0, none⟩), .slice (some ⟨q, 0, none⟩) 1 1] W fun e w' => ∃ g c, e = .returned (.tuple #[.slice (some ⟨g, 0, none⟩) 1 c, .int .i64 0]) ∧ w'.cell? ⟨g, 0, none⟩ = some (.int .i64 5) ∧ g ≠ p ∧ g < w'.heap.size ∧ YrO w' B p 1 (fun _ => 5) (fun _ => 9) 1 ∧ ∀ w0, Below B w0 W → Below B w0 w' := by
  have hp : p < W.heap.size := by obtain ⟨b, K, _⟩ := h; exact K.lt
  refine (reach_ok (some ⟨q, 0, none⟩) 1 h (shs_one K) (by omega) hB (by decide +kernel) (by omega) (by omega)).mono ?_
  rintro e w' ⟨v, rfl, HO, HY, _, _, hf⟩
  obtain ⟨A, c, rfl, _, hA⟩ := own_len HO
  obtain ⟨g, rfl⟩ := hA (by omega)
  have hl := HO.lt g rfl
  have := own_cells HO (j := 0) (u := .int .i64 (5 - 0)) rfl
  exact ⟨g, c, rfl, this, by omega, hl.2, HY, hf⟩
theorem reach_b (q : Nat) (t : TypeId) {W : World} {B p : Nat} (h : YrO W B p 1 (fun _ => 5) (fun _ => 9) 1) (K : Bx W q t [.int .i64 3, .int .i64 9]) (hB : B ≤ W.heap.size) :
    Calls Tryd.prog 44 #[.pointer (some ⟨p, 0, none⟩), .slice (some ⟨q, 0, none⟩) 1 1] W fun e w' => ∃ g c, e = .returned (.tuple #[.slice (some ⟨g, 0, none⟩) 1 c, .int .i64 0]) ∧ w'.cell? ⟨g, 0, none⟩ = some (.int .i64 (-2)) ∧ w'.cell? ⟨g, 1, none⟩ = some (.int .i64 0) ∧ YrO w' B p 1 (fun _ => 3) (fun _ => 9) 2 ∧ (∀ q, q < W.heap.size → q ≠ p → w'.heap[q]? = W.heap[q]?) ∧ ∀ w0, Below B w0 W → Below B w0 w' := by
  refine (reach_ok (some ⟨q, 0, none⟩) 1 h (shs_one K) (by omega) hB (by decide +kernel) (by omega) (by omega)).mono ?_
  rintro e w' ⟨v, rfl, HO, HY, hq, _, hf⟩
  obtain ⟨A, c, rfl, _, hA⟩ := own_len HO
  obtain ⟨g, rfl⟩ := hA (by omega)
  have h0 := own_cells HO (j := 0) (u := .int .i64 (3 - 5)) rfl
  have h1 := own_cells HO (j := 1) (u := .int .i64 (9 - 9)) rfl
  exact ⟨g, c, rfl, h0, h1, HY, hq, hf⟩
theorem cost_two (w : World) (n : Nat) (t : TypeId) (hn : w.heap.size = n) :
    Calls Tryd.prog 45 #[.int .i64 100, .slice (some ⟨n, 0, none⟩) 2 2] (w.alloc (.cells #[.int .i64 1, .int .i64 7, .int .i64 0, .int .i64 2] t)) fun e w' => e = .returned (.tuple #[.int .i64 109, .int .i64 0]) ∧ Below w.heap.size w w' := by
  have K := bx_at w [.int .i64 1, .int .i64 7, .int .i64 0, .int .i64 2] t hn
  have h : Shs (w.alloc (.cells #[.int .i64 1, .int .i64 7, .int .i64 0, .int .i64 2] t)) (some ⟨n, 0, none⟩) 2 (fun i => if i = 0 then 1 else 0) (fun i => if i = 0 then 7 else 2) := fun _ => ⟨n, 0, rfl, fun i hi => by
    rcases (show i = 0 ∨ i = 1 by omega) with rfl | rfl
    · exact ⟨K.cell rfl, K.cell rfl⟩
    · exact ⟨K.cell rfl, K.cell rfl⟩⟩
  have := cost_ok 100 (some ⟨n, 0, none⟩) 2 2 _ _ _ h (by omega) (by decide +kernel) true (by decide +kernel)
  exact this.mono fun e w' hh => ⟨hh.1, below_step (below_new _ _) hh.2 (by simp)⟩
theorem posted_one {W : World} {B p : Nat} (h : YrO W B p 1 (fun _ => 3) (fun _ => 9) 2) :
    Calls Tryd.prog 47 #[.pointer (some ⟨p, 0, none⟩)] W fun e w' => ∃ b, e = .returned (.slice (some ⟨b, 0, none⟩) 1 1) ∧ w'.cell? ⟨b, 1, none⟩ = some (.int .i64 9) ∧ Below W.heap.size W w' := by
  refine (posted_ok h (by omega)).mono ?_
  rintro e w' ⟨b, rfl, _, hs, hb⟩
  exact ⟨b, rfl, (hs.cells (i := 0) (by omega)).2.1, hb⟩
set_option maxRecDepth 100000 in
set_option maxHeartbeats 8000000 in
theorem posts_any (w : World) (hT : Tab w) : Calls Tryd.prog 20 #[] w fun e w' => e = .returned (.bool true) ∧ Below w.heap.size w w' := by
  go_enter Tryd.func20, Tryd.ntmps20
  go_wp2_with (fail)
  with_reducible refine (new_one _).mono ?_
  rintro e w1 ⟨p, rfl, HY, B1⟩
  have K2 := bx_new w1 [.int .i64 5, .int .i64 9] 71
  have NB := below_new w1 (.cells #[.int .i64 5, .int .i64 9] 71)
  have HY2 := HY.below NB
  have B2 := below_step B1 NB B1.size
  clear HY NB B1
  go_wp2_with (fail)
  with_reducible refine (reach_a _ _ HY2 K2 B2.size).mono ?_
  rintro e w2 ⟨ga, ca, rfl, ha, hap, hal, HY3, hf⟩
  have B3 := hf w B2
  have K4 := bx_new w2 [.int .i64 3, .int .i64 9] 71
  have NB := below_new w2 (.cells #[.int .i64 3, .int .i64 9] 71)
  have HY4 := HY3.below NB
  have B4 := below_step B3 NB B3.size
  have ha4 := cell_later NB ha
  have hal4 := Nat.lt_of_lt_of_le hal NB.size
  clear HY2 HY3 K2 NB B3 hf hal ha B2
  go_wp2_with (fail)
  with_reducible refine (reach_b _ _ HY4 K4 B4.size).mono ?_
  rintro e w3 ⟨gb, cb, rfl, hb0, hb1, HY5, hq, hf⟩
  have B5 := hf w B4
  have ha5 := (World.cell?_of_block (a := ⟨ga, 0, none⟩) (hq ga hal4 hap)).trans ha4
  clear HY4 K4 B4 hf hq ha4 hal4
  go_wp2_with (fail)
  with_reducible refine (cost_two _ _ _ rfl).mono ?_
  rintro e w4 ⟨rfl, NB⟩
  have B6 := below_step B5 NB B5.size
  have HY6 := HY5.below NB
  have ha6 := cell_later NB ha5
  have c0 := cell_later NB hb0
  have c1 := cell_later NB hb1
  clear HY5 NB B5 ha5 hb0 hb1
  have K7 := bx_new w4 [.string ⟨#[102, 117, 110, 100]⟩, .int .i64 0, .slice none 0 0, .int .i64 0, .int .i64 0, .int .i64 0] 66
  have NB := below_new w4 (.cells #[.string ⟨#[102, 117, 110, 100]⟩, .int .i64 0, .slice none 0 0, .int .i64 0, .int .i64 0, .int .i64 0] 66)
  have hT7 := hT.below (B6.trans (NB.mono B6.size))
  have B7 := below_step B6 NB B6.size
  have HY7 := HY6.below NB
  have ha7 := cell_later NB ha6
  have c07 := cell_later NB c0
  have c17 := cell_later NB c1
  have k7 := K7.cell (i := 0) rfl
  clear HY6 NB B6 ha6 c0 c1 K7
  go_wp2_with (fail)
  with_reducible refine (lines_one _ _ _ _ hT7 k7 c07 c17).mono ?_
  rintro e w5 ⟨ql, cl, rfl, hql, NB⟩
  have B8 := below_step B7 NB B7.size
  have HY8 := HY7.below NB
  have ha8 := cell_later NB ha7
  have c08 := cell_later NB c07
  have c18 := cell_later NB c17
  clear HY7 NB B7 ha7 c07 c17 k7 hT7
  go_wp2_with (fail)
  with_reducible refine (posts_is HY8).mono ?_
  rintro e w' ⟨rfl, rfl⟩
  go_wp2_with (fail)
  with_reducible refine (posted_one HY8).mono ?_
  rintro e w6 ⟨b1, rfl, _, NB⟩
  have B9 := below_step B8 NB B8.size
  have HY9 := HY8.below NB
  have ha9 := cell_later NB ha8
  have c09 := cell_later NB c08
  have c19 := cell_later NB c18
  have hq9 := cell_later NB hql
  clear HY8 NB B8 ha8 c08 c18 hql
  go_wp2_with (fail)
  with_reducible refine (posted_one HY9).mono ?_
  rintro e w7 ⟨b2, rfl, hb2, NB⟩
  have Ba := below_step B9 NB B9.size
  have haa := cell_later NB ha9
  have c0a := cell_later NB c09
  have c1a := cell_later NB c19
  have hqa := cell_later NB hq9
  clear HY9 NB B9 ha9 c09 c19 hq9
  go_wp2
  go_ret
  exact ⟨rfl, Ba⟩
end Go.Proofs.YtgdalejccbhjcaaDoor
