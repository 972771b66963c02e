/- The first call of all of hold's laws, and the laws' own test of amounts. -/
import Derived.Test.YtgekojbmlppmdaaHldC
namespace Go.Proofs.Ytgekojbmlppmdaa
open Go.RowKit Go.Sort
set_option linter.unusedVariables false
set_option linter.unusedSimpArgs false

theorem ri_cell {w : World} {B : Nat} {v : Value} {l : List Int} (h : Ri w B v l) (hl : 0 < l.length) : ∃ g c, v = .slice (some ⟨g, 0, none⟩) l.length c ∧ B ≤ g ∧ ∀ i (hi : i < l.length), w.cell? ⟨g, i, none⟩ = some (.int .i64 l[i]) := by
  rcases h.2 with ⟨_, h0⟩ | ⟨g, cap, cur, hv, hg, _⟩
  · omega
  · refine ⟨g, cap, hv, hg, fun i hi => ?_⟩
    have := h.cells (g := g) (by rw [hv]; rfl) i (.int .i64 l[i]) (by simp [ints, hi])
    rwa [Go.WideShapes.add_plain, Nat.zero_add] at this
theorem ri_len {w : World} {B : Nat} {v : Value} {l : List Int} (h : Ri w B v l) : ∃ A c, v = .slice A l.length c := by
  rcases h.2 with ⟨hv, h0⟩ | ⟨g, cap, cur, hv, _⟩
  · exact ⟨none, 0, by rw [h0]; exact hv⟩
  · exact ⟨_, _, hv⟩
theorem half_any (w : World) :
    Calls Try.prog 15 #[] w fun e w' => e = .returned (.agg #[.slice none 0 0, .slice none 0 0, .slice none 0 0, .int .i64 5000, .int .i64 0]) ∧ Below w.heap.size w w' := by
  have B0 := below_new w (.cells #[.slice none 0 0, .slice none 0 0, .slice none 0 0, .int .i64 0, .int .i64 0] 31)
  have Q := bx_new w [.slice none 0 0, .slice none 0 0, .slice none 0 0, .int .i64 0, .int .i64 0] 31
  go_enter Try.func15, Try.ntmps15
  go_wp2
  have Z := bx_new w [.slice none 0 0, .slice none 0 0, .slice none 0 0, .int .i64 5000, .int .i64 0] 31
  have z0 := Z.cell (i := 0) rfl
  have z1 := Z.cell (i := 1) rfl
  have z2 := Z.cell (i := 2) rfl
  have z3 := Z.cell (i := 3) rfl
  have z4 := Z.cell (i := 4) rfl
  exact bodyPost_ret (v := .agg #[.slice none 0 0, .slice none 0 0, .slice none 0 0, .int .i64 5000, .int .i64 0]) (by simp [results, Try.results15, go_sem]) rfl ⟨rfl, below_new _ _⟩
/-- the law's own test: may all be? -/
theorem lright_any (A : Option Addr) (n c : Nat) (w : World) (f : Nat → Int) (h : rowAt w A n fun i => .int .i64 (f i)) (hn : n ≤ 4611686018427387904) :
    Calls Try.prog 10 #[.slice A n c] w fun e w' => e = .returned (.bool (allB f n)) ∧ w = w' := by
  go_enter Try.func10, Try.ntmps10
  go_wp2
  go_loop [7] (fun k => ∃ i : Nat, i ≤ n ∧ allB f i = true ∧ k = .int .i64 i) (fun k => n - (intOf k).toNat)
  case atStart => exact ⟨0, Nat.zero_le _, by simp [allB], rfl⟩
  case round =>
    obtain ⟨i, hi, ha, rfl⟩ := hrel
    by_cases hlt : i < n
    · obtain ⟨b, o, rfl, hc⟩ := h (by omega)
      have hcell := hc i hlt
      have hs := allB_succ f i
      cases hB : amtB (f i)
      · have hF := allB_false hlt hB
        have HF := Lib.hid hF
        clear hF hs ha
        have hb2 := amtB_no hB
        clear hB hc
        by_cases hb3 : 100000000000 < f i
        · clear hb2
          go_wp2
          go_ret
          exact ⟨ret_b HF.out.symm, rfl⟩
        · have hb4 : f i < -100000000000 := by omega
          clear hb2
          go_wp2
          go_ret
          exact ⟨ret_b HF.out.symm, rfl⟩
      · have hb2 := amtB_yes hB
        obtain ⟨h1, h2⟩ := hb2
        have HS : allB f (i + 1) = true := by rw [hs, ha, hB]; rfl
        have HS := Lib.hid HS
        clear hs ha hB hc
        go_wp2
        go_round
        case rel => exact ⟨i + 1, by omega, HS.out, by go_num⟩
        case measure => simp [intOf]; omega
    · obtain rfl : i = n := by omega
      have HA := Lib.hid ha
      clear ha
      go_wp2
      go_ret
      exact ⟨ret_b HA.out.symm, rfl⟩
theorem lright4 (a b c d : Int) (w : World) (t : TypeId) (v : Bool) (hv : (amtB a && amtB b && amtB c && amtB d) = v) (n : Nat) (hn : w.heap.size = n) :
    Calls Try.prog 10 #[.slice (some ⟨n, 0, none⟩) 4 4] (w.alloc (.cells #[.int .i64 a, .int .i64 b, .int .i64 c, .int .i64 d] t)) fun e w' => e = .returned (.bool v) ∧ w.alloc (.cells #[.int .i64 a, .int .i64 b, .int .i64 c, .int .i64 d] t) = w' := by
  have h := lright_any (some ⟨n, 0, none⟩) 4 4 _ (fun i => [a, b, c, d].getD i 0) (row_four _ _ t (fun i => [a, b, c, d].getD i 0) (bx_at w [.int .i64 a, .int .i64 b, .int .i64 c, .int .i64 d] t hn)) (by omega)
  have e : allB (fun i => [a, b, c, d].getD i 0) 4 = v := by rw [← hv]; simp [allB, List.range_succ, Bool.and_assoc]
  rw [e] at h
  exact h
theorem lright3 (a b c : Int) (w : World) (t : TypeId) (v : Bool) (hv : (amtB a && amtB b && amtB c) = v) (n : Nat) (hn : w.heap.size = n) :
    Calls Try.prog 10 #[.slice (some ⟨n, 0, none⟩) 3 3] (w.alloc (.cells #[.int .i64 a, .int .i64 b, .int .i64 c] t)) fun e w' => e = .returned (.bool v) ∧ w.alloc (.cells #[.int .i64 a, .int .i64 b, .int .i64 c] t) = w' := by
  have h := lright_any (some ⟨n, 0, none⟩) 3 3 _ (fun i => [a, b, c].getD i 0) (row_three _ _ t (fun i => [a, b, c].getD i 0) (bx_at w [.int .i64 a, .int .i64 b, .int .i64 c] t hn)) (by omega)
  have e : allB (fun i => [a, b, c].getD i 0) 3 = v := by rw [← hv]; simp [allB, List.range_succ, Bool.and_assoc]
  rw [e] at h
  exact h
theorem lright1 (x : Int) (w : World) (t : TypeId) (b : Bool) (hb : amtB x = b) (n : Nat) (hn : w.heap.size = n) :
    Calls Try.prog 10 #[.slice (some ⟨n, 0, none⟩) 1 1] (w.alloc (.cells #[.int .i64 x] t)) fun e w' => e = .returned (.bool b) ∧ w.alloc (.cells #[.int .i64 x] t) = w' := by
  subst hn
  have h := lright_any _ 1 1 _ (fun _ => x) (row_one w (.int .i64 x) t) (by omega)
  have e : allB (fun _ => x) 1 = b := by simp [allB, hb]
  rw [e] at h
  exact h
/-- the four periods of the first call -/
def four (i : Nat) : Py := [(⟨101, 80, true⟩ : Py), ⟨1000, 100, true⟩, ⟨10, 70, false⟩, ⟨10, 60, true⟩].getD i ⟨0, 0, false⟩
theorem four_e : firstE (yrE 5000 four) 4 = 0 := by decide +kernel
theorem four_l : yrL 5000 four 4 = [50, 50, 0, -40] := by decide +kernel
theorem four_s : yrS 5000 four 4 = (60, 0) := by decide +kernel
theorem four_m (W : World) (p : Nat) (t : TypeId) (h : Bx W p t [.int .i64 101, .int .i64 80, .bool true, .int .i64 1000, .int .i64 100, .bool true, .int .i64 10, .int .i64 70, .bool false, .int .i64 10, .int .i64 60, .bool true]) : Pys W (some ⟨p, 0, none⟩) 4 four := fun _ =>
  ⟨_, _, rfl, fun i hi => by
    have : i = 0 ∨ i = 1 ∨ i = 2 ∨ i = 3 := by omega
    rcases this with rfl | rfl | rfl | rfl <;> exact ⟨h.cell rfl, h.cell rfl, h.cell rfl⟩⟩
set_option maxRecDepth 100000 in
set_option maxHeartbeats 4000000 in
theorem holds_any (w : World) :
    Calls Try.prog 8 #[] w fun e w' => e = .returned (.bool true) ∧ Below w.heap.size w w' := by
  have pt := fun w => part_hold (-5) 3 false w
  have lm := fun w => limit_ok none none none 0 0 0 0 0 0 5000 0 (-5) w (by omega) (by decide)
  rw [show partV (-5) 3 false = 0 by decide] at pt
  rw [show limV 5000 (-5) = 0 by decide] at lm
  have du := fun w => due_any 60 0 w (by omega) (by omega)
  rw [show (60 : Int) + 0 = 60 by omega] at du
  have yr := fun p w (h : Bx w p 25 [.int .i64 101, .int .i64 80, .bool true, .int .i64 1000, .int .i64 100, .bool true, .int .i64 10, .int .i64 70, .bool false, .int .i64 10, .int .i64 60, .bool true]) => year_any none none none 0 0 0 0 0 0 5000 0 (some ⟨p, 0, none⟩) 4 4 four w (four_m _ _ _ h) (by omega)
  go_enter Try.func8, Try.ntmps8
  go_wp2_with (fail)
  with_reducible refine (half_any _).mono ?_
  rintro e w1 ⟨rfl, hb⟩
  have B1 := hb
  have K2 := bx_new w1 [.int .i64 101, .int .i64 80, .bool true, .int .i64 1000, .int .i64 100, .bool true, .int .i64 10, .int .i64 70, .bool false, .int .i64 10, .int .i64 60, .bool true] 25
  have B2 := B1.alloc B1.size (.cells #[.int .i64 101, .int .i64 80, .bool true, .int .i64 1000, .int .i64 100, .bool true, .int .i64 10, .int .i64 70, .bool false, .int .i64 10, .int .i64 60, .bool true] 25)
  go_wp2_with (fail)
  with_reducible refine (yr _ _ K2).mono ?_
  rintro e w2 ⟨hy, _, hb2⟩
  obtain ⟨v, rfl, hv⟩ := hy four_e
  rw [four_l] at hv
  rw [four_s]
  obtain ⟨g, cc, rfl, hg, hc⟩ := ri_cell hv (by decide)
  have c0 := hc 0 (by decide)
  have c1 := hc 1 (by decide)
  have c2 := hc 2 (by decide)
  have c3 := hc 3 (by decide)
  simp only [List.length_cons, List.length_nil, List.getElem_cons_zero, List.getElem_cons_succ] at c0 c1 c2 c3
  have B3 := below_step B2 hb2 B2.size
  have N3 := below_new w2 (.cells #[.int .i64 60, .int .i64 0] 23)
  have K3 := bx_new w2 [.int .i64 60, .int .i64 0] 23
  have d0 := cell_later N3 c0
  have d1 := cell_later N3 c1
  have d2 := cell_later N3 c2
  have d3 := cell_later N3 c3
  have B4 := below_step B3 N3 B3.size
  clear hy hv hc c0 c1 c2 c3 hb2 hb N3 K2 B1 B2 B3
  go_wp2_with (fail)
  generalize w2.alloc (.cells #[.int .i64 60, .int .i64 0] 23) = w3 at *
  with_reducible refine (half_any _).mono ?_
  rintro e w4 ⟨rfl, hb⟩
  have K4 := K3.below hb
  have d0 := cell_later hb d0
  have d1 := cell_later hb d1
  have d2 := cell_later hb d2
  have d3 := cell_later hb d3
  have B5 := below_step B4 hb B4.size
  clear hb K3 B4
  go_wp2_with (fail)
  with_reducible refine (lm _).mono ?_
  rintro e w5 ⟨rfl, hb⟩
  have K5 := K4.below hb
  have d0 := cell_later hb d0
  have d1 := cell_later hb d1
  have d2 := cell_later hb d2
  have d3 := cell_later hb d3
  have B6 := below_step B5 hb B5.size
  have s0 := K5.cell (i := 0) rfl
  have s1 := K5.cell (i := 1) rfl
  clear hb K4 B5
  go_wp2_with (fail)
  with_reducible refine (du _).mono ?_
  rintro e w6 ⟨rfl, hb⟩
  have B7 := below_step B6 hb B6.size
  go_wp2_with (fail)
  with_reducible refine (pt _).mono ?_
  rintro e w' ⟨rfl, rfl⟩
  go_wp2
  go_ret
  exact ⟨rfl, B7⟩
end Go.Proofs.Ytgekojbmlppmdaa
