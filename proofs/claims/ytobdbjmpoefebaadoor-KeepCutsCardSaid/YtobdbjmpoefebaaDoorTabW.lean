/- What the calls of keep answer that look for the worst: steepest. -/
import Derived.Test.YtobdbjmpoefebaaDoorTabE
import Derived.Laws.AppendOwn
import Derived.OwnWalk
import Derived.Deep.OwnRows
namespace Go.Proofs.YtobdbjmpoefebaaDoor
open Go.RowKit Go.Sort
set_option linter.unusedVariables false
set_option linter.unusedSimpArgs false

theorem steep_next (R : Nat → Int) (i : Nat) : steep R (i + 1) = if R (steep R i) < R i then i else steep R i := rfl
set_option maxHeartbeats 2000000 in
theorem steepest_any (A : Option Addr) (n c : Nat) (w : World) (F R E : Nat → Int) (h : Bds w A n F R E) (hn : n ≤ 4611686018427387904) :
    Calls Tryd.prog 44 #[.slice A n c] w fun e w' => e = .returned (.int .i64 (steep R n : Nat)) ∧ Below w.heap.size w w' := by
  by_cases h0 : n = 0
  · subst h0
    go_enter Tryd.func44, Tryd.ntmps44
    go_wp2
    go_loopw [8, 3] (fun k t W => k = .int .i64 0 ∧ t = .int .i64 0 ∧ Below w.heap.size w W) (fun k _ _ => 0)
    case atStart => exact ⟨rfl, rfl, Below.refl _ _⟩
    case round =>
      obtain ⟨rfl, rfl, hb⟩ := hrel
      go_wp2
      go_ret
      exact ⟨rfl, hb⟩
  obtain ⟨b, o, rfl, hc⟩ := h (by omega)
  have HC := Lib.hid hc
  clear hc h
  have hn0 : 0 < n := by omega
  go_enter Tryd.func44, Tryd.ntmps44
  go_wp2
  go_loopw [8, 3] (fun k t W => ∃ i s : Nat, i ≤ n ∧ s < n ∧ Hid (steep R i = s) ∧ k = .int .i64 i ∧ t = .int .i64 s ∧ Below w.heap.size w W) (fun k _ _ => n - (intOf k).toNat)
  case atStart => exact ⟨0, 0, Nat.zero_le _, hn0, Lib.hid rfl, rfl, rfl, Below.refl _ _⟩
  case round =>
    obtain ⟨i, s, hi, hsn, HS, rfl, rfl, hb⟩ := hrel
    by_cases hlt : i < n
    · obtain ⟨g0, g1, g2⟩ := HC.out i hlt
      obtain ⟨x0, x1, x2⟩ := HC.out s hsn
      have d0 := cell_later hb g0
      have d1 := cell_later hb g1
      have d2 := cell_later hb g2
      have y1 := cell_later hb x1
      have hN := below_new wr (.cells #[.int .i64 (F i), .int .i64 (R i), .int .i64 (E i)] 85)
      have z1 := cell_later hN y1
      have e1 : (wr.alloc (.cells #[.int .i64 (F i), .int .i64 (R i), .int .i64 (E i)] 85)).cell? ⟨wr.heap.size, 1, none⟩ = some (.int .i64 (R i)) := by simp [go_sem]
      have B1 := below_step hb hN hb.size
      have hst := steep_next R i
      rw [HS.out] at hst
      clear g0 g1 g2 x0 x1 x2 y1 hN
      go_wp2_with (fail)
      generalize wr.alloc (.cells #[.int .i64 (F i), .int .i64 (R i), .int .i64 (E i)] 85) = W1 at *
      generalize wr.heap.size = pn at *
      clear hb d0 d1 d2
      have k1 := fun d os => cell_regrown e1 d os
      have k2 := fun d os => cell_regrown z1 d os
      have HT := Lib.hid hst
      clear hst
      refine wp_region_quiet_below mixedT (by kernel_rfl) ?_
      repeat (go_big_quiet_step (fail))
      refine wpQuiet_nil ?_
      intro _ hw'
      obtain ⟨⟨dq, osq⟩, hw''⟩ := hw'
      subst hw''
      have hR := below_regrown W1 dq osq
      have B2 := below_step B1 hR B1.size
      generalize grow (redrawn W1 dq) osq = W2 at *
      clear hR B1 k1 k2 e1 z1
      by_cases hv : R s < R i
      · have HE : Hid (steep R (i + 1) = i) := Lib.hid (by rw [HT.out, if_pos hv])
        clear HT HS
        go_wp2
        go_roundw
        case rel => exact ⟨i + 1, i, by omega, hlt, HE, by go_num, by go_num, B2⟩
        case measure => first | omega | (simp [intOf]; omega)
      · have HE : Hid (steep R (i + 1) = s) := Lib.hid (by rw [HT.out, if_neg hv])
        clear HT HS
        go_wp2
        go_roundw
        case rel => exact ⟨i + 1, s, by omega, hsn, HE, by go_num, by go_num, B2⟩
        case measure => first | omega | (simp [intOf]; omega)
    · obtain rfl : i = n := by omega
      go_wp2
      go_ret
      exact ⟨ret_i (by rw [HS.out]), hb⟩
end Go.Proofs.YtobdbjmpoefebaaDoor
