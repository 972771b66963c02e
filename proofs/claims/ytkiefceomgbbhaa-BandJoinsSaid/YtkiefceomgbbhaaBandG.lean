/- What slices.CompactFunc answers of bands in a row of the call's own. -/
import Derived.Test.YtkiefceomgbbhaaBandF
namespace Go.Proofs.Ytkiefceomgbbhaa
open Go.RowKit Go.Sort
set_option linter.unusedVariables false

theorem own_at {w : World} {B g n cap i : Nat} {L : List Bd} {t : Bd} (h : w.ownsRow B 37 3 (.slice (some ⟨g, 0, none⟩) n cap) n (cl L)) (hi : i < n) (hL : L[i]? = some t) :
    w.cell? ⟨g, i * 3, none⟩ = some (.int .i64 t.1) ∧ w.cell? ⟨g, i * 3 + 1, none⟩ = some (.int .i64 t.2.1) ∧ w.cell? ⟨g, i * 3 + 2, none⟩ = some (.int .i64 t.2.2) := by
  obtain ⟨a, b, c⟩ := cl_get L i t hL
  exact ⟨(h.cellAt _ (by omega)).trans a, (h.cellAt _ (by omega)).trans b, (h.cellAt _ (by omega)).trans c⟩
theorem lik_dec (R E : Nat → Int) (j : Nat) (v : Bool) (h : lik R E j = v) : decide (R j = R (j - 1) ∧ E j = E (j - 1)) = v := h

theorem own_cut {w : World} {B g cap n size : Nat} {e : TypeId} {xs : List Value} (h : w.ownsRow B e size (.slice (some ⟨g, 0, none⟩) n cap) n xs) {k : Nat} (hk : k ≤ n) : w.ownsRow B e size (.slice (some ⟨g, 0, none⟩) k cap) k (xs.take (k * size)) := by
  rcases h.2 with ⟨h1, h2⟩ | ⟨g', cap', cur, hv, hg, hh, h1, h2, h3, h4⟩
  · simp at h1
  · simp only [Value.slice.injEq, Option.some.injEq, Addr.mk.injEq, and_true, true_and] at hv
    obtain ⟨rfl, rfl⟩ := hv
    have hle : k * size ≤ n * size := Nat.mul_le_mul_right _ hk
    refine ⟨by rw [List.length_take, h.1]; omega, .inr ⟨g, cap, cur, rfl, hg, hh, by omega, h2, h3, ?_⟩⟩
    rw [← h4, List.take_take]
    congr 1
    omega
set_option maxHeartbeats 4000000 in
set_option maxRecDepth 100000 in
theorem compact_any (g n cap B : Nat) (w : World) (F R E : Nat → Int) (hown : w.ownsRow B 37 3 (.slice (some ⟨g, 0, none⟩) n cap) n (cl (lst F R E n))) (h1 : 1 ≤ n) (hn : n ≤ 100000) (hB : B ≤ w.heap.size) (hcap : n ≤ cap) (hcm : cap ≤ 9223372036854775807) (hg : B ≤ g) :
    Calls Try.prog 49 #[.slice (some ⟨g, 0, none⟩) n cap, .func (.func 51) #[] #[]] w fun e w' =>
      e = .returned (.slice (some ⟨g, 0, none⟩) (cmj F R E n).length cap) ∧ Rw w' B (.slice (some ⟨g, 0, none⟩) (cmj F R E n).length cap) (cmj F R E n) ∧ Below B w w' := by
  have v37 : ∀ w, (zeroValue 37).run Try.prog w = .ok (.agg #[.int .i64 0, .int .i64 0, .int .i64 0]) w := fun w => by kernel_rfl
  by_cases h2 : n < 2
  · have hall := cmj_all F R E (j := n) (fun i h0 hi => by omega)
    have HA := Lib.hid hall
    have H1 := Lib.hid h1
    clear hall
    go_enter Try.func49, Try.ntmps49
    go_wp2
    go_ret
    unfold Rw
    rw [HA.out, lst_len]
    exact ⟨rfl, hown, Below.refl _ _⟩
  · have n2 : decide ((n : Int) < 2) = false := by simp; omega
    go_enter Try.func49, Try.ntmps49
    go_wp2
    go_loopg [5] n (fun gg s5 W => ∃ k : Nat, 1 ≤ k ∧ k ≤ n ∧ n - k ≤ gg ∧ s5 = .int .i64 k ∧ W.ownsRow B 37 3 (.slice (some ⟨g, 0, none⟩) n cap) n (cl (lst F R E n)) ∧ Below B w W ∧ ∀ i, 0 < i → i < k → lik R E i = false)
    case atStart => exact ⟨1, Nat.le_refl _, by omega, by omega, rfl, hown, Below.refl _ _, fun i h0 hi => by omega⟩
    case round =>
      obtain ⟨k, hk1, hk, hgg, rfl, ho, hb, hall⟩ := hrel
      have HALL := Lib.hid hall
      clear hall
      by_cases hlt : k < n
      · obtain ⟨x0, x1, x2⟩ := own_at ho hlt (lst_get F R E hlt)
        obtain ⟨y0, y1, y2⟩ := own_at ho (i := k - 1) (by omega) (lst_get F R E (by omega))
        simp only at x0 x1 x2 y0 y1 y2
        have k0 := fun d os => cell_regrown x0 d os
        have k1 := fun d os => cell_regrown x1 d os
        have k2 := fun d os => cell_regrown x2 d os
        have k3 := fun d os => cell_regrown y0 d os
        have k4 := fun d os => cell_regrown y1 d os
        have k5 := fun d os => cell_regrown y2 d os
        have HO := Lib.hid ho
        have HOW := Lib.hid hown
        have e1 : ((k : Int) - 1).toNat = k - 1 := by omega
        have w1 : IntKind.i64.wrap ((k : Int) - 1) = (k : Int) - 1 := IntWalk.i64_in _ (by omega)
        have i0 : 0 ≤ (k : Int) - 1 := by omega
        have i2 : (1 : Int) ≤ (k : Int) := by omega
        have i1 : (k : Int) - 1 < (n : Int) := by omega
        have i4 : (k : Int) < (n : Int) := by omega
        have hsz := hb.size
        have V37 := Lib.hid v37
        clear x0 x1 x2 y0 y1 y2 ho hown v37
        cases hlk : lik R E k
        · have cA := fun d os => Calls.regrown_of (d := d) (os := os) (w := wr) (alike_b (F k) (R k) (E k) (F (k - 1)) (R (k - 1)) (E (k - 1)) false (lik_dec R E k _ hlk) (grow (redrawn wr d) os))
          have HL := Lib.hid hlk
          clear hlk
          go_wp2_with (fail)
          refine wp_region_quiet_below mixedAll (by kernel_rfl) ?_
          iterate 10 (go_big_quiet_step (fail))
          go_big_quiet_step (exact cA _ _)
          repeat (go_big_quiet_step (fail))
          refine wpQuiet_nil ?_
          intro _ hw'
          obtain ⟨⟨dq, osq⟩, hw''⟩ := hw'
          subst hw''
          have hbq := below_regrown wr dq osq
          have ho2 := own_below HO.out hbq
          have hb2 := hb.trans (hbq.mono (by omega))
          generalize grow (redrawn wr dq) osq = W3 at *
          clear cA k0 k1 k2 k3 k4 k5
          go_wp2
          go_roundg (n - (k + 1))
          case measure => omega
          case rel => exact ⟨k + 1, by omega, by omega, by omega, by go_num, ho2, hb2, fun i h0 hi => by
            by_cases e : i = k
            · subst e; exact HL.out
            · exact HALL.out i h0 (by omega)⟩
        · have cA := fun d os => Calls.regrown_of (d := d) (os := os) (w := wr) (alike_b (F k) (R k) (E k) (F (k - 1)) (R (k - 1)) (E (k - 1)) true (lik_dec R E k _ hlk) (grow (redrawn wr d) os))
          have HL := Lib.hid hlk
          clear hlk
          have hck : decide (cap = k) = false := by simp; omega
          have hck2 : ¬ cap = k := by omega
          have i5 : (k : Int) ≤ (cap : Int) := by omega
          go_wp2_with (fail)
          refine wp_region_quiet_below mixedAll (by kernel_rfl) ?_
          iterate 10 (go_big_quiet_step (fail))
          go_big_quiet_step (exact cA _ _)
          repeat (go_big_quiet_step (fail))
          refine wpQuiet_nil ?_
          intro _ hw'
          obtain ⟨⟨dq, osq⟩, hw''⟩ := hw'
          subst hw''
          have hbq := below_regrown wr dq osq
          have ho2 := own_below HO.out hbq
          have hb2 := hb.trans (hbq.mono (by omega))
          have HO2 := Lib.hid ho2
          generalize hW3 : grow (redrawn wr dq) osq = W3 at *
          clear cA k0 k1 k2 k3 k4 k5 ho2 hW3
          go_wp2
          have hst := jrow_start F R E hlt (by omega) HALL.out HL.out
          have hst1 : W3.ownsRow B 37 3 (.slice (some ⟨g, 0, none⟩) n cap) n (cl (jrow F R E n (k + 1))) := by rw [hst.1]; exact HO2.out
          have HST := Lib.hid hst.2
          have HST1 := Lib.hid hst1
          clear hst hst1
          go_loopg [5, 7] n (fun gg s5 s7 W => ∃ (t q : Nat), s5 = .int .i64 q ∧ s7 = .int .i64 t ∧ 1 ≤ t ∧ k + t ≤ n ∧ n - (k + t) ≤ gg ∧ (cmj F R E (k + t)).length = q ∧ W.ownsRow B 37 3 (.slice (some ⟨g, 0, none⟩) n cap) n (cl (jrow F R E n (k + t))) ∧ Below B w W)
          case atStart => exact ⟨1, k, rfl, rfl, Nat.le_refl _, by omega, by omega, HST.out, HST1.out, hb2⟩
          case round =>
            obtain ⟨t, q, rfl, rfl, ht1, htn, hgg2, hq, hoi, hbi⟩ := hrel
            have hqk : q < k + t := by rw [← hq]; exact cmj_less F R E (by omega) (show k < k + t by omega) HL.out
            have HQ := Lib.hid hq
            have HOI := Lib.hid hoi
            clear HST HST1
            by_cases hlt2 : k + t < n
            · obtain ⟨x0, x1, x2⟩ := own_at hoi hlt2 (jrow_get F R E (by omega) hlt2)
              obtain ⟨y0, y1, y2⟩ := own_at hoi (i := k + t - 1) (by omega) (jrow_get F R E (by omega) (by omega))
              obtain ⟨o0, o1, o2⟩ := own_at hoi (i := q) (by omega) (get_some _ (by rw [jrow_len F R E (by omega)]; omega))
              have fz := fun j => hoi.frozenAt j
              simp only at x0 x1 x2 y0 y1 y2 o0 o1 o2
              rw [show (k + t) * 3 = k * 3 + t * 3 by omega] at x0 x1 x2
              rw [show (k + t - 1) * 3 = k * 3 + (t - 1) * 3 by omega] at y0 y1 y2
              have k0 := fun d os => cell_regrown x0 d os
              have k1 := fun d os => cell_regrown x1 d os
              have k2 := fun d os => cell_regrown x2 d os
              have k3 := fun d os => cell_regrown y0 d os
              have k4 := fun d os => cell_regrown y1 d os
              have k5 := fun d os => cell_regrown y2 d os
              have k6 := fun d os => cell_regrown o0 d os
              have k7 := fun d os => cell_regrown o1 d os
              have k8 := fun d os => cell_regrown o2 d os
              have j1 : IntKind.i64.wrap ((t : Int) - 1) = (t : Int) - 1 := IntWalk.i64_in _ (by omega)
              have j0 : 0 ≤ (t : Int) - 1 := by omega
              have j2 : (1 : Int) ≤ (t : Int) := by omega
              have j3 : (t : Int) < ((n - k : Nat) : Int) := by omega
              have j4 : (t : Int) - 1 < ((n - k : Nat) : Int) := by omega
              have j5 : t < n - k := by omega
              have j6 : (q : Int) < (n : Int) := by omega
              have j7 : q < n := by omega
              have j8 : q + 1 ≤ 100000 := by omega
              clear hoi hq
              cases hlk2 : lik R E (k + t)
              · have cA := fun d os => Calls.regrown_of (d := d) (os := os) (w := wr) (alike_b (F (k + t)) (R (k + t)) (E (k + t)) (F (k + t - 1)) (R (k + t - 1)) (E (k + t - 1)) false (lik_dec R E (k + t) _ hlk2) (grow (redrawn wr d) os))
                have HL2 := Lib.hid hlk2
                clear hlk2
                go_wp2_with (fail)
                refine wp_region_quiet_below mixedAll (by kernel_rfl) ?_
                iterate 10 (go_big_quiet_step (fail))
                go_big_quiet_step (exact cA _ _)
                repeat (go_big_quiet_step (fail))
                refine wpQuiet_nil ?_
                intro _ hw'
                obtain ⟨⟨dq2, osq2⟩, hw''⟩ := hw'
                subst hw''
                have hbq := below_regrown wr dq2 osq2
                have ho4 := own_below HOI.out hbq
                have hb4 := hbi.trans (hbq.mono (by have := hbi.size; omega))
                have a0 := x0
                have a1 := x1
                have z0 := k6 dq2 osq2
                have z1 := k7 dq2 osq2
                have z2 := k8 dq2 osq2
                have m0 := k0 dq2 osq2
                have m1 := k1 dq2 osq2
                have m2 := k2 dq2 osq2
                have fz5 : ∀ j, (grow (redrawn wr dq2) osq2).frozen? ⟨g, j, none⟩ = false := fun j => ho4.frozenAt j
                generalize grow (redrawn wr dq2) osq2 = W5 at *
                have fz50 := fz5 (q * 3)
                have fz51 := fz5 (q * 3 + 1)
                have fz52 := fz5 (q * 3 + 2)
                have HO4 := Lib.hid ho4
                clear cA k0 k1 k2 k3 k4 k5 k6 k7 k8 fz hbq fz5 ho4 x0 x1 x2 y0 y1 y2 o0 o1 o2 a0 a1
                go_wp2
                have hset := jrow_set F R E hlt2 HL2.out
                rw [HQ.out] at hset
                have s3 := ((((HO4.out.stored (q * 3) (.int .i64 (F (k + t)))).1.stored (q * 3 + 1) (.int .i64 (R (k + t)))).1).stored (q * 3 + 2) (.int .i64 (E (k + t)))).1
                have hcs := cl_set (jrow F R E n (k + t)) q (F (k + t), R (k + t), E (k + t)) (by rw [jrow_len F R E (by omega)]; omega)
                simp only at hcs
                rw [hcs, hset] at s3
                have hcj : cmj F R E (k + t + 1) = cmj F R E (k + t) ++ [(F (k + t), R (k + t), E (k + t))] := if_neg (by simp [HL2.out])
                have hlen : (cmj F R E (k + t + 1)).length = q + 1 := by rw [hcj, List.length_append, HQ.out]; rfl
                go_roundg (n - (k + (t + 1)))
                case measure => omega
                case rel => exact ⟨t + 1, q + 1, by go_num, by go_num, by omega, by omega, Nat.le_refl _, by rw [← Nat.add_assoc]; exact hlen, by rw [← Nat.add_assoc]; exact s3, ((hb4.setCell hg _).setCell hg _).setCell hg _⟩
              · have cA := fun d os => Calls.regrown_of (d := d) (os := os) (w := wr) (alike_b (F (k + t)) (R (k + t)) (E (k + t)) (F (k + t - 1)) (R (k + t - 1)) (E (k + t - 1)) true (lik_dec R E (k + t) _ hlk2) (grow (redrawn wr d) os))
                have HL2 := Lib.hid hlk2
                clear hlk2
                go_wp2_with (fail)
                refine wp_region_quiet_below mixedAll (by kernel_rfl) ?_
                iterate 10 (go_big_quiet_step (fail))
                go_big_quiet_step (exact cA _ _)
                repeat (go_big_quiet_step (fail))
                refine wpQuiet_nil ?_
                intro _ hw'
                obtain ⟨⟨dq2, osq2⟩, hw''⟩ := hw'
                subst hw''
                have hbq := below_regrown wr dq2 osq2
                have ho4 := own_below HOI.out hbq
                have hb4 := hbi.trans (hbq.mono (by have := hbi.size; omega))
                generalize grow (redrawn wr dq2) osq2 = W5 at *
                have hcj : cmj F R E (k + t + 1) = cmj F R E (k + t) := if_pos ⟨by omega, HL2.out⟩
                have HCJ := Lib.hid hcj
                have hjr := jrow_keep F R E (n := n) (show 0 < k + t by omega) HL2.out
                have HJR := Lib.hid hjr
                clear cA k0 k1 k2 k3 k4 k5 k6 k7 k8 fz hbq hcj hjr
                go_wp2
                go_roundg (n - (k + (t + 1)))
                case measure => omega
                case rel => exact ⟨t + 1, q, rfl, by go_num, by omega, by omega, Nat.le_refl _, by rw [← Nat.add_assoc, HCJ.out]; exact HQ.out, by rw [← Nat.add_assoc, HJR.out]; exact ho4, hb4⟩
            · have hend : k + t = n := by omega
              have hclr : ∀ ty, (Builtin.clear_ #[22] ty #[.slice (some ⟨g, q * 3, none⟩) (n - q) (cap - q)]).run Try.prog wr = .ok (.tuple #[]) (wr.setCells g (q * 3) (List.replicate ((n - q) * 3) (.int .i64 0))) := fun ty =>
                run_clear3 wr _ _ ty Try.underlying22 V37.out g (q * 3) (n - q) (cap - q) (by omega) (fun j hj => by
                  rw [hoi.cellAt _ (by omega), List.getElem?_eq_getElem (by rw [cl_len, jrow_len F R E htn]; omega)]; rfl) (fun j hj => hoi.frozenAt _)
              obtain ⟨xs', hx1, hx2⟩ := own_setCells (List.replicate ((n - q) * 3) (.int .i64 0)) (q * 3) wr _ hoi
              have hbx := below_setCells hg (List.replicate ((n - q) * 3) (.int .i64 0)) (q * 3) wr hbi
              have htk : xs'.take (q * 3) = cl (cmj F R E (k + t)) := by
                rw [hx2, ← cl_take]
                congr 1
                unfold jrow
                rw [← hq, List.take_left]
              have hfin := own_cut hx1 (k := q) (by omega)
              rw [htk, hend] at hfin
              have hq2 : q = (cmj F R E n).length := by rw [← hend]; exact hq.symm
              have HQ2 := Lib.hid hq2
              have j5 : ¬ t < n - k := by omega
              have j3 : ¬ (t : Int) < ((n - k : Nat) : Int) := by omega
              have hcq : ¬ cap = q := by omega
              have hcq1 : decide (cap = q) = false := by simp; omega
              have hcq2 : (q : Int) ≤ (cap : Int) := by omega
              have hcq3 : (q : Int) ≤ (n : Int) := by omega
              generalize wr.setCells g (q * 3) (List.replicate ((n - q) * 3) (.int .i64 0)) = W9 at *
              clear hx1 hx2 htk hend hq hq2 hoi HOI
              go_wp2
              go_ret
              unfold Rw
              rw [← HQ2.out]
              exact ⟨rfl, hfin, hbx⟩
      · obtain rfl : k = n := by omega
        go_wp2
        go_ret
        have hall := cmj_all F R E (j := k) HALL.out
        unfold Rw
        rw [hall, lst_len]
        exact ⟨rfl, ho, hb⟩
end Go.Proofs.Ytkiefceomgbbhaa
