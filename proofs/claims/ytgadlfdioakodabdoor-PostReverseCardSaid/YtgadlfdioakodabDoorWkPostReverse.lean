/- The walk of the law PostReverse. -/
import Derived.Test.YtgadlfdioakodabDoorBks
import Derived.Test.YtgadlfdioakodabDoorOpenP
import Derived.Lib.QuietBelow
import Derived.BigQuiet
namespace Go.Proofs.YtgadlfdioakodabDoor
open Go.RowKit Go.Sort
set_option linter.unusedVariables false
set_option linter.unusedSimpArgs false

theorem neg_one {v : Int} (h : fits v) (hm : v ≠ -9223372036854775808) : IntKind.i64.wrap (v * -1) = -v := by
  unfold fits at h
  rw [show v * -1 = -v by omega]
  exact IntWalk.i64_in _ (by omega)
theorem neg_two {v : Int} (h : fits v) (hm : v ≠ -9223372036854775808) : IntKind.i64.wrap (IntKind.i64.wrap (v * -1) * -1) = v := by
  rw [neg_one h hm]
  unfold fits at h
  rw [show -v * -1 = v by omega]
  exact IntWalk.i64_in _ (by omega)
theorem amt_neg (v : Int) : amtB (-v) = amtB v := by
  rw [Bool.eq_iff_iff]
  unfold amtB
  simp only [decide_eq_true_eq, Bool.and_eq_true]
  omega
theorem chk_rev {f : Nat → En} {n : Nat} (h : ∀ i, i < n → fits (f i).2) (hm : ∀ i, i < n → (f i).2 ≠ -9223372036854775808) : (chkP (sgE (-1) f) n == 0) = (chkP f n == 0) := by
  have hE : ∀ i, i < n → enE (sgE (-1) f) i = enE f i := fun i hi => by
    unfold enE sgE
    dsimp only
    rw [neg_one (h i hi) (hm i hi), amt_neg]
  have hF : ∀ k, k ≤ n → firstE (enE (sgE (-1) f)) k = firstE (enE f) k := fun k hk => by
    induction k with
    | zero => rfl
    | succ k ih =>
      have e := ih (by omega)
      show (if firstE _ k = 0 then _ else firstE _ k) = (if firstE _ k = 0 then _ else firstE _ k)
      rw [e, hE k (by omega)]
  have hS : ∀ k, k ≤ n → enS (sgE (-1) f) k = -enS f k := fun k hk => by
    induction k with
    | zero => rfl
    | succ k ih =>
      show enS (sgE (-1) f) k + (sgE (-1) f k).2 = -(enS f k + (f k).2)
      rw [ih (by omega)]
      unfold sgE
      dsimp only
      rw [neg_one (h k (by omega)) (hm k (by omega))]
      omega
  unfold chkP
  rw [hF n (Nat.le_refl _), hS n (Nat.le_refl _)]
  by_cases h1 : firstE (enE f) n = 0
  · rw [h1]
    simp only [ne_eq, not_true_eq_false, if_false]
    by_cases h2 : enS f n = 0
    · rw [h2]; rfl
    · rw [if_pos (by omega), if_pos h2]
  · rw [if_pos h1, if_pos h1]
theorem neq_en (N : ByteArray) (v : Int) (W : World) : (binOp .neq 26 (.agg #[.string N, .int .i64 v]) (.agg #[.string N, .int .i64 v])).run Tryd.prog W = .ok (.bool false) W := by
  simp [go_sem]
set_option maxRecDepth 100000 in
set_option maxHeartbeats 8000000 in
theorem wPostReverse (A : Option Addr) (n c : Nat) (f : Nat → En) (w : World) (hT : Tab w) (hE : EnM w A n f) (hn : n ≤ 9223372036854775807 ∧ n ≤ c) (hf : ∀ i, i < n → EnF (f i)) :
    Calls Tryd.prog 7 #[.slice A n c] w fun e w' => e = .returned (.bool true) ∧ Below w.heap.size w w' := by
  have HH := Lib.hid (And.intro hT (And.intro hE (And.intro hn hf)))
  have cB := books_any w hT
  clear hT hE hn hf
  go_enter Tryd.func7, Tryd.ntmps7
  go_wp2_with (fail)
  with_reducible refine cB.mono ?_
  rintro e w1 ⟨rfl, B1⟩
  clear cB
  have hE1 := HH.out.2.1.below B1
  by_cases h40 : n ≤ 40
  rotate_left
  · have hgt : ((n : Int) > 40) := by omega
    have hgt2 : decide ((40 : Int) < (n : Int)) = true := by simpa using hgt
    clear hE1 h40
    go_wp2
    go_ret
    exact ⟨rfl, B1⟩
  have hle : decide ((40 : Int) < (n : Int)) = false := by simp; omega
  have HN := Lib.hid h40
  have cR := reverse_any A n c f w1 hE1 (by omega) (fun i hi => by have := (HH.out.2.2.2 i hi).1; omega)
  have HE1 := Lib.hid hE1
  clear h40 hE1
  go_wp2_with (fail)
  with_reducible refine cR.mono ?_
  rintro e w2 ⟨v2, rfl, own2, hb2⟩
  obtain ⟨A2, c2, rfl, -, -⟩ := own_len own2
  have B2 := below_step B1 hb2 B1.size
  have hE2 := en_own own2
  have cR2 := reverse_any A2 n c2 (sgE (-1) f) w2 hE2 (by have := HN.out; omega) (fun i hi => by have := (HH.out.2.2.2 i hi).1; show (f i).1.size ≤ _; omega)
  have HE2 := Lib.hid (And.intro (HE1.out.below hb2) hE2)
  clear cR hE2 own2 hb2 B1
  go_wp2_with (fail)
  with_reducible refine cR2.mono ?_
  rintro e w3 ⟨v3, rfl, own3, hb3⟩
  obtain ⟨A3, c3, rfl, -, -⟩ := own_len own3
  have B3 := below_step B2 hb3 B2.size
  have HE3 := Lib.hid (And.intro (HE2.out.1.below hb3) (And.intro (HE2.out.2.below hb3) (en_own own3)))
  have HB3 := Lib.hid B3
  have Bw := Below.refl w3.heap.size w3
  clear cR2 own3 hb3 B2 B3 HE1
  go_wp2
  go_loopw [30] (fun a X => ∃ i : Nat, i ≤ n ∧ a = .int .i64 i ∧ (∀ j, j < i → (f j).2 ≠ -9223372036854775808) ∧ Below w3.heap.size w3 X) (fun a _ => n - (intOf a).toNat)
  case atStart => exact ⟨0, Nat.zero_le _, rfl, fun j hj => absurd hj (Nat.not_lt_zero _), Bw⟩
  case round =>
    clear Bw
    obtain ⟨i, hi, rfl, hmn, hbX⟩ := hrel
    by_cases hlt : i < n
    · have hil : (i : Int) < (n : Int) := by omega
      have hwi : wrap64 ((i : Int) + 1) = (i : Int) + 1 := IntWalk.wrap64_in _ (by have := HN.out; omega)
      obtain ⟨b, o, rfl, hc⟩ := HE3.out.1.below hbX (by omega)
      obtain ⟨b2, o2, rfl, hc2⟩ := HE3.out.2.1.below hbX (by omega)
      obtain ⟨b3, o3, rfl, hc3⟩ := HE3.out.2.2.below hbX (by omega)
      obtain ⟨x0, x1⟩ := hc i hlt
      obtain ⟨y0, y1⟩ := hc2 i hlt
      obtain ⟨z0, z1⟩ := hc3 i hlt
      have hfi := (HH.out.2.2.2 i hlt).2
      have KX := bx_new wr [.string (f i).1, .int .i64 (f i).2] 26
      have NX := below_new wr (.cells #[.string (f i).1, .int .i64 (f i).2] 26)
      have B4 := below_step hbX NX hbX.size
      replace y0 : wr.cell? ⟨b2, o2 + i * 2, none⟩ = some (.string (f i).1) := y0
      replace y1 : wr.cell? ⟨b2, o2 + i * 2 + 1, none⟩ = some (.int .i64 (IntKind.i64.wrap ((f i).2 * -1))) := y1
      replace z0 : wr.cell? ⟨b3, o3 + i * 2, none⟩ = some (.string (f i).1) := z0
      replace z1 : wr.cell? ⟨b3, o3 + i * 2 + 1, none⟩ = some (.int .i64 (IntKind.i64.wrap (IntKind.i64.wrap ((f i).2 * -1) * -1))) := z1
      have kx_0 := KX.cell (i := 0) rfl
      have kx_1 := KX.cell (i := 1) rfl
      by_cases hm : (f i).2 = -9223372036854775808
      · have hm1 : ((f i).2 == -9223372036854775808) = true := by rw [hm]; rfl
        have HB := Lib.hid (below_step HB3.out B4 HB3.out.size)
        clear hc hc2 hc3 hm hmn hfi B4 NX KX y0 y1 z0 z1
        generalize (f i).1 = N at *
        generalize (f i).2 = v at *
        go_wp2
        go_ret
        exact ⟨rfl, HB.out⟩
      · have hm1 : ((f i).2 == -9223372036854775808) = false := by rw [beq_eq_false_iff_ne]; exact hm
        have HM : Hid (∀ j, j < i + 1 → (f j).2 ≠ -9223372036854775808) := Lib.hid (fun j hj => by
          by_cases e : j = i
          · subst e; exact hm
          · exact hmn j (by omega))
        rw [neg_two hfi hm] at z1
        rw [neg_one hfi hm] at y1
        have hb : Hid (-9223372036854775808 ≤ (f i).2 ∧ (f i).2 ≤ 9223372036854775807 ∧ (f i).2 ≠ -9223372036854775808) := Lib.hid ⟨hfi.1, hfi.2, hm⟩
        have hng : IntKind.i64.wrap (-(f i).2) = -(f i).2 := IntWalk.i64_in _ (by have := hb.out; omega)
        have hB4 := Lib.hid B4
        have HL := Lib.hid hlt
        have hq1 := neq_en (f i).1 (f i).2
        have hq2 := neq_en (f i).1 (-(f i).2)
        have yy0 := cell_later NX y0
        have yy1 := cell_later NX y1
        have zz0 := cell_later NX z0
        have zz1 := cell_later NX z1
        clear hc hc2 hc3 hm hmn hfi B4 NX KX y0 y1 z0 z1 hbX hlt hi
        generalize (f i).1 = N at *
        generalize (f i).2 = v at *
        go_wp2
        go_quiet (fail)
        have HB5 := Lib.hid (below_drewN hB4.out nq)
        go_wp2
        exact ⟨⟨i + 1, Nat.succ_le_of_lt HL.out, by go_num, HM.out, HB5.out⟩, by first | exact meas_step HL.out | (rw [hwi]; exact meas_step HL.out)⟩
    · obtain rfl : i = n := by omega
      have hnl : ¬ (i : Int) < (i : Int) := by omega
      have cC := fun X hb => pcheck_any A i c f X (HE3.out.1.below hb) (by have := HN.out; omega)
      have cD := fun X hb => pcheck_any A2 i c2 (sgE (-1) f) X (HE3.out.2.1.below hb) (by have := HN.out; omega)
      have HR := Lib.hid (chk_rev (fun j hj => (HH.out.2.2.2 j hj).2) hmn)
      have HB5 := Lib.hid hbX
      clear hmn hi hlt
      go_wp2_with (fail)
      with_reducible refine (cC _ hbX).mono ?_
      rintro e w5 ⟨rfl, hb5⟩
      have hb6 := below_step HB5.out hb5 HB5.out.size
      clear cC hbX hb5
      go_wp2_with (fail)
      with_reducible refine (cD _ hb6).mono ?_
      rintro e w7 ⟨rfl, hb7⟩
      have HB7 := Lib.hid (below_step HB3.out (below_step hb6 hb7 hb6.size) HB3.out.size)
      clear cD hb7 hb6
      have hR : ((chkP f i == 0) == (chkP (sgE (-1) f) i == 0)) = true := by rw [HR.out]; simp
      generalize chkP f i = a1 at *
      generalize chkP (sgE (-1) f) i = a2 at *
      go_wp2
      go_ret
      exact ⟨by rw [← hR]; rfl, HB7.out⟩
end Go.Proofs.YtgadlfdioakodabDoor
