/- What attach.Sum and attach.Right answer. -/
import Derived.Test.YtgdalejccbhjcaaAttA
namespace Go.Proofs.Ytgdalejccbhjcaa
open Go.RowKit Go.Sort
set_option linter.unusedVariables false
set_option linter.unusedSimpArgs false

set_option maxHeartbeats 4000000 in
theorem asum_any (A : Option Addr) (n c : Nat) (f : Nat → Tkn) (w : World) (h : Tks w A n f) (hn : n ≤ 1000) (ht : ∀ i, i < n → amtB (f i).t = true) (hs : ∀ i, i ≤ n → amtB (sumT f i) = true) :
    Calls Try.prog 8 #[.slice A n c] w fun e w' => e = .returned (.tuple #[.int .i64 (sumT f n), .int .i64 0]) ∧ Below w.heap.size w w' := by
  have Bw := Below.refl w.heap.size w
  have HTT := Lib.hid ht
  have HSS := Lib.hid hs
  clear ht hs
  go_enter Try.func8, Try.ntmps8
  go_wp2
  go_loopw [4, 10] (fun s k W => ∃ i : Nat, i ≤ n ∧ s = .int .i64 (sumT f i) ∧ k = .int .i64 i ∧ Below w.heap.size w W) (fun _ k _ => n - (intOf k).toNat)
  case atStart => exact ⟨0, Nat.zero_le _, rfl, rfl, Bw⟩
  case round =>
    clear Bw
    obtain ⟨i, hi, rfl, rfl, hB⟩ := hrel
    by_cases hlt : i < n
    · obtain ⟨b, o, rfl, hc⟩ := id (h (by omega))
      obtain ⟨c0, c1, c2, c3, c4, c5⟩ := (hc i hlt).below hB
      have hil : (i : Int) < (n : Int) := by omega
      have cA := fun w => add_ok (sumT f i) (f i).t w (by rw [HSS.out i hi, HTT.out i hlt]; rfl) (HSS.out (i + 1) (by omega))
      have HS : Hid (sumT f (i + 1) = sumT f i + (f i).t) := Lib.hid rfl
      clear hc h HTT HSS
      generalize sumT f i = s at *
      generalize (f i).o = x0 at *
      generalize (f i).b = x1 at *
      generalize (f i).r = x2 at *
      generalize (f i).d = x3 at *
      generalize (f i).t = x4 at *
      generalize (f i).c = x5 at *
      have K := bx_new wr [.int .i64 x0, .int .i64 x1, .int .i64 x2, .int .i64 x3, .int .i64 x4, .int .i64 x5] 43
      have NB := below_new wr (.cells #[.int .i64 x0, .int .i64 x1, .int .i64 x2, .int .i64 x3, .int .i64 x4, .int .i64 x5] 43)
      have B2 := below_step hB NB hB.size
      have k0 := K.cell (i := 0) rfl
      have k1 := K.cell (i := 1) rfl
      have k2 := K.cell (i := 2) rfl
      have k3 := K.cell (i := 3) rfl
      have k4 := K.cell (i := 4) rfl
      have k5 := K.cell (i := 5) rfl
      clear NB hB
      go_wp2_with (fail)
      with_reducible refine (cA _).mono ?_
      rintro e w2 ⟨rfl, NB⟩
      have B3 := below_step B2 NB B2.size
      clear cA NB K B2 k0 k1 k2 k3 k4 k5 c0 c1 c2 c3 c4 c5
      go_wp2
      refine ⟨⟨i + 1, by omega, by rw [HS.out], by go_num, B3⟩, ?_⟩
      simp [intOf]; omega
    · obtain rfl : i = n := by omega
      have hnl : ¬ (i : Int) < (i : Int) := by omega
      clear h HTT HSS
      go_wp2
      go_ret2
      exact ⟨rfl, hB⟩

set_option maxHeartbeats 8000000 in
theorem aright_any (A : Option Addr) (n c : Nat) (f : Nat → Tkn) (w : World) (h : Tks w A n f) (hn : n ≤ 1000) (hf : ∀ i, i < n → amtB (f i).b = true ∧ amtB (f i).r = true ∧ amtB (f i).d = true ∧ amtB (f i).t = true ∧ amtB (f i).c = true) (v : Bool) (hv : okR f n = v) :
    Calls Try.prog 9 #[.slice A n c] w fun e w' => e = .returned (.bool v) ∧ Below w.heap.size w w' := by
  have Bw := Below.refl w.heap.size w
  have HFF := Lib.hid hf
  have HV := Lib.hid hv
  clear hf hv
  go_enter Try.func9, Try.ntmps9
  go_wp2
  go_loopw [3, 8] (fun s k W => ∃ i : Nat, i ≤ n ∧ s = .bool (shR f i) ∧ k = .int .i64 i ∧ okR f i = true ∧ Below w.heap.size w W) (fun _ k _ => n - (intOf k).toNat)
  case atStart => exact ⟨0, Nat.zero_le _, rfl, rfl, rfl, Bw⟩
  case round =>
    clear Bw
    obtain ⟨i, hi, rfl, rfl, hok, hB⟩ := hrel
    by_cases hlt : i < n
    · obtain ⟨b, o, rfl, hc⟩ := id (h (by omega))
      obtain ⟨c0, c1, c2, c3, c4, c5⟩ := (hc i hlt).below hB
      have hil : (i : Int) < (n : Int) := by omega
      obtain ⟨a1, a2, a3, a4, a5⟩ := HFF.out i hlt
      replace a1 := amtB_yes a1
      replace a2 := amtB_yes a2
      replace a3 := amtB_yes a3
      replace a4 := amtB_yes a4
      replace a5 := amtB_yes a5
      have HK : Hid (okR f (i + 1) = rtB (f i) (shR f i)) := Lib.hid (by show (okR f i && rtB (f i) (shR f i)) = _; rw [hok]; rfl)
      have HS : Hid (shR f (i + 1) = (shR f i || decide ((f i).t < (f i).d))) := Lib.hid rfl
      have HB : Hid (rtB (f i) (shR f i) = (decide ((f i).b + (f i).r = (f i).d) && decide ((f i).t + (f i).c = (f i).d) && decide (0 ≤ (f i).t) && !(shR f i && decide ((f i).t ≠ 0)))) := Lib.hid rfl
      have HST : Hid (rtB (f i) (shR f i) = false → v = false) := Lib.hid (fun h0 => by rw [← HV.out]; exact okR_stop hlt (by rw [HK.out]; exact h0))
      clear hc h HFF hok
      generalize rtB (f i) (shR f i) = rb at *
      generalize hsi : shR f i = si at *
      clear hsi
      generalize (f i).o = x0 at *
      generalize (f i).b = x1 at *
      generalize (f i).r = x2 at *
      generalize (f i).d = x3 at *
      generalize (f i).t = x4 at *
      generalize (f i).c = x5 at *
      have K := bx_new wr [.int .i64 x0, .int .i64 x1, .int .i64 x2, .int .i64 x3, .int .i64 x4, .int .i64 x5] 43
      have NB := below_new wr (.cells #[.int .i64 x0, .int .i64 x1, .int .i64 x2, .int .i64 x3, .int .i64 x4, .int .i64 x5] 43)
      have B2 := below_step hB NB hB.size
      have k0 := K.cell (i := 0) rfl
      have k1 := K.cell (i := 1) rfl
      have k2 := K.cell (i := 2) rfl
      have k3 := K.cell (i := 3) rfl
      have k4 := K.cell (i := 4) rfl
      have k5 := K.cell (i := 5) rfl
      clear NB hB
      have w1 : wrap64 (x1 + x2) = x1 + x2 := IntWalk.wrap64_in _ (by omega)
      have w2 : wrap64 (x4 + x5) = x4 + x5 := IntWalk.wrap64_in _ (by omega)
      by_cases e1 : x1 + x2 = x3
      rotate_left
      · have t1 : ((x1 + x2) != x3) = true := by simp [e1]
        have HR := Lib.hid (HST.out (by rw [HB.out, decide_eq_false e1]; rfl))
        clear e1 w1 w2
        go_wp2
        go_ret
        exact ⟨ret_b HR.out.symm, B2⟩
      have t1 : ((x1 + x2) != x3) = false := by simp [e1]
      by_cases e2 : x4 + x5 = x3
      rotate_left
      · have t2 : ((x4 + x5) != x3) = true := by simp [e2]
        have HR := Lib.hid (HST.out (by rw [HB.out, decide_eq_false e2]; simp))
        clear e1 e2 w1 w2
        go_wp2
        go_ret
        exact ⟨ret_b HR.out.symm, B2⟩
      have t2 : ((x4 + x5) != x3) = false := by simp [e2]
      by_cases e3 : 0 ≤ x4
      rotate_left
      · have t3 : x4 < 0 := by omega
        have HR := Lib.hid (HST.out (by rw [HB.out, decide_eq_false e3]; simp))
        clear e1 e2 w1 w2 e3
        go_wp2
        go_ret
        exact ⟨ret_b HR.out.symm, B2⟩
      have t3 : ¬ x4 < 0 := by omega
      cases si
      · have HKK : Hid (okR f (i + 1) = true) := Lib.hid (by rw [HK.out, HB.out, decide_eq_true e1, decide_eq_true e2, decide_eq_true e3]; rfl)
        clear e1 e2 w1 w2 e3
        by_cases e5 : x4 < x3
        · have HS2 : Hid (shR f (i + 1) = true) := Lib.hid (by rw [HS.out, decide_eq_true e5]; rfl)
          go_wp2
          refine ⟨⟨i + 1, by omega, by rw [HS2.out], by go_num, HKK.out, B2⟩, ?_⟩
          simp [intOf]; omega
        · have HS2 : Hid (shR f (i + 1) = false) := Lib.hid (by rw [HS.out, decide_eq_false e5]; rfl)
          go_wp2
          refine ⟨⟨i + 1, by omega, by rw [HS2.out], by go_num, HKK.out, B2⟩, ?_⟩
          simp [intOf]; omega
      · have HS2 : Hid (shR f (i + 1) = true) := Lib.hid (by rw [HS.out]; rfl)
        by_cases e4 : x4 = 0
        · have t4 : (x4 != 0) = false := by simp [e4]
          have HKK : Hid (okR f (i + 1) = true) := Lib.hid (by rw [HK.out, HB.out, decide_eq_true e1, decide_eq_true e2, decide_eq_true e3]; simp [e4])
          clear e1 e2 w1 w2 e3 e4
          go_wp2
          refine ⟨⟨i + 1, by omega, by rw [HS2.out], by go_num, HKK.out, B2⟩, ?_⟩
          simp [intOf]; omega
        · have t4 : (x4 != 0) = true := by simp [e4]
          have HR := Lib.hid (HST.out (by rw [HB.out]; simp [e4]))
          clear e1 e2 w1 w2 e3 e4
          go_wp2
          go_ret
          exact ⟨ret_b HR.out.symm, B2⟩
    · obtain rfl : i = n := by omega
      have hnl : ¬ (i : Int) < (i : Int) := by omega
      have HR : Hid (v = true) := Lib.hid (by rw [← HV.out]; exact hok)
      clear h HFF hok
      go_wp2
      go_ret
      exact ⟨ret_b HR.out.symm, hB⟩
end Go.Proofs.Ytgdalejccbhjcaa
