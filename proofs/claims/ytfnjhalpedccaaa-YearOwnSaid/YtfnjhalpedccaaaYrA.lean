/- What attach.Sum, share.Employee and base.Right answer. -/
import Derived.Test.YtfnjhalpedccaaaYrM
import Derived.Test.YtfnjhalpedccaaaShrB
namespace Go.Proofs.Ytfnjhalpedccaaa
open Go.RowKit Go.Sort
set_option linter.unusedVariables false
set_option linter.unusedSimpArgs false

theorem add_any (a b : Int) (w : World) (r : Bool) (hr : (amtB a && amtB b && amtB (a + b)) = r) :
    Calls Try.prog 53 #[.int .i64 a, .int .i64 b] w fun e w' => e = .returned (.tuple #[.int .i64 (if r = true then a + b else 0), .int .i64 (if r = true then 0 else 10)]) ∧ Below w.heap.size w w' := by
  cases h1 : amtB a && amtB b
  · rw [h1] at hr
    obtain rfl : r = false := by rw [← hr]; rfl
    exact add_args a b w h1
  · cases h2 : amtB (a + b)
    · rw [h1, h2] at hr
      obtain rfl : r = false := by rw [← hr]; rfl
      exact add_sum a b w h1 h2
    · rw [h1, h2] at hr
      obtain rfl : r = true := by rw [← hr]; rfl
      exact add_ok a b w h1 h2
set_option maxHeartbeats 4000000 in
theorem tsum_any (A : Option Addr) (n c : Nat) (f : Nat → Tkn) (w : World) (h : Tks w A n f) (hn : n ≤ 4611686018427387904) (r : Bool) (hr : okS f n = r) (u q : Int) (hu : (if r = true then sumT f n else 0) = u) (hq : (if r = true then (0 : Int) else 10) = q) :
    Calls Try.prog 57 #[.slice A n c] w fun e w' => e = .returned (.tuple #[.int .i64 u, .int .i64 q]) ∧ Below w.heap.size w w' := by
  have Bw := Below.refl w.heap.size w
  have HR := Lib.hid hr
  have HU := Lib.hid hu
  have HQ := Lib.hid hq
  clear hr hu hq
  go_enter Try.func57, Try.ntmps57
  go_wp2
  go_loopw [4, 10] (fun s k W => ∃ i : Nat, i ≤ n ∧ s = .int .i64 (sumT f i) ∧ k = .int .i64 i ∧ okS f i = true ∧ Below w.heap.size w W) (fun _ k _ => n - (intOf k).toNat)
  case atStart => exact ⟨0, Nat.zero_le _, rfl, rfl, rfl, Bw⟩
  case round =>
    clear Bw
    obtain ⟨i, hi, rfl, rfl, hok, hB⟩ := hrel
    by_cases hlt : i < n
    · obtain ⟨b, o, rfl, hc⟩ := id (h (by omega))
      obtain ⟨c0, c1, c2, c3, c4, c5⟩ := (hc i hlt).below hB
      have hil : (i : Int) < (n : Int) := by omega
      have cA := fun v hv w => add_any (sumT f i) (f i).t w v hv
      have HS : Hid (sumT f (i + 1) = sumT f i + (f i).t) := Lib.hid rfl
      have HK : Hid (okS f (i + 1) = (amtB (f i).t && amtB (sumT f i + (f i).t))) := Lib.hid (by show (okS f i && _) = _; rw [hok]; rfl)
      have HA := Lib.hid (okS_amt hok)
      have HST : Hid (okS f (i + 1) = false → r = false) := Lib.hid (fun h0 => by rw [← HR.out]; exact okS_stop hlt h0)
      clear hc h hok
      generalize sumT f i = s at *
      generalize (f i).o = x0 at *
      generalize (f i).b = x1 at *
      generalize (f i).r = x2 at *
      generalize (f i).d = x3 at *
      generalize (f i).t = x4 at *
      generalize (f i).c = x5 at *
      have K := bx_new wr [.int .i64 x0, .int .i64 x1, .int .i64 x2, .int .i64 x3, .int .i64 x4, .int .i64 x5] 58
      have NB := below_new wr (.cells #[.int .i64 x0, .int .i64 x1, .int .i64 x2, .int .i64 x3, .int .i64 x4, .int .i64 x5] 58)
      have B2 := below_step hB NB hB.size
      have k0 := K.cell (i := 0) rfl
      have k1 := K.cell (i := 1) rfl
      have k2 := K.cell (i := 2) rfl
      have k3 := K.cell (i := 3) rfl
      have k4 := K.cell (i := 4) rfl
      have k5 := K.cell (i := 5) rfl
      clear NB hB
      cases hq : amtB x4 && amtB (s + x4)
      · have cA := cA false (by rw [HA.out, Bool.true_and, hq])
        have HF := Lib.hid (HST.out (by rw [HK.out, hq]))
        have HU0 : Hid (u = 0) := Lib.hid (by rw [← HU.out, HF.out]; rfl)
        have HQ0 : Hid (q = 10) := Lib.hid (by rw [← HQ.out, HF.out]; rfl)
        clear hq
        simp only [if_neg Bool.false_ne_true] at cA
        go_wp2_with (fail)
        with_reducible refine (cA _).mono ?_
        rintro e w2 ⟨rfl, NB⟩
        have B3 := below_step B2 NB B2.size
        clear cA NB K B2 k0 k1 k2 k3 k4 k5 c0 c1 c2 c3 c4 c5
        go_wp2
        go_ret2
        exact ⟨by rw [HU0.out, HQ0.out]; rfl, B3⟩
      · have cA := cA true (by rw [HA.out, Bool.true_and, hq])
        have HT : Hid (okS f (i + 1) = true) := Lib.hid (by rw [HK.out, hq])
        clear hq
        simp only [if_true] at cA
        have hsx := Lib.hid HS.out
        generalize hsy : s + x4 = y at *
        have HS2 := Lib.hid HS.out
        clear hsy
        go_wp2_with (fail)
        with_reducible refine (cA _).mono ?_
        rintro e w2 ⟨rfl, NB⟩
        have B3 := below_step B2 NB B2.size
        clear cA NB K B2 k0 k1 k2 k3 k4 k5 c0 c1 c2 c3 c4 c5
        go_wp2
        refine ⟨⟨i + 1, by omega, by rw [HS2.out], by go_num, HT.out, B3⟩, ?_⟩
        simp [intOf]; omega
    · obtain rfl : n = i := by omega
      have hnl : ¬ (n : Int) < (n : Int) := by omega
      have HO := Lib.hid (show r = true from HR.out.symm.trans hok)
      have HU0 : Hid (u = sumT f n) := Lib.hid (by rw [← HU.out, HO.out]; rfl)
      have HQ0 : Hid (q = 0) := Lib.hid (by rw [← HQ.out, HO.out]; rfl)
      clear h hok
      go_wp2
      go_ret2
      exact ⟨by rw [HU0.out, HQ0.out]; rfl, hB⟩
theorem employee_any (A : Option Addr) (n c : Nat) (w : World) (X Y : Nat → Int) (h : Shs w A n X Y) (hn : n ≤ 4611686018427387904) (r : Bool) (hr : okT X Y n = r) :
    Calls Try.prog 54 #[.slice A n c] w fun e w' => e = .returned (.tuple #[.int .i64 (if r = true then tsm X n else 0), .int .i64 (if r = true then 0 else 10)]) ∧ Below w.heap.size w w' := by
  have cT := fun w h => sides_any A n c w X Y h hn
  have hv : totV X Y n = .tuple #[.agg #[.int .i64 (if r = true then tsm X n else 0), .int .i64 (if r = true then tsm Y n else 0)], .int .i64 (if r = true then 0 else 10)] := by unfold totV; rw [hr]
  simp only [hv] at cT
  generalize (if r = true then tsm X n else 0) = u at *
  generalize (if r = true then tsm Y n else 0) = v at *
  generalize (if r = true then (0 : Int) else 10) = q at *
  clear hv hr
  go_enter Try.func54, Try.ntmps54
  go_wp2_with (fail)
  with_reducible refine (cT _ h).mono ?_
  rintro e w1 ⟨rfl, NB⟩
  have K := bx_new w1 [.int .i64 u, .int .i64 v] 53
  have NB2 := below_new w1 (.cells #[.int .i64 u, .int .i64 v] 53)
  have B2 := below_step NB NB2 NB.size
  have k0 := K.cell (i := 0) rfl
  have k1 := K.cell (i := 1) rfl
  clear cT NB NB2 K
  go_wp2
  go_ret2
  exact ⟨rfl, B2⟩
theorem baseright_any (a b c : Int) (w : World) (v : Bool) (hv : (amtB a && amtB b && amtB c) = v) :
    Calls Try.prog 55 #[.agg #[.int .i64 a, .int .i64 b, .int .i64 c]] w fun e w' => e = .returned (.bool v) ∧ Below w.heap.size w w' := by
  have K := bx_new w [.int .i64 a, .int .i64 b, .int .i64 c] 30
  have NB := below_new w (.cells #[.int .i64 a, .int .i64 b, .int .i64 c] 30)
  have NB2 := below_step NB (below_new _ (.cells #[.int .i64 a, .int .i64 b, .int .i64 c] 2)) NB.size
  have k0 := K.cell (i := 0) rfl
  have k1 := K.cell (i := 1) rfl
  have k2 := K.cell (i := 2) rfl
  have cR := right3 a b c (w.alloc (.cells #[.int .i64 a, .int .i64 b, .int .i64 c] 30)) 2 v hv (w.heap.size + 1) (by simp)
  clear K NB hv
  go_enter Try.func55, Try.ntmps55
  go_wp2_with (fail)
  with_reducible refine cR.mono ?_
  rintro e w1 ⟨rfl, rfl⟩
  clear cR k0 k1 k2
  go_wp2
  go_ret
  exact ⟨rfl, NB2⟩
end Go.Proofs.Ytfnjhalpedccaaa
