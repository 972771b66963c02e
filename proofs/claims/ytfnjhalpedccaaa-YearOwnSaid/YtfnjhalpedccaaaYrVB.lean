/- What the law's own small answers of a list of any length. -/
import Derived.Test.YtfnjhalpedccaaaYrV
namespace Go.Proofs.Ytfnjhalpedccaaa
open Go.RowKit Go.Sort
set_option linter.unusedVariables false
set_option linter.unusedSimpArgs false

set_option maxRecDepth 100000 in
set_option maxHeartbeats 2000000 in
theorem lsmall_big (A : Option Addr) (N c : Nat) (g : Nat → Slp) (w : World) (h : Sls w A N g) (hN : N ≤ 9223372036854775807) (v : Bool) (hv : (smB g N && decide (N ≤ 60)) = v) :
    Calls Try.prog 8 #[.slice A N c] w fun e w' => e = .returned (.bool v) ∧ Below w.heap.size w w' := by
  have HV := Lib.hid hv
  have HR := Lib.hid h
  have Bw := Below.refl w.heap.size w
  clear hv h
  go_enter Try.func8, Try.ntmps8
  go_wp2
  go_loopw [7] (fun k W => ∃ i : Nat, i ≤ N ∧ k = .int .i64 i ∧ smB g i = true ∧ Below w.heap.size w W) (fun k _ => N - (intOf k).toNat)
  case atStart => exact ⟨0, Nat.zero_le _, rfl, rfl, Bw⟩
  case round =>
    clear Bw
    obtain ⟨i, hi, rfl, hok, hB⟩ := hrel
    by_cases hlt : i < N
    · obtain ⟨b, o, rfl, hc⟩ := HR.out (by omega)
      obtain ⟨x_0, x_1, x_2, x_3, x_4, x_5, x_6, x_7, x_8, x_9⟩ := ((hc i hlt).1.below hB).all
      have hil : (i : Int) < (N : Int) := by omega
      have HST : Hid ((decide ((g i).n ≤ 30) && decide ((g i).m ≤ 30)) = false → v = false) := Lib.hid (fun h0 => by
        rw [← HV.out, smB_stop hlt (by show (smB g i && _) = false; rw [h0]; simp)]; rfl)
      have HK : Hid ((decide ((g i).n ≤ 30) && decide ((g i).m ≤ 30)) = true → smB g (i + 1) = true) := Lib.hid (fun h0 => by show (smB g i && _) = true; rw [hok, h0]; rfl)
      clear hc hok
      generalize g i = s at *
      have K := bx_new wr [.int .i64 s.k, .int .i64 s.ca, .int .i64 s.tb, .int .i64 s.so, .int .i64 s.tx, .int .i64 s.sf, .slice s.A s.n s.c, .int .i64 s.net, .slice s.T s.m s.d, .int .i64 s.pay] 37
      have B2 := below_step hB (below_new wr (.cells #[.int .i64 s.k, .int .i64 s.ca, .int .i64 s.tb, .int .i64 s.so, .int .i64 s.tx, .int .i64 s.sf, .slice s.A s.n s.c, .int .i64 s.net, .slice s.T s.m s.d, .int .i64 s.pay] 37)) hB.size
      have k6 := K.cell (i := 6) rfl
      have k8 := K.cell (i := 8) rfl
      clear K hB
      by_cases b1 : 30 < s.n
      · have b1' : (30 : Int) < (s.n : Int) := by omega
        have HF := Lib.hid (HST.out (by rw [decide_eq_false (by omega)]; rfl))
        clear b1
        go_wp2
        go_ret
        exact ⟨ret_b HF.out.symm, B2⟩
      have b1' : ¬ (30 : Int) < (s.n : Int) := by omega
      by_cases b2 : 30 < s.m
      · have b2' : (30 : Int) < (s.m : Int) := by omega
        have HF := Lib.hid (HST.out (by rw [decide_eq_false (show ¬ s.m ≤ 30 by omega)]; simp))
        clear b1 b2
        go_wp2
        go_ret
        exact ⟨ret_b HF.out.symm, B2⟩
      have b2' : ¬ (30 : Int) < (s.m : Int) := by omega
      have HT := Lib.hid (HK.out (by rw [decide_eq_true (by omega), decide_eq_true (by omega)]; rfl))
      clear b1 b2
      go_wp2
      refine ⟨⟨i + 1, by omega, by go_num, HT.out, B2⟩, ?_⟩
      simp [intOf]; omega
    · obtain rfl : N = i := by omega
      have hnl : ¬ (N : Int) < (N : Int) := by omega
      have HT : Hid (decide ((N : Int) ≤ 60) = v) := Lib.hid (by rw [← HV.out, hok, Bool.true_and]; congr 1; apply propext; omega)
      clear hok
      go_wp2
      go_ret
      exact ⟨ret_b HT.out, hB⟩
end Go.Proofs.Ytfnjhalpedccaaa
