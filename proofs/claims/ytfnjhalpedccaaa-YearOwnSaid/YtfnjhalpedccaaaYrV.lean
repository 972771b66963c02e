/- What the law's own right and small answer. -/
import Derived.Test.YtfnjhalpedccaaaYrU
namespace Go.Proofs.Ytfnjhalpedccaaa
open Go.RowKit Go.Sort
set_option linter.unusedVariables false
set_option linter.unusedSimpArgs false

theorem lright_any (A : Option Addr) (n c : Nat) (w : World) (f : Nat → Int) (h : rowAt w A n fun i => .int .i64 (f i)) (hn : n ≤ 1000) (v : Bool) (hv : allB f n = v) :
    Calls Try.prog 39 #[.slice A n c] w fun e w' => e = .returned (.bool v) ∧ w = w' := by
  have HV := Lib.hid hv
  have HR := Lib.hid h
  clear hv h
  go_enter Try.func39, Try.ntmps39
  go_wp2
  go_loop [7] (fun k => ∃ i : Nat, i ≤ n ∧ allB f i = true ∧ k = .int .i64 i) (fun k => n - (intOf k).toNat)
  case atStart => exact ⟨0, Nat.zero_le _, rfl, rfl⟩
  case round =>
    obtain ⟨i, hi, hok, rfl⟩ := hrel
    by_cases hlt : i < n
    · obtain ⟨b, o, rfl, hc⟩ := HR.out (by omega)
      have x := hc i hlt
      simp only at x
      have hil : (i : Int) < (n : Int) := by omega
      have HST : Hid (amtB (f i) = false → v = false) := Lib.hid (fun h0 => by
        rw [← HV.out]
        cases hq : allB f n
        · rfl
        · rw [allB_true hq i hlt] at h0; cases h0)
      have HK : Hid (amtB (f i) = true → allB f (i + 1) = true) := Lib.hid (fun h0 => by rw [allB_succ, hok, h0]; rfl)
      clear hc
      generalize f i = y at *
      by_cases b1 : 100000000000 < y
      · have HF := Lib.hid (HST.out (amtB_mk_no (.inr b1)))
        go_wp2
        go_ret
        exact ⟨ret_b HF.out.symm, rfl⟩
      by_cases b2 : y < -100000000000
      · have HF := Lib.hid (HST.out (amtB_mk_no (.inl b2)))
        go_wp2
        go_ret
        exact ⟨ret_b HF.out.symm, rfl⟩
      have HT := Lib.hid (HK.out (amtB_mk (by omega) (by omega)))
      go_wp2
      refine ⟨⟨i + 1, by omega, HT.out, by go_num⟩, ?_⟩
      simp [intOf]; omega
    · obtain rfl : i = n := by omega
      have hnl : ¬ (i : Int) < (i : Int) := by omega
      have HT : Hid (v = true) := Lib.hid (by rw [← HV.out, hok])
      go_wp2
      go_ret
      exact ⟨ret_b HT.out.symm, rfl⟩
/-- are payslips of a size with which this is tried? -/
def smB (g : Nat → Slp) : Nat → Bool
  | 0 => true
  | i + 1 => smB g i && (decide ((g i).n ≤ 30) && decide ((g i).m ≤ 30))
theorem smB_stop {g : Nat → Slp} {k n : Nat} (hk : k < n) (h : smB g (k + 1) = false) : smB g n = false := by
  obtain ⟨m, rfl⟩ : ∃ m, n = k + 1 + m := ⟨n - k - 1, by omega⟩
  induction m with
  | zero => exact h
  | succ m ih =>
    have := ih (by omega)
    show (smB g (k + 1 + m) && _) = false
    rw [this]; rfl
theorem smB_at {g : Nat → Slp} {n : Nat} (h : smB g n = true) : ∀ i, i < n → (g i).n ≤ 30 ∧ (g i).m ≤ 30 := by
  induction n with
  | zero => intro i hi; exact absurd hi (Nat.not_lt_zero i)
  | succ n ih =>
    intro i hi
    simp only [smB, Bool.and_eq_true, decide_eq_true_eq] at h
    rcases Nat.lt_or_ge i n with hl | hl
    · exact ih h.1 i hl
    · obtain rfl : i = n := by omega
      exact h.2
set_option maxRecDepth 100000 in
set_option maxHeartbeats 2000000 in
theorem lsmall_any (A : Option Addr) (N c : Nat) (g : Nat → Slp) (w : World) (h : Sls w A N g) (hN : N ≤ 4611686018427387904) (v : Bool) (hv : (smB g N && decide (N ≤ 60)) = v) :
    Calls Try.prog 8 #[.slice A N c] w fun e w' => e = .returned (.bool v) ∧ Below w.heap.size w w' := by
  have HV := Lib.hid hv
  have HR := Lib.hid h
  have Bw := Below.refl w.heap.size w
  clear hv h
  go_enter Try.func8, Try.ntmps8
  go_wp2
  go_loopw [7] (fun k W => ∃ i : Nat, i ≤ N ∧ k = .int .i64 i ∧ smB g i = true ∧ Below w.heap.size w W) (fun k _ => N - (intOf k).toNat)
  case atStart => exact ⟨0, Nat.zero_le _, rfl, rfl, Bw⟩
  case round =>
    clear Bw
    obtain ⟨i, hi, rfl, hok, hB⟩ := hrel
    by_cases hlt : i < N
    · obtain ⟨b, o, rfl, hc⟩ := HR.out (by omega)
      obtain ⟨x_0, x_1, x_2, x_3, x_4, x_5, x_6, x_7, x_8, x_9⟩ := ((hc i hlt).1.below hB).all
      have hil : (i : Int) < (N : Int) := by omega
      have HST : Hid ((decide ((g i).n ≤ 30) && decide ((g i).m ≤ 30)) = false → v = false) := Lib.hid (fun h0 => by
        rw [← HV.out, smB_stop hlt (by show (smB g i && _) = false; rw [h0]; simp)]; rfl)
      have HK : Hid ((decide ((g i).n ≤ 30) && decide ((g i).m ≤ 30)) = true → smB g (i + 1) = true) := Lib.hid (fun h0 => by show (smB g i && _) = true; rw [hok, h0]; rfl)
      clear hc hok
      generalize g i = s at *
      have K := bx_new wr [.int .i64 s.k, .int .i64 s.ca, .int .i64 s.tb, .int .i64 s.so, .int .i64 s.tx, .int .i64 s.sf, .slice s.A s.n s.c, .int .i64 s.net, .slice s.T s.m s.d, .int .i64 s.pay] 37
      have B2 := below_step hB (below_new wr (.cells #[.int .i64 s.k, .int .i64 s.ca, .int .i64 s.tb, .int .i64 s.so, .int .i64 s.tx, .int .i64 s.sf, .slice s.A s.n s.c, .int .i64 s.net, .slice s.T s.m s.d, .int .i64 s.pay] 37)) hB.size
      have k6 := K.cell (i := 6) rfl
      have k8 := K.cell (i := 8) rfl
      clear K hB
      by_cases b1 : 30 < s.n
      · have b1' : (30 : Int) < (s.n : Int) := by omega
        have HF := Lib.hid (HST.out (by rw [decide_eq_false (by omega)]; rfl))
        clear b1
        go_wp2
        go_ret
        exact ⟨ret_b HF.out.symm, B2⟩
      have b1' : ¬ (30 : Int) < (s.n : Int) := by omega
      by_cases b2 : 30 < s.m
      · have b2' : (30 : Int) < (s.m : Int) := by omega
        have HF := Lib.hid (HST.out (by rw [decide_eq_false (show ¬ s.m ≤ 30 by omega)]; simp))
        clear b1 b2
        go_wp2
        go_ret
        exact ⟨ret_b HF.out.symm, B2⟩
      have b2' : ¬ (30 : Int) < (s.m : Int) := by omega
      have HT := Lib.hid (HK.out (by rw [decide_eq_true (by omega), decide_eq_true (by omega)]; rfl))
      clear b1 b2
      go_wp2
      refine ⟨⟨i + 1, by omega, by go_num, HT.out, B2⟩, ?_⟩
      simp [intOf]; omega
    · obtain rfl : N = i := by omega
      have hnl : ¬ (N : Int) < (N : Int) := by omega
      have HT : Hid (decide ((N : Int) ≤ 60) = v) := Lib.hid (by rw [← HV.out, hok, Bool.true_and]; congr 1; apply propext; omega)
      clear hok
      go_wp2
      go_ret
      exact ⟨ret_b HT.out, hB⟩
end Go.Proofs.Ytfnjhalpedccaaa
