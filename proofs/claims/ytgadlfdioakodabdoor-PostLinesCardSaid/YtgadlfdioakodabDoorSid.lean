/- What share.Sides and attach.Sum answer of any shares, and of anything taken. -/
import Derived.Test.YtgadlfdioakodabDoorPairD
import Derived.Test.YtgadlfdioakodabDoorOrdM
import Derived.Test.YtgadlfdioakodabDoorMoneyB
namespace Go.Proofs.YtgadlfdioakodabDoor
open Go.RowKit Go.Sort
set_option linter.unusedVariables false
set_option linter.unusedSimpArgs false

/-- may what the first ones took be put together? -/
def okS (f : Nat → Tkn) : Nat → Bool
  | 0 => true
  | k + 1 => okS f k && (amtB (f k).t && amtB (sumT f k + (f k).t))
theorem okS_amt {f : Nat → Tkn} {k : Nat} (h : okS f k = true) : amtB (sumT f k) = true := by
  cases k with
  | zero => rfl
  | succ k =>
    simp only [okS, Bool.and_eq_true] at h
    exact h.2.2
theorem okS_stop {f : Nat → Tkn} {k n : Nat} (hk : k < n) (h : okS f (k + 1) = false) : okS f n = false := by
  obtain ⟨m, rfl⟩ : ∃ m, n = k + 1 + m := ⟨n - k - 1, by omega⟩
  induction m with
  | zero => exact h
  | succ m ih =>
    have := ih (by omega)
    show (okS f (k + 1 + m) && _) = false
    rw [this]; rfl
theorem sides_any (A : Option Addr) (n c : Nat) (w : World) (X Y : Nat → Int) (h : Shs w A n X Y) (hn : n ≤ 4611686018427387904) :
    Calls Tryd.prog 60 #[.slice A n c] w fun e w' => e = .returned (totV X Y n) ∧ Below w.heap.size w w' := by
  have K := bx_new w [.int .i64 0, .int .i64 0] 70
  have B1 := below_new w (.cells #[.int .i64 0, .int .i64 0] 70)
  have cT := total_any A n c _ X Y (h.below B1) hn
  have hv : totV X Y n = .tuple #[.agg #[.int .i64 (if okT X Y n = true then tsm X n else 0), .int .i64 (if okT X Y n = true then tsm Y n else 0)], .int .i64 (if okT X Y n = true then 0 else 10)] := rfl
  rw [hv] at cT ⊢
  generalize (if okT X Y n = true then tsm X n else 0) = u at *
  generalize (if okT X Y n = true then tsm Y n else 0) = v at *
  generalize (if okT X Y n = true then (0 : Int) else 10) = r at *
  clear hv h
  go_enter Tryd.func60, Tryd.ntmps60
  go_wp2_with (fail)
  with_reducible refine cT.mono ?_
  rintro e w1 ⟨rfl, hb⟩
  have B2 := below_step B1 hb B1.size
  replace K := K.below hb
  have k0 := K.cell (i := 0) rfl
  have k1 := K.cell (i := 1) rfl
  have f0 := K.fr 0
  have f1 := K.fr 1
  have Z := (K.set 0 (.int .i64 u)).set 1 (.int .i64 v)
  have z0 := Z.cell (i := 0) rfl
  have z1 := Z.cell (i := 1) rfl
  clear K Z cT hb B1
  go_wp2
  exact bodyPost_ret (v := .tuple #[.agg #[.int .i64 u, .int .i64 v], .int .i64 r]) (by simp [results, Tryd.results60, go_sem, z0, z1]) rfl ⟨rfl, (B2.setCell (p := ⟨w.heap.size, 0, none⟩) (Nat.le_refl _) _).setCell (p := ⟨w.heap.size, 1, none⟩) (Nat.le_refl _) _⟩
theorem add_r (a b : Int) (w : World) (r : Bool) (hr : (amtB a && amtB b && amtB (a + b)) = r) :
    Calls Tryd.prog 35 #[.int .i64 a, .int .i64 b] w fun e w' => e = .returned (.tuple #[.int .i64 (if r = true then a + b else 0), .int .i64 (if r = true then 0 else 10)]) ∧ Below w.heap.size w w' := by
  cases h1 : amtB a && amtB b
  · rw [h1] at hr
    obtain rfl : r = false := by rw [← hr]; rfl
    exact add_args a b w h1
  · cases h2 : amtB (a + b)
    · rw [h1, h2] at hr
      obtain rfl : r = false := by rw [← hr]; rfl
      exact add_sum a b w h1 h2
    · rw [h1, h2] at hr
      obtain rfl : r = true := by rw [← hr]; rfl
      exact add_ok a b w h1 h2
set_option maxHeartbeats 4000000 in
theorem tsum_any (A : Option Addr) (n c : Nat) (f : Nat → Tkn) (w : World) (h : Tks w A n f) (hn : n ≤ 4611686018427387904) (r : Bool) (hr : okS f n = r) (u q : Int) (hu : (if r = true then sumT f n else 0) = u) (hq : (if r = true then (0 : Int) else 10) = q) :
    Calls Tryd.prog 61 #[.slice A n c] w fun e w' => e = .returned (.tuple #[.int .i64 u, .int .i64 q]) ∧ Below w.heap.size w w' := by
  have Bw := Below.refl w.heap.size w
  have HR := Lib.hid hr
  have HU := Lib.hid hu
  have HQ := Lib.hid hq
  clear hr hu hq
  go_enter Tryd.func61, Tryd.ntmps61
  go_wp2
  go_loopw [4, 10] (fun s k W => ∃ i : Nat, i ≤ n ∧ s = .int .i64 (sumT f i) ∧ k = .int .i64 i ∧ okS f i = true ∧ Below w.heap.size w W) (fun _ k _ => n - (intOf k).toNat)
  case atStart => exact ⟨0, Nat.zero_le _, rfl, rfl, rfl, Bw⟩
  case round =>
    clear Bw
    obtain ⟨i, hi, rfl, rfl, hok, hB⟩ := hrel
    by_cases hlt : i < n
    · obtain ⟨b, o, rfl, hc⟩ := id (h (by omega))
      obtain ⟨c0, c1, c2, c3, c4, c5⟩ := (hc i hlt).below hB
      have hil : (i : Int) < (n : Int) := by omega
      have cA := fun v hv w => add_r (sumT f i) (f i).t w v hv
      have HS : Hid (sumT f (i + 1) = sumT f i + (f i).t) := Lib.hid rfl
      have HK : Hid (okS f (i + 1) = (amtB (f i).t && amtB (sumT f i + (f i).t))) := Lib.hid (by show (okS f i && _) = _; rw [hok]; rfl)
      have HA := Lib.hid (okS_amt hok)
      have HST : Hid (okS f (i + 1) = false → r = false) := Lib.hid (fun h0 => by rw [← HR.out]; exact okS_stop hlt h0)
      clear hc h hok
      generalize sumT f i = s at *
      generalize (f i).o = x0 at *
      generalize (f i).b = x1 at *
      generalize (f i).r = x2 at *
      generalize (f i).d = x3 at *
      generalize (f i).t = x4 at *
      generalize (f i).c = x5 at *
      have K := bx_new wr [.int .i64 x0, .int .i64 x1, .int .i64 x2, .int .i64 x3, .int .i64 x4, .int .i64 x5] 73
      have NB := below_new wr (.cells #[.int .i64 x0, .int .i64 x1, .int .i64 x2, .int .i64 x3, .int .i64 x4, .int .i64 x5] 73)
      have B2 := below_step hB NB hB.size
      have k0 := K.cell (i := 0) rfl
      have k1 := K.cell (i := 1) rfl
      have k2 := K.cell (i := 2) rfl
      have k3 := K.cell (i := 3) rfl
      have k4 := K.cell (i := 4) rfl
      have k5 := K.cell (i := 5) rfl
      clear NB hB
      cases hq : amtB x4 && amtB (s + x4)
      · have cA := cA false (by rw [HA.out, Bool.true_and, hq])
        have HF := Lib.hid (HST.out (by rw [HK.out, hq]))
        have HU0 : Hid (u = 0) := Lib.hid (by rw [← HU.out, HF.out]; rfl)
        have HQ0 : Hid (q = 10) := Lib.hid (by rw [← HQ.out, HF.out]; rfl)
        clear hq
        simp only [if_neg Bool.false_ne_true] at cA
        go_wp2_with (fail)
        with_reducible refine (cA _).mono ?_
        rintro e w2 ⟨rfl, NB⟩
        have B3 := below_step B2 NB B2.size
        clear cA NB K B2 k0 k1 k2 k3 k4 k5 c0 c1 c2 c3 c4 c5
        go_wp2
        go_ret2
        exact ⟨by rw [HU0.out, HQ0.out]; rfl, B3⟩
      · have cA := cA true (by rw [HA.out, Bool.true_and, hq])
        have HT : Hid (okS f (i + 1) = true) := Lib.hid (by rw [HK.out, hq])
        clear hq
        simp only [if_true] at cA
        have hsx := Lib.hid HS.out
        generalize hsy : s + x4 = y at *
        have HS2 := Lib.hid HS.out
        clear hsy
        go_wp2_with (fail)
        with_reducible refine (cA _).mono ?_
        rintro e w2 ⟨rfl, NB⟩
        have B3 := below_step B2 NB B2.size
        clear cA NB K B2 k0 k1 k2 k3 k4 k5 c0 c1 c2 c3 c4 c5
        go_wp2
        refine ⟨⟨i + 1, by omega, by rw [HS2.out], by go_num, HT.out, B3⟩, ?_⟩
        simp [intOf]; omega
    · obtain rfl : n = i := by omega
      have hnl : ¬ (n : Int) < (n : Int) := by omega
      have HO := Lib.hid (show r = true from HR.out.symm.trans hok)
      have HU0 : Hid (u = sumT f n) := Lib.hid (by rw [← HU.out, HO.out]; rfl)
      have HQ0 : Hid (q = 0) := Lib.hid (by rw [← HQ.out, HO.out]; rfl)
      clear h hok
      go_wp2
      go_ret2
      exact ⟨by rw [HU0.out, HQ0.out]; rfl, hB⟩
end Go.Proofs.YtgadlfdioakodabDoor
