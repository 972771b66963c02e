/- What the walk of WholeShares stands on: right, rows that are alike, contributions to date of small bases. -/
import Derived.Test.YtffihnbpjcgicaaWsP
import Derived.Test.YtffihnbpjcgicaaWsG
import Derived.Test.YtffihnbpjcgicaaLit
import Derived.Test.YtffihnbpjcgicaaShrC
import Derived.Test.YtffihnbpjcgicaaOpenT
import Derived.BigQuiet
namespace Go.Proofs.Ytffihnbpjcgicaa
open Go.RowKit Go.Sort
set_option linter.unusedVariables false
set_option linter.unusedSimpArgs false

theorem tright_any (A : Option Addr) (n c : Nat) (w : World) (f : Nat → Int) (h : rowAt w A n fun i => .int .i64 (f i)) (hn : n ≤ 1000) (v : Bool) (hv : allB f n = v) :
    Calls Try.prog 9 #[.slice A n c] w fun e w' => e = .returned (.bool v) ∧ w = w' := by
  have HV := Lib.hid hv
  have HR := Lib.hid h
  clear hv h
  go_enter Try.func9, Try.ntmps9
  go_wp2
  go_loop [7] (fun k => ∃ i : Nat, i ≤ n ∧ allB f i = true ∧ k = .int .i64 i) (fun k => n - (intOf k).toNat)
  case atStart => exact ⟨0, Nat.zero_le _, rfl, rfl⟩
  case round =>
    obtain ⟨i, hi, hok, rfl⟩ := hrel
    by_cases hlt : i < n
    · obtain ⟨b, o, rfl, hc⟩ := HR.out (by omega)
      have x := hc i hlt
      simp only at x
      have hil : (i : Int) < (n : Int) := by omega
      have HST : Hid (amtB (f i) = false → v = false) := Lib.hid (fun h0 => by
        rw [← HV.out]
        cases hq : allB f n
        · rfl
        · rw [allB_true hq i hlt] at h0; cases h0)
      have HK : Hid (amtB (f i) = true → allB f (i + 1) = true) := Lib.hid (fun h0 => by rw [allB_succ, hok, h0]; rfl)
      clear hc
      generalize f i = y at *
      by_cases b1 : 100000000000 < y
      · have HF := Lib.hid (HST.out (amtB_mk_no (.inr b1)))
        go_wp2
        go_ret
        exact ⟨ret_b HF.out.symm, rfl⟩
      by_cases b2 : y < -100000000000
      · have HF := Lib.hid (HST.out (amtB_mk_no (.inl b2)))
        go_wp2
        go_ret
        exact ⟨ret_b HF.out.symm, rfl⟩
      have HT := Lib.hid (HK.out (amtB_mk (by omega) (by omega)))
      go_wp2
      refine ⟨⟨i + 1, by omega, HT.out, by go_num⟩, ?_⟩
      simp [intOf]; omega
    · obtain rfl : i = n := by omega
      have hnl : ¬ (i : Int) < (i : Int) := by omega
      have HT : Hid (v = true) := Lib.hid (by rw [← HV.out, hok])
      go_wp2
      go_ret
      exact ⟨ret_b HT.out.symm, rfl⟩
theorem neq_sh (a b : Int) (W : World) : (binOp .neq 47 (.agg #[.int .i64 a, .int .i64 b]) (.agg #[.int .i64 a, .int .i64 b])).run Try.prog W = .ok (.bool false) W := by
  simp [go_sem]
set_option maxHeartbeats 1000000 in
theorem eqr2 (A A' : Option Addr) (n c c' : Nat) (w : World) (X Y : Nat → Int) (h : Shs w A n X Y) (h' : Shs w A' n X Y) (hn : n ≤ 1000000) :
    Calls Try.prog 13 #[.slice A n c, .slice A' n c'] w fun e w' => e = .returned (.bool true) ∧ Below w.heap.size w w' := by
  have n0 : ((n : Int) != (n : Int)) = false := by simp
  have H := Lib.hid h
  have H' := Lib.hid h'
  clear h h'
  go_enter Try.func13, Try.ntmps13
  go_wp2
  go_loopw [13] (fun k W => ∃ i : Nat, i ≤ n ∧ k = .int .i64 i ∧ Below w.heap.size w W) (fun k _ => n - (intOf k).toNat)
  case atStart => exact ⟨0, Nat.zero_le _, rfl, Below.refl _ _⟩
  case round =>
    obtain ⟨i, hi, rfl, hb⟩ := hrel
    by_cases hlt : i < n
    · obtain ⟨b, o, rfl, hc⟩ := H.out (by omega)
      obtain ⟨b', o', rfl, hc'⟩ := H'.out (by omega)
      obtain ⟨x0, x1⟩ := hc i hlt
      obtain ⟨y0, y1⟩ := hc' i hlt
      have c0 := cell_later hb x0
      have c1 := cell_later hb x1
      have d0 := cell_later hb y0
      have d1 := cell_later hb y1
      have i4 : (i : Int) < (n : Int) := by omega
      clear x0 x1 y0 y1 hc hc'
      have hne := neq_sh (X i) (Y i)
      generalize X i = p at *
      generalize Y i = q at *
      go_wp2
      go_quiet (fail)
      go_wp2
      go_roundw
      case rel => exact ⟨i + 1, by omega, by go_num, below_drewN hb _⟩
      case measure => first | omega | (simp [intOf]; omega)
    · obtain rfl : i = n := by omega
      go_wp2
      go_ret
      exact ⟨rfl, hb⟩
theorem meas_step {N i : Nat} (h : i < N) : N - (intOf (Value.int .i64 ((i : Int) + 1))).toNat < N - (intOf (Value.int .i64 (i : Int))).toNat := by
  simp [intOf]; omega
theorem cells_at3 (w : World) (x y z : Value) (t : TypeId) {n : Nat} (hn : w.heap.size = n) : ∀ j u, [x, y, z][j]? = some u → (w.alloc (.cells #[x, y, z] t)).cell? ((⟨n, 0, none⟩ : Addr).add j) = some u := bx_add (bx_at w [x, y, z] t hn)
theorem tsz_of {T : TB} (h : TFits T) : Tsz T := ⟨h.2.1.1, h.2.2.1.1, fun _ i hi => (h.2.2.2.2.2.1 i hi).1.1, fun _ i hi => (h.2.2.2.2.2.2.1 i hi).2.2.2.2.2.1.1⟩
theorem shb_far {W W' : World} {b n : Nat} {X Y : Nat → Int} (h : ShB W b n X Y) (he : W'.heap[b]? = W.heap[b]?) : ShB W' b n X Y := World.rowIs.of_block h he
theorem bas_pre {w : World} {A : Option Addr} {m : Nat} {X T S : Nat → Int} (h : BasM w A m X T S) {i : Nat} (hi : i ≤ m) : BasM w A i X T S := fun h0 => by
  obtain ⟨b, o, e, hc⟩ := h (by omega)
  exact ⟨b, o, e, fun j hj => hc j (by omega)⟩
theorem bas_congr {w : World} {A : Option Addr} {m : Nat} {X T S X' T' S' : Nat → Int} (h : BasM w A m X T S) (e : ∀ i, i < m → X i = X' i ∧ T i = T' i ∧ S i = S' i) : BasM w A m X' T' S' := fun h0 => by
  obtain ⟨b, o, hA, hc⟩ := h h0
  exact ⟨b, o, hA, fun j hj => by rw [← (e j hj).1, ← (e j hj).2.1, ← (e j hj).2.2]; exact hc j hj⟩
/-- social.ToDate of small bases -/
theorem tod_sm (T : TB) (A : Option Addr) (m q : Nat) (c x s : Nat → Int) (w : World) (h : Tm w T) (hT : TC T) (hl : BasM w A m c x s) (hs : Smb c x s m) (hm : m ≤ 60) :
    Calls Try.prog 10 #[.agg #[.slice T.AS T.nS T.cS, .slice T.AC T.nC T.cC, .slice T.AK T.nK T.cK, .int .i64 T.L, .int .i64 T.W], .slice A m q] w fun e w' => ∃ b, e = .returned (.tuple #[.slice (some ⟨b, 0, none⟩) T.nC T.nC, .int .i64 0]) ∧ w.heap.size ≤ b ∧ ShB w' b T.nC (smS (yrA T x s) m) (smS (yrB' T x s) m) ∧ Below w.heap.size w w' := by
  have t := tod_any T A m q c x s w h hT hl (by omega)
  unfold TodG at t
  refine t.mono ?_
  rintro e w' ⟨v, rfl, h1, _, _, hb⟩
  obtain ⟨b, rfl, h2, h3⟩ := h1 (yr_sm hs hm) (td_sm hT hs hm)
  exact ⟨b, rfl, h2, h3, hb⟩
/-- what is due of small bases is small -/
theorem due_six {T : TB} (hT : TC T) {c x s : Nat → Int} {m : Nat} (hs : Smb c x s m) (hm : m ≤ 60) : ∀ i, i < T.nC → (0 ≤ smS (yrA T x s) m i ∧ smS (yrA T x s) m i ≤ 6000000000) ∧ 0 ≤ smS (yrB' T x s) m i ∧ smS (yrB' T x s) m i ≤ 6000000000 := fun i hi => by
  have a := sm_sm hT hi hs
  omega
theorem tot_sm {T : TB} (hT : TC T) {c x s : Nat → Int} {m : Nat} (hs : Smb c x s m) (hm : m ≤ 60) : ∃ u v : Int, totV (smS (yrA T x s) m) (smS (yrB' T x s) m) T.nC = .tuple #[.agg #[.int .i64 u, .int .i64 v], .int .i64 0] ∧ 0 ≤ u ∧ 0 ≤ v := by
  obtain ⟨a, b, c⟩ := okT_sm hT.ok.c6 (due_six hT hs hm)
  exact ⟨_, _, (totV_yes a).symm, b.1, c.1⟩
end Go.Proofs.Ytffihnbpjcgicaa
