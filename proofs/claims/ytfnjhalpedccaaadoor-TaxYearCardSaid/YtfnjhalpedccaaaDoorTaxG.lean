/- Merged: TaxF, TaxG. -/
import Derived.Test.YtfnjhalpedccaaaDoorTaxA
import Derived.Lib.Hide
import Derived.Sort.Walk0
import Derived.Test.YtfnjhalpedccaaaDoorTaxB
/- What the document's own calls of the tax answer: Round, Free, Exact. -/
namespace Go.Proofs.YtfnjhalpedccaaaDoor
open Go.RowKit Go.Sort
set_option linter.unusedVariables false
set_option linter.unusedSimpArgs false

/-- a number rounded by its quotient and its rest -/
def rndQ (q r m : Int) : Int := if 0 < r ∧ rises q r 10000 m = true then q + 1 else q
theorem rndQ_of {x q r : Int} (m : Int) (he : x = 10000 * q + r) (h0 : 0 ≤ r) (h1 : r < 10000) : rnd x 10000 m = rndQ q r m := by
  have := (Int.ediv_emod_unique (a := x) (b := 10000) (q := q) (r := r) (by omega)).2 ⟨by omega, h0, h1⟩
  unfold rnd rndQ
  rw [this.1, this.2]
theorem rround_any (x m : Int) (w : World) (hx : 0 ≤ x) (hx' : x ≤ 1000000000000000) (hm : modeB m = true) :
    Calls Tryd.prog 48 #[.int .i64 x, .int .i64 m] w fun e w' => e = .returned (.int .i64 (rnd x 10000 m)) ∧ w = w' := by
  obtain ⟨q, r, hq, hr, he, hr0, hr1, hq0, hq1⟩ : ∃ q r : Int, x.tdiv 10000 = q ∧ x.tmod 10000 = r ∧ x = 10000 * q + r ∧ 0 ≤ r ∧ r < 10000 ∧ 0 ≤ q ∧ q ≤ 100000000000 :=
    ⟨_, _, rfl, rfl, by rw [Int.tdiv_eq_ediv_of_nonneg hx, Int.tmod_eq_emod_of_nonneg hx]; omega, by rw [Int.tmod_eq_emod_of_nonneg hx]; omega, by rw [Int.tmod_eq_emod_of_nonneg hx]; omega, by rw [Int.tdiv_eq_ediv_of_nonneg hx]; omega, by rw [Int.tdiv_eq_ediv_of_nonneg hx]; omega⟩
  rw [rndQ_of m he hr0 hr1]
  have hm2 := modeB_yes hm
  have h2 : q.tmod 2 = q % 2 := Int.tmod_eq_emod_of_nonneg hq0
  have g3 : decide (x < 0) = false := by simp; omega
  have g6 : decide (r < 0) = false := by simp; omega
  have hcase : r = 0 ∨ (0 < r ∧ r < 5000) ∨ (r = 5000 ∧ q % 2 = 0) ∨ (r = 5000 ∧ q % 2 ≠ 0) ∨ 5000 < r := by omega
  have hmm : m = 1 ∨ m = 2 ∨ m = 3 ∨ m = 4 ∨ m = 5 ∨ m = 6 := by omega
  have hge : decide (0 < x) = true ∨ (r = 0 ∧ q = 0) := by simp; omega
  clear hm hm2 hx'
  rcases hcase with c | c | c | c | c
  · have g0 : decide (0 < r) = false := by simp; omega
    have g1 : decide (5000 < r) = false := by simp; omega
    have g2 : (r == 5000) = false := by simp; omega
    have HV : ∀ m, Hid (rndQ q r m = q) := fun m => Lib.hid (by unfold rndQ; rw [if_neg (by omega)])
    clear c hge he h2
    rcases hmm with rfl | rfl | rfl | rfl | rfl | rfl
    all_goals
      go_enter Tryd.func48, Tryd.ntmps48
      go_wp2
      go_ret
      exact ⟨ret_i (HV _).out.symm, rfl⟩
  · have g0 : decide (0 < r) = true := by simp; omega
    have g1 : decide (5000 < r) = false := by simp; omega
    have g2 : (r == 5000) = false := by simp; omega
    have HV1 : Hid (rndQ q r 1 = q) := Lib.hid (by simp [rndQ, rises])
    have HV2 : Hid (rndQ q r 2 = q + 1) := Lib.hid (by simp [rndQ, rises]; omega)
    have HV3 : Hid (rndQ q r 3 = q) := Lib.hid (by simp [rndQ, rises]; omega)
    have HV4 : Hid (rndQ q r 4 = q) := Lib.hid (by unfold rndQ rises; simp [show ¬ r = 10000 - r by omega, show ¬ 10000 - r < r by omega])
    have HV5 : Hid (rndQ q r 5 = q) := Lib.hid (by unfold rndQ rises; simp [show ¬ r = 10000 - r by omega, show ¬ 10000 - r < r by omega])
    have HV6 : Hid (rndQ q r 6 = q) := Lib.hid (by unfold rndQ rises; simp [show ¬ r = 10000 - r by omega, show ¬ 10000 - r < r by omega])
    clear c hge he h2
    rcases hmm with rfl | rfl | rfl | rfl | rfl | rfl
    all_goals
      go_enter Tryd.func48, Tryd.ntmps48
      go_wp2
      go_ret
      first | exact ⟨ret_i HV1.out.symm, rfl⟩ | exact ⟨ret_i HV2.out.symm, rfl⟩ | exact ⟨ret_i HV3.out.symm, rfl⟩ | exact ⟨ret_i HV4.out.symm, rfl⟩ | exact ⟨ret_i HV5.out.symm, rfl⟩ | exact ⟨ret_i HV6.out.symm, rfl⟩
  · have g0 : decide (0 < r) = true := by simp; omega
    have g1 : decide (5000 < r) = false := by simp; omega
    have g2 : (r == 5000) = true := by simp; omega
    have g4 : (q % 2 != 0) = false := by simp; omega
    have g5 : decide (0 < x) = true := by simp; omega
    have HV1 : Hid (rndQ q r 1 = q) := Lib.hid (by simp [rndQ, rises])
    have HV2 : Hid (rndQ q r 2 = q + 1) := Lib.hid (by simp [rndQ, rises]; omega)
    have HV3 : Hid (rndQ q r 3 = q) := Lib.hid (by simp [rndQ, rises]; omega)
    have HV4 : Hid (rndQ q r 4 = q + 1) := Lib.hid (by rw [c.1]; unfold rndQ rises; simp [hq0, show ¬ q < 0 by omega, c.2])
    have HV5 : Hid (rndQ q r 5 = q) := Lib.hid (by rw [c.1]; unfold rndQ rises; simp [hq0, show ¬ q < 0 by omega, c.2])
    have HV6 : Hid (rndQ q r 6 = q) := Lib.hid (by rw [c.1]; unfold rndQ rises; simp [hq0, show ¬ q < 0 by omega, c.2])
    clear c hge he
    rcases hmm with rfl | rfl | rfl | rfl | rfl | rfl
    all_goals
      go_enter Tryd.func48, Tryd.ntmps48
      go_wp2
      go_ret
      first | exact ⟨ret_i HV1.out.symm, rfl⟩ | exact ⟨ret_i HV2.out.symm, rfl⟩ | exact ⟨ret_i HV3.out.symm, rfl⟩ | exact ⟨ret_i HV4.out.symm, rfl⟩ | exact ⟨ret_i HV5.out.symm, rfl⟩ | exact ⟨ret_i HV6.out.symm, rfl⟩
  · have g0 : decide (0 < r) = true := by simp; omega
    have g1 : decide (5000 < r) = false := by simp; omega
    have g2 : (r == 5000) = true := by simp; omega
    have g4 : (q % 2 != 0) = true := by simp; omega
    have g5 : decide (0 < x) = true := by simp; omega
    have HV1 : Hid (rndQ q r 1 = q) := Lib.hid (by simp [rndQ, rises])
    have HV2 : Hid (rndQ q r 2 = q + 1) := Lib.hid (by simp [rndQ, rises]; omega)
    have HV3 : Hid (rndQ q r 3 = q) := Lib.hid (by simp [rndQ, rises]; omega)
    have HV4 : Hid (rndQ q r 4 = q + 1) := Lib.hid (by rw [c.1]; unfold rndQ rises; simp [hq0, show ¬ q < 0 by omega, show q % 2 = 1 by omega])
    have HV5 : Hid (rndQ q r 5 = q + 1) := Lib.hid (by rw [c.1]; unfold rndQ rises; simp [hq0, show ¬ q < 0 by omega, show q % 2 = 1 by omega])
    have HV6 : Hid (rndQ q r 6 = q) := Lib.hid (by rw [c.1]; unfold rndQ rises; simp [hq0, show ¬ q < 0 by omega, show q % 2 = 1 by omega])
    clear c hge he
    rcases hmm with rfl | rfl | rfl | rfl | rfl | rfl
    all_goals
      go_enter Tryd.func48, Tryd.ntmps48
      go_wp2
      go_ret
      first | exact ⟨ret_i HV1.out.symm, rfl⟩ | exact ⟨ret_i HV2.out.symm, rfl⟩ | exact ⟨ret_i HV3.out.symm, rfl⟩ | exact ⟨ret_i HV4.out.symm, rfl⟩ | exact ⟨ret_i HV5.out.symm, rfl⟩ | exact ⟨ret_i HV6.out.symm, rfl⟩
  · have g0 : decide (0 < r) = true := by simp; omega
    have g1 : decide (5000 < r) = true := by simp; omega
    have g2 : (r == 5000) = false := by simp; omega
    have HV1 : Hid (rndQ q r 1 = q) := Lib.hid (by simp [rndQ, rises])
    have HV2 : Hid (rndQ q r 2 = q + 1) := Lib.hid (by simp [rndQ, rises]; omega)
    have HV3 : Hid (rndQ q r 3 = q) := Lib.hid (by simp [rndQ, rises]; omega)
    have HV4 : Hid (rndQ q r 4 = q + 1) := Lib.hid (by unfold rndQ rises; simp [show ¬ r = 10000 - r by omega, show 10000 - r < r by omega, show 0 < r by omega])
    have HV5 : Hid (rndQ q r 5 = q + 1) := Lib.hid (by unfold rndQ rises; simp [show ¬ r = 10000 - r by omega, show 10000 - r < r by omega, show 0 < r by omega])
    have HV6 : Hid (rndQ q r 6 = q + 1) := Lib.hid (by unfold rndQ rises; simp [show ¬ r = 10000 - r by omega, show 10000 - r < r by omega, show 0 < r by omega])
    clear c hge he h2
    rcases hmm with rfl | rfl | rfl | rfl | rfl | rfl
    all_goals
      go_enter Tryd.func48, Tryd.ntmps48
      go_wp2
      go_ret
      first | exact ⟨ret_i HV1.out.symm, rfl⟩ | exact ⟨ret_i HV2.out.symm, rfl⟩ | exact ⟨ret_i HV3.out.symm, rfl⟩ | exact ⟨ret_i HV4.out.symm, rfl⟩ | exact ⟨ret_i HV5.out.symm, rfl⟩ | exact ⟨ret_i HV6.out.symm, rfl⟩

theorem rfree_any (s k a f : Int) (x : Bool) (n d : Int) (w : World) (h0 : 0 ≤ a) (h1 : a ≤ 999999000) (h2 : 0 ≤ n) (h3 : n ≤ d) (h4 : 1 ≤ d) (h5 : d ≤ 1048576) :
    Calls Tryd.prog 73 #[.agg #[.int .i64 s, .int .i64 k, .int .i64 a, .int .i64 f, .bool x], .int .i64 n, .int .i64 d] w fun e w' => e = .returned (.int .i64 (if k = 2 then -(a * n / d) else a * n / d)) ∧ Below w.heap.size w w' := by
  have B := (Below.refl w.heap.size w).alloc (Nat.le_refl _) (.cells #[.int .i64 s, .int .i64 k, .int .i64 a, .int .i64 f, .bool x] 42)
  have hb := part_bd h0 h2 h3 h4
  have m0 := Int.mul_nonneg h0 h2
  have m1 := Int.mul_le_mul_of_nonneg_right h1 h2
  have hm : wrap64 (a * n) = a * n := IntWalk.wrap64_in _ (by omega)
  have hq : (a * n).tdiv d = a * n / d := Int.tdiv_eq_ediv_of_nonneg m0
  generalize hx : a * n / d = q at *
  have hd0 : (d == 0) = false := by simp; omega
  clear m0 m1 hx
  by_cases hk : k = 2
  · have k1 : (k == 2) = true := by simpa using hk
    rw [if_pos hk]
    clear hk
    go_enter Tryd.func73, Tryd.ntmps73
    go_wp2
    go_ret
    exact ⟨rfl, B⟩
  · have k1 : (k == 2) = false := by simpa using hk
    rw [if_neg hk]
    clear hk
    go_enter Tryd.func73, Tryd.ntmps73
    go_wp2
    go_ret
    exact ⟨rfl, B⟩
end Go.Proofs.YtfnjhalpedccaaaDoor

/- What the document's own call Exact of the tax answers. -/
namespace Go.Proofs.YtfnjhalpedccaaaDoor
open Go.RowKit Go.Sort
set_option linter.unusedVariables false
set_option linter.unusedSimpArgs false

/-- what the first i bands come to -/
def refO (P R : Nat → Int) (n : Nat) (x : Int) (i : Nat) : Int := if i < n then Gb P R i (min x (P i)) else Gb P R n x
/-- up to where an amount lies in a band -/
def refU (P : Nat → Int) (n : Nat) (x : Int) (i : Nat) : Int := if i + 1 < n then min x (P (i + 1)) else x
theorem refO_succ {P R : Nat → Int} {n i : Nat} {x : Int} (hi : i < n) (hm : ∀ j, 0 < j → j < n → P (j - 1) ≤ P j) : refO P R n x (i + 1) = refO P R n x i + R i * max (refU P n x i - P i) 0 := by
  unfold refO refU
  rw [if_pos hi]
  by_cases h : i + 1 < n
  · rw [if_pos h, if_pos h]
    show Gb P R i (min (min x (P (i + 1))) (P i)) + R i * max (min x (P (i + 1)) - P i) 0 = _
    have := hm (i + 1) (by omega) h
    rw [show i + 1 - 1 = i by omega] at this
    rw [show min (min x (P (i + 1))) (P i) = min x (P i) by omega]
  · rw [if_neg h, if_neg h]
    obtain rfl : n = i + 1 := by omega
    rfl
theorem refO_zero (P R : Nat → Int) {n : Nat} (x : Int) (h : 0 < n) : refO P R n x 0 = 0 := by unfold refO; rw [if_pos h]; rfl
theorem refO_end (P R : Nat → Int) (n : Nat) (x : Int) : refO P R n x n = Gb P R n x := by unfold refO; rw [if_neg (by omega)]
theorem refO_bd {P R : Nat → Int} {n : Nat} (hf : Fit P n) (hR : Rts R n) {x : Int} (hx : x ≤ 100000000000) {i : Nat} (hi : i ≤ n) : 0 ≤ refO P R n x i ∧ refO P R n x i ≤ 1000000000000000 := by
  unfold refO
  split
  · rename_i h
    have := hf i h
    exact G_bd (fun j hj => hf j (by omega)) (fun j hj => hR j (by omega)) (by omega)
  · exact G_bd hf hR hx

set_option maxHeartbeats 2000000 in
theorem rexact_none (T : TB) (s k a f : Int) (x : Bool) (y n d : Int) (w : World) (hk : k = 4) :
    Calls Tryd.prog 49 #[.agg #[.slice T.AS T.nS T.cS, .slice T.AC T.nC T.cC, .slice T.AK T.nK T.cK, .int .i64 T.L, .int .i64 T.W], .agg #[.int .i64 s, .int .i64 k, .int .i64 a, .int .i64 f, .bool x], .int .i64 y, .int .i64 n, .int .i64 d] w fun e w' => e = .returned (.int .i64 0) ∧ Below w.heap.size w w' := by
  have K1 : Bx ((w.alloc (.cells #[.slice T.AS T.nS T.cS, .slice T.AC T.nC T.cC, .slice T.AK T.nK T.cK, .int .i64 T.L, .int .i64 T.W] 26)).alloc (.cells #[.int .i64 s, .int .i64 k, .int .i64 a, .int .i64 f, .bool x] 42)) w.heap.size 26 [.slice T.AS T.nS T.cS, .slice T.AC T.nC T.cC, .slice T.AK T.nK T.cK, .int .i64 T.L, .int .i64 T.W] := (bx_new w [.slice T.AS T.nS T.cS, .slice T.AC T.nC T.cC, .slice T.AK T.nK T.cK, .int .i64 T.L, .int .i64 T.W] 26).alloc _
  have K2 : Bx ((w.alloc (.cells #[.slice T.AS T.nS T.cS, .slice T.AC T.nC T.cC, .slice T.AK T.nK T.cK, .int .i64 T.L, .int .i64 T.W] 26)).alloc (.cells #[.int .i64 s, .int .i64 k, .int .i64 a, .int .i64 f, .bool x] 42)) (w.heap.size + 1) 42 [.int .i64 s, .int .i64 k, .int .i64 a, .int .i64 f, .bool x] := bx_at _ [.int .i64 s, .int .i64 k, .int .i64 a, .int .i64 f, .bool x] 42 (by simp)
  have B : Below w.heap.size w ((w.alloc (.cells #[.slice T.AS T.nS T.cS, .slice T.AC T.nC T.cC, .slice T.AK T.nK T.cK, .int .i64 T.L, .int .i64 T.W] 26)).alloc (.cells #[.int .i64 s, .int .i64 k, .int .i64 a, .int .i64 f, .bool x] 42)) := ((Below.refl _ _).alloc (Nat.le_refl _) _).alloc (by simp) _
  subst hk
  have t0 := K1.cell (i := 0) rfl
  have t1 := K1.cell (i := 1) rfl
  have t2 := K1.cell (i := 2) rfl
  have t3 := K1.cell (i := 3) rfl
  have t4 := K1.cell (i := 4) rfl
  have c0 := K2.cell (i := 0) rfl
  have c1 := K2.cell (i := 1) rfl
  have c2 := K2.cell (i := 2) rfl
  have c3 := K2.cell (i := 3) rfl
  have c4 := K2.cell (i := 4) rfl
  go_enter Tryd.func49, Tryd.ntmps49
  go_wp2
  go_ret
  exact ⟨rfl, B⟩
set_option maxHeartbeats 2000000 in
theorem rexact_flat (T : TB) (s k a f : Int) (x : Bool) (y n d p c : Int) (w : World) (h : SchM w T.AS T.nS T.S) (hT : TOk T) (hc : Fit3 T s k a f) (hk : k = 3) (hfr : ∀ w, Calls Tryd.prog 73 #[.agg #[.int .i64 s, .int .i64 k, .int .i64 a, .int .i64 f, .bool x], .int .i64 n, .int .i64 d] w fun e w' => e = .returned (.int .i64 p) ∧ Below w.heap.size w w')
    (hx : c = max (y - p) 0) (hy : -200000000000 ≤ y - p) (hy2 : y - p ≤ 100000000000) :
    Calls Tryd.prog 49 #[.agg #[.slice T.AS T.nS T.cS, .slice T.AC T.nC T.cC, .slice T.AK T.nK T.cK, .int .i64 T.L, .int .i64 T.W], .agg #[.int .i64 s, .int .i64 k, .int .i64 a, .int .i64 f, .bool x], .int .i64 y, .int .i64 n, .int .i64 d] w fun e w' => e = .returned (.int .i64 (c * (T.S s.toNat).R f.toNat)) ∧ Below w.heap.size w w' := by
  have K1 : Bx ((w.alloc (.cells #[.slice T.AS T.nS T.cS, .slice T.AC T.nC T.cC, .slice T.AK T.nK T.cK, .int .i64 T.L, .int .i64 T.W] 26)).alloc (.cells #[.int .i64 s, .int .i64 k, .int .i64 a, .int .i64 f, .bool x] 42)) w.heap.size 26 [.slice T.AS T.nS T.cS, .slice T.AC T.nC T.cC, .slice T.AK T.nK T.cK, .int .i64 T.L, .int .i64 T.W] := (bx_new w [.slice T.AS T.nS T.cS, .slice T.AC T.nC T.cC, .slice T.AK T.nK T.cK, .int .i64 T.L, .int .i64 T.W] 26).alloc _
  have K2 : Bx ((w.alloc (.cells #[.slice T.AS T.nS T.cS, .slice T.AC T.nC T.cC, .slice T.AK T.nK T.cK, .int .i64 T.L, .int .i64 T.W] 26)).alloc (.cells #[.int .i64 s, .int .i64 k, .int .i64 a, .int .i64 f, .bool x] 42)) (w.heap.size + 1) 42 [.int .i64 s, .int .i64 k, .int .i64 a, .int .i64 f, .bool x] := bx_at _ [.int .i64 s, .int .i64 k, .int .i64 a, .int .i64 f, .bool x] 42 (by simp)
  have B : Below w.heap.size w ((w.alloc (.cells #[.slice T.AS T.nS T.cS, .slice T.AC T.nC T.cC, .slice T.AK T.nK T.cK, .int .i64 T.L, .int .i64 T.W] 26)).alloc (.cells #[.int .i64 s, .int .i64 k, .int .i64 a, .int .i64 f, .bool x] 42)) := ((Below.refl _ _).alloc (Nat.le_refl _) _).alloc (by simp) _
  have h2' := h.below (show Below w.heap.size w ((w.alloc (.cells #[.slice T.AS T.nS T.cS, .slice T.AC T.nC T.cC, .slice T.AK T.nK T.cK, .int .i64 T.L, .int .i64 T.W] 26)).alloc (.cells #[.int .i64 s, .int .i64 k, .int .i64 a, .int .i64 f, .bool x] 42)) from B)
  clear h
  have hs := hT.s s.toNat (by have := hc.sn; have := hc.s0; omega)
  have hsn := hc.sn
  have hfl := hc.fl hk
  have hfb := fitB_bd hc.b
  have hs8 := hT.s8
  obtain ⟨j, rfl⟩ : ∃ j : Nat, s = (j : Int) := ⟨s.toNat, by have := hc.s0; omega⟩
  rw [show (j : Int).toNat = j from rfl] at *
  obtain ⟨b, o, hA, hS⟩ := h2' (by omega)
  obtain ⟨hcell, hbd⟩ := hS j (by omega)
  clear hS hT hc
  obtain ⟨q, rfl⟩ : ∃ q : Nat, f = (q : Int) := ⟨f.toNat, by omega⟩
  rw [show (q : Int).toNat = q from rfl] at *
  obtain ⟨b2, o2, hA2, hb2⟩ := hbd (by omega)
  obtain ⟨_, r1, _⟩ := hb2 q (by omega)
  have hr := hs.2.2.2.2.1 q (by omega)
  have hq8 : q < 8 := by have := hs.2.1; omega
  have k3 : (k == 3) = true := by simpa using hk
  have k4 : (k == 4) = false := by rw [hk]; rfl
  clear hb2 hs hbd h2' hk hfb
  generalize (T.S j).R q = r at *
  generalize T.AS = A0 at *
  subst hA
  rw [hA2] at hcell
  have hm0 := Int.mul_nonneg (show 0 ≤ max (y - p) 0 by omega) hr.1
  have hm1 := Int.mul_le_mul (show max (y - p) 0 ≤ 100000000000 by omega) hr.2 hr.1 (show (0 : Int) ≤ 100000000000 by omega)
  have hw1 : wrap64 (c * r) = c * r := by rw [hx]; exact IntWalk.wrap64_in _ (by omega)
  have hw0 : wrap64 (y - p) = y - p := IntWalk.wrap64_in _ (by omega)
  have t0 := K1.cell (i := 0) rfl
  have t1 := K1.cell (i := 1) rfl
  have t2 := K1.cell (i := 2) rfl
  have t3 := K1.cell (i := 3) rfl
  have t4 := K1.cell (i := 4) rfl
  have c0 := K2.cell (i := 0) rfl
  have c1 := K2.cell (i := 1) rfl
  have c2 := K2.cell (i := 2) rfl
  have c3 := K2.cell (i := 3) rfl
  have c4 := K2.cell (i := 4) rfl
  clear hm0 hm1 hr
  by_cases hn : y - p < 0
  · have e0 : c = 0 := by omega
    subst e0
    have g0 : decide (y - p < 0) = true := by simpa using hn
    clear hx
    go_enter Tryd.func49, Tryd.ntmps49
    go_wp2_with (fail)
    with_reducible refine (hfr _).mono ?_
    rintro e w1 ⟨rfl, hb⟩
    have B1 := below_step B hb B.size
    have K2 := K2.below hb
    have d0 := cell_later hb r1
    clear c0 c1 c2 c3 c4 t0 t1 t2 t3 t4
    have c0 := K2.cell (i := 0) rfl
    have c1 := K2.cell (i := 1) rfl
    have c2 := K2.cell (i := 2) rfl
    have c3 := K2.cell (i := 3) rfl
    have c4 := K2.cell (i := 4) rfl
    go_wp2
    go_ret
    exact ⟨by first | rfl | simp, B1⟩
  · have e0 : c = y - p := by omega
    have g0 : decide (y - p < 0) = false := by simpa using hn
    rw [e0] at hw1 ⊢
    clear hx hn e0
    go_enter Tryd.func49, Tryd.ntmps49
    go_wp2_with (fail)
    with_reducible refine (hfr _).mono ?_
    rintro e w1 ⟨rfl, hb⟩
    have B1 := below_step B hb B.size
    have K2 := K2.below hb
    have d0 := cell_later hb r1
    clear c0 c1 c2 c3 c4 t0 t1 t2 t3 t4
    have c0 := K2.cell (i := 0) rfl
    have c1 := K2.cell (i := 1) rfl
    have c2 := K2.cell (i := 2) rfl
    have c3 := K2.cell (i := 3) rfl
    have c4 := K2.cell (i := 4) rfl
    go_wp2
    go_ret
    exact ⟨ret_i hw1, B1⟩

set_option maxRecDepth 100000 in
set_option maxHeartbeats 8000000 in
theorem rexact_bands (T : TB) (s k a f : Int) (x : Bool) (y n d p c : Int) (w : World) (h : SchM w T.AS T.nS T.S) (hT : TOk T) (hc : Fit3 T s k a f) (hk3 : k ≠ 3) (hk4 : k ≠ 4) (h1 : 0 ≤ n) (h2 : 1 ≤ d) (h3 : n ≤ d) (h4 : d ≤ 1048576)
    (hfr : ∀ w, Calls Tryd.prog 73 #[.agg #[.int .i64 s, .int .i64 k, .int .i64 a, .int .i64 f, .bool x], .int .i64 n, .int .i64 d] w fun e w' => e = .returned (.int .i64 p) ∧ Below w.heap.size w w')
    (hx : c = max (y - p) 0) (hy : -200000000000 ≤ y - p) (hy2 : y - p ≤ 100000000000) :
    Calls Tryd.prog 49 #[.agg #[.slice T.AS T.nS T.cS, .slice T.AC T.nC T.cC, .slice T.AK T.nK T.cK, .int .i64 T.L, .int .i64 T.W], .agg #[.int .i64 s, .int .i64 k, .int .i64 a, .int .i64 f, .bool x], .int .i64 y, .int .i64 n, .int .i64 d] w fun e w' => e = .returned (.int .i64 (Gb (fun i => (T.S s.toNat).F i * n / d) (T.S s.toNat).R (T.S s.toNat).n c)) ∧ Below w.heap.size w w' := by
  have K1 : Bx ((w.alloc (.cells #[.slice T.AS T.nS T.cS, .slice T.AC T.nC T.cC, .slice T.AK T.nK T.cK, .int .i64 T.L, .int .i64 T.W] 26)).alloc (.cells #[.int .i64 s, .int .i64 k, .int .i64 a, .int .i64 f, .bool x] 42)) w.heap.size 26 [.slice T.AS T.nS T.cS, .slice T.AC T.nC T.cC, .slice T.AK T.nK T.cK, .int .i64 T.L, .int .i64 T.W] := (bx_new w [.slice T.AS T.nS T.cS, .slice T.AC T.nC T.cC, .slice T.AK T.nK T.cK, .int .i64 T.L, .int .i64 T.W] 26).alloc _
  have K2 : Bx ((w.alloc (.cells #[.slice T.AS T.nS T.cS, .slice T.AC T.nC T.cC, .slice T.AK T.nK T.cK, .int .i64 T.L, .int .i64 T.W] 26)).alloc (.cells #[.int .i64 s, .int .i64 k, .int .i64 a, .int .i64 f, .bool x] 42)) (w.heap.size + 1) 42 [.int .i64 s, .int .i64 k, .int .i64 a, .int .i64 f, .bool x] := bx_at _ [.int .i64 s, .int .i64 k, .int .i64 a, .int .i64 f, .bool x] 42 (by simp)
  have B : Below w.heap.size w ((w.alloc (.cells #[.slice T.AS T.nS T.cS, .slice T.AC T.nC T.cC, .slice T.AK T.nK T.cK, .int .i64 T.L, .int .i64 T.W] 26)).alloc (.cells #[.int .i64 s, .int .i64 k, .int .i64 a, .int .i64 f, .bool x] 42)) := ((Below.refl _ _).alloc (Nat.le_refl _) _).alloc (by simp) _
  have h2' := h.below (show Below w.heap.size w ((w.alloc (.cells #[.slice T.AS T.nS T.cS, .slice T.AC T.nC T.cC, .slice T.AK T.nK T.cK, .int .i64 T.L, .int .i64 T.W] 26)).alloc (.cells #[.int .i64 s, .int .i64 k, .int .i64 a, .int .i64 f, .bool x] 42)) from B)
  clear h
  have hs := hT.s s.toNat (by have := hc.sn; have := hc.s0; omega)
  have hsn := hc.sn
  have hs8 := hT.s8
  obtain ⟨j, rfl⟩ : ∃ j : Nat, s = (j : Int) := ⟨s.toNat, by have := hc.s0; omega⟩
  rw [show (j : Int).toNat = j from rfl] at *
  obtain ⟨b, o, hA, hS⟩ := h2' (by omega)
  obtain ⟨hcell, hbd⟩ := hS j (by omega)
  clear hS hT hc
  obtain ⟨b2, o2, hA2, hb2⟩ := hbd (by have := hs.1; omega)
  have hn1 := hs.1
  have hn8 := hs.2.1
  have hR := hs.2.2.2.2.1
  obtain ⟨p0, pmz, pfz⟩ := part_mono hs h1 h2 h3
  have hmul : ∀ i, i < (T.S j).n → wrap64 ((T.S j).F i * n) = (T.S j).F i * n ∧ ((T.S j).F i * n).tdiv d = (T.S j).F i * n / d := fun i hi => by
    have hf := hs.2.2.2.1 i hi
    have m0 := Int.mul_nonneg hf.1 h1
    have m1 := Int.mul_le_mul hf.2 (show n ≤ 1048576 by omega) h1 (show (0 : Int) ≤ 100000000000 by omega)
    exact ⟨IntWalk.wrap64_in _ (by omega), Int.tdiv_eq_ediv_of_nonneg m0⟩
  have k3 : (k == 3) = false := by simpa using hk3
  have k4 : (k == 4) = false := by simpa using hk4
  have hc1 : c ≤ 100000000000 := by omega
  have hc0 : 0 ≤ c := by omega
  have hd0 : (d == 0) = false := by simp; omega
  clear hs hbd h2' hk3 hk4
  obtain ⟨P, hP⟩ : ∃ P : Nat → Int, P = fun i => (T.S j).F i * n / d := ⟨_, rfl⟩
  rw [← hP]
  have pm : ∀ i, 0 < i → i < (T.S j).n → P (i - 1) ≤ P i := by rw [hP]; exact pmz
  have pf : ∀ i, i < (T.S j).n → 0 ≤ P i ∧ P i ≤ 100000000000 := by rw [hP]; exact pfz
  have hmul2 : ∀ i, i < (T.S j).n → wrap64 ((T.S j).F i * n) = (T.S j).F i * n ∧ ((T.S j).F i * n).tdiv d = P i := fun i hi => by rw [hP]; exact hmul i hi
  clear hP hmul p0 pmz pfz
  generalize (T.S j).F = F at *
  generalize (T.S j).R = R at *
  generalize (T.S j).E = E at *
  generalize (T.S j).n = m at *
  generalize T.AS = A0 at *
  subst hA
  rw [hA2] at hcell
  have HM := Lib.hid hmul2
  have HPM := Lib.hid pm
  have HPF := Lib.hid pf
  have HRT := Lib.hid hR
  have HB := Lib.hid hb2
  clear hmul2 pm pf hR hb2
  have hw0 : wrap64 (y - p) = y - p := IntWalk.wrap64_in _ (by omega)
  have key : (y - p < 0 ∧ c = 0) ∨ (¬ y - p < 0 ∧ c = y - p) := by omega
  have t0 := K1.cell (i := 0) rfl
  have t1 := K1.cell (i := 1) rfl
  have t2 := K1.cell (i := 2) rfl
  have t3 := K1.cell (i := 3) rfl
  have t4 := K1.cell (i := 4) rfl
  have c0 := K2.cell (i := 0) rfl
  have c1 := K2.cell (i := 1) rfl
  have c2 := K2.cell (i := 2) rfl
  have c3 := K2.cell (i := 3) rfl
  have c4 := K2.cell (i := 4) rfl
  clear hx hy hy2
  rcases key with ⟨g0, e0⟩ | ⟨g0, e0⟩
  · have g1 : decide (y - p < 0) = true := by simpa using g0
    subst e0
    clear g0
    go_enter Tryd.func49, Tryd.ntmps49
    go_wp2_with (fail)
    with_reducible refine (hfr _).mono ?_
    rintro e w1 ⟨rfl, hb⟩
    have B1 := below_step B hb B.size
    have K2 := K2.below hb
    have HB1 : Hid (∀ i, i < m → w1.cell? ⟨b2, o2 + i * 3, none⟩ = some (.int .i64 (F i)) ∧ w1.cell? ⟨b2, o2 + i * 3 + 1, none⟩ = some (.int .i64 (R i))) := Lib.hid fun i hi => ⟨cell_later hb (HB.out i hi).1, cell_later hb (HB.out i hi).2.1⟩
    clear c0 c1 c2 c3 c4 t0 t1 t2 t3 t4 hfr B hb K1 HB
    have c0 := K2.cell (i := 0) rfl
    have c1 := K2.cell (i := 1) rfl
    have c2 := K2.cell (i := 2) rfl
    have c3 := K2.cell (i := 3) rfl
    have c4 := K2.cell (i := 4) rfl
    go_wp2
    go_loop [13, 14] (fun u j' => ∃ i : Nat, i ≤ m ∧ j' = .int .i64 i ∧ u = .int .i64 (refO P R m 0 i)) (fun _ j' => m - (intOf j').toNat)
    case atStart => exact ⟨0, Nat.zero_le _, rfl, by rw [refO_zero _ _ _ (by omega)]⟩
    case round =>
      obtain ⟨i, hi, rfl, rfl⟩ := hrel
      by_cases hlt : i < m
      · obtain ⟨q0, q1⟩ := HB1.out i hlt
        obtain ⟨m1, m2⟩ := HM.out i hlt
        have pf := HPF.out i hlt
        have rb := HRT.out i hlt
        have ob := refO_bd (P := P) (R := R) (n := m) HPF.out HRT.out (x := 0) (by omega) (i := i) (by omega)
        have ob2 := refO_bd (P := P) (R := R) (n := m) HPF.out HRT.out (x := 0) (by omega) (i := i + 1) (by omega)
        have HO := Lib.hid (refO_succ (P := P) (R := R) (n := m) (i := i) (x := 0) hlt HPM.out)
        by_cases hl : i + 1 < m
        · obtain ⟨q2, _⟩ := HB1.out (i + 1) hl
          obtain ⟨m3, m4⟩ := HM.out (i + 1) hl
          have pf2 := HPF.out (i + 1) hl
          have hU : refU P m 0 i = min 0 (P (i + 1)) := by unfold refU; rw [if_pos hl]
          rw [hU] at HO
          clear hU
          generalize F (i + 1) = fn at *
          generalize P (i + 1) = pn at *
          generalize F i = fi at *
          generalize P i = pi at *
          generalize R i = ri at *
          generalize hO2 : refO P R m 0 (i + 1) = O2 at *
          have HO2 := Lib.hid hO2
          clear hO2
          generalize hO1 : refO P R m 0 i = O1 at *
          clear hO1
          have l1 : decide ((i : Int) + 1 < (m : Int)) = true := by simp; omega
          by_cases hb : pn < 0
          · exact absurd hb (by omega)
          · have l2 : decide (pn < 0) = false := by simpa using hb
            by_cases hg : pi < 0
            · exact absurd hg (by omega)
            · have l3 : decide (pi < 0) = false := by simpa using hg
              have hv : O2 = O1 := by rw [HO.out, show max (min 0 pn - pi) 0 = 0 by omega, Int.mul_zero, Int.add_zero]
              have HV := Lib.hid hv
              clear hv hb hg HO
              go_wp2
              refine ⟨⟨i + 1, by omega, by go_num, by rw [HO2.out, HV.out]⟩, ?_⟩
              simp [intOf]; omega
        · have hU : refU P m 0 i = 0 := by unfold refU; rw [if_neg hl]
          rw [hU] at HO
          clear hU
          have l1 : decide ((i : Int) + 1 < (m : Int)) = false := by simp; omega
          generalize F i = fi at *
          generalize P i = pi at *
          generalize R i = ri at *
          generalize hO2 : refO P R m 0 (i + 1) = O2 at *
          have HO2 := Lib.hid hO2
          clear hO2
          generalize hO1 : refO P R m 0 i = O1 at *
          clear hO1
          by_cases hg : pi < 0
          · exact absurd hg (by omega)
          · have l3 : decide (pi < 0) = false := by simpa using hg
            have hv : O2 = O1 := by rw [HO.out, show max (0 - pi) 0 = 0 by omega, Int.mul_zero, Int.add_zero]
            have HV := Lib.hid hv
            clear hv hg HO
            go_wp2
            refine ⟨⟨i + 1, by omega, by go_num, by rw [HO2.out, HV.out]⟩, ?_⟩
            simp [intOf]; omega
      · obtain rfl : i = m := by omega
        rw [refO_end]
        go_wp2
        go_ret
        exact ⟨rfl, B1⟩
  · have g1 : decide (y - p < 0) = false := by simpa using g0
    rw [e0]
    have hq2 : y - p ≤ 100000000000 := by omega
    have hq0 : 0 ≤ y - p := by omega
    clear e0 g0 hc0 hc1
    go_enter Tryd.func49, Tryd.ntmps49
    go_wp2_with (fail)
    with_reducible refine (hfr _).mono ?_
    rintro e w1 ⟨rfl, hb⟩
    have B1 := below_step B hb B.size
    have K2 := K2.below hb
    have HB1 : Hid (∀ i, i < m → w1.cell? ⟨b2, o2 + i * 3, none⟩ = some (.int .i64 (F i)) ∧ w1.cell? ⟨b2, o2 + i * 3 + 1, none⟩ = some (.int .i64 (R i))) := Lib.hid fun i hi => ⟨cell_later hb (HB.out i hi).1, cell_later hb (HB.out i hi).2.1⟩
    clear c0 c1 c2 c3 c4 t0 t1 t2 t3 t4 hfr B hb K1 HB
    have c0 := K2.cell (i := 0) rfl
    have c1 := K2.cell (i := 1) rfl
    have c2 := K2.cell (i := 2) rfl
    have c3 := K2.cell (i := 3) rfl
    have c4 := K2.cell (i := 4) rfl
    go_wp2
    generalize hcc : y - p = cc at *
    have HCC := Lib.hid hcc
    clear hcc
    go_loop [13, 14] (fun u j' => ∃ i : Nat, i ≤ m ∧ j' = .int .i64 i ∧ u = .int .i64 (refO P R m cc i)) (fun _ j' => m - (intOf j').toNat)
    case atStart => exact ⟨0, Nat.zero_le _, rfl, by rw [refO_zero _ _ _ (by omega)]⟩
    case round =>
      obtain ⟨i, hi, rfl, rfl⟩ := hrel
      by_cases hlt : i < m
      · obtain ⟨q0, q1⟩ := HB1.out i hlt
        obtain ⟨m1, m2⟩ := HM.out i hlt
        have pf := HPF.out i hlt
        have rb := HRT.out i hlt
        have ob := refO_bd (P := P) (R := R) (n := m) HPF.out HRT.out (x := cc) (by omega) (i := i) (by omega)
        have ob2 := refO_bd (P := P) (R := R) (n := m) HPF.out HRT.out (x := cc) (by omega) (i := i + 1) (by omega)
        have HO := Lib.hid (refO_succ (P := P) (R := R) (n := m) (i := i) (x := cc) hlt HPM.out)
        by_cases hl : i + 1 < m
        · obtain ⟨q2, _⟩ := HB1.out (i + 1) hl
          obtain ⟨m3, m4⟩ := HM.out (i + 1) hl
          have pf2 := HPF.out (i + 1) hl
          have hU : refU P m cc i = min cc (P (i + 1)) := by unfold refU; rw [if_pos hl]
          rw [hU] at HO
          clear hU
          generalize F (i + 1) = fn at *
          generalize P (i + 1) = pn at *
          generalize F i = fi at *
          generalize P i = pi at *
          generalize R i = ri at *
          generalize hO2 : refO P R m cc (i + 1) = O2 at *
          have HO2 := Lib.hid hO2
          clear hO2
          generalize hO1 : refO P R m cc i = O1 at *
          clear hO1
          have l1 : decide ((i : Int) + 1 < (m : Int)) = true := by simp; omega
          by_cases hb : pn < cc
          · have l2 : decide (pn < cc) = true := by simpa using hb
            by_cases hg : pi < pn
            · have l3 : decide (pi < pn) = true := by simpa using hg
              have x0 := Int.mul_nonneg (show 0 ≤ pn - pi by omega) rb.1
              have x1 := Int.mul_le_mul (show pn - pi ≤ 100000000000 by omega) rb.2 rb.1 (show (0 : Int) ≤ 100000000000 by omega)
              have hv : O2 = O1 + (pn - pi) * ri := by rw [HO.out, show max (min cc pn - pi) 0 = pn - pi by omega, Int.mul_comm]
              have w1' : wrap64 ((pn - pi) * ri) = (pn - pi) * ri := IntWalk.wrap64_in _ (by omega)
              have w2' : wrap64 (O1 + (pn - pi) * ri) = O2 := by rw [hv]; exact IntWalk.wrap64_in _ (by omega)
              clear hv x0 x1 hb hg HO
              go_wp2
              refine ⟨⟨i + 1, by omega, by go_num, by rw [HO2.out, w2']⟩, ?_⟩
              simp [intOf]; omega
            · have l3 : decide (pi < pn) = false := by simpa using hg
              have hv : O2 = O1 := by rw [HO.out, show max (min cc pn - pi) 0 = 0 by omega, Int.mul_zero, Int.add_zero]
              have HV := Lib.hid hv
              clear hv hb hg HO
              go_wp2
              refine ⟨⟨i + 1, by omega, by go_num, by rw [HO2.out, HV.out]⟩, ?_⟩
              simp [intOf]; omega
          · have l2 : decide (pn < cc) = false := by simpa using hb
            by_cases hg : pi < cc
            · have l3 : decide (pi < cc) = true := by simpa using hg
              have x0 := Int.mul_nonneg (show 0 ≤ cc - pi by omega) rb.1
              have x1 := Int.mul_le_mul (show cc - pi ≤ 100000000000 by omega) rb.2 rb.1 (show (0 : Int) ≤ 100000000000 by omega)
              have hv : O2 = O1 + (cc - pi) * ri := by rw [HO.out, show max (min cc pn - pi) 0 = cc - pi by omega, Int.mul_comm]
              have w1' : wrap64 ((cc - pi) * ri) = (cc - pi) * ri := IntWalk.wrap64_in _ (by omega)
              have w2' : wrap64 (O1 + (cc - pi) * ri) = O2 := by rw [hv]; exact IntWalk.wrap64_in _ (by omega)
              clear hv x0 x1 hb hg HO
              go_wp2
              refine ⟨⟨i + 1, by omega, by go_num, by rw [HO2.out, w2']⟩, ?_⟩
              simp [intOf]; omega
            · have l3 : decide (pi < cc) = false := by simpa using hg
              have hv : O2 = O1 := by rw [HO.out, show max (min cc pn - pi) 0 = 0 by omega, Int.mul_zero, Int.add_zero]
              have HV := Lib.hid hv
              clear hv hb hg HO
              go_wp2
              refine ⟨⟨i + 1, by omega, by go_num, by rw [HO2.out, HV.out]⟩, ?_⟩
              simp [intOf]; omega
        · have hU : refU P m cc i = cc := by unfold refU; rw [if_neg hl]
          rw [hU] at HO
          clear hU
          have l1 : decide ((i : Int) + 1 < (m : Int)) = false := by simp; omega
          generalize F i = fi at *
          generalize P i = pi at *
          generalize R i = ri at *
          generalize hO2 : refO P R m cc (i + 1) = O2 at *
          have HO2 := Lib.hid hO2
          clear hO2
          generalize hO1 : refO P R m cc i = O1 at *
          clear hO1
          by_cases hg : pi < cc
          · have l3 : decide (pi < cc) = true := by simpa using hg
            have x0 := Int.mul_nonneg (show 0 ≤ cc - pi by omega) rb.1
            have x1 := Int.mul_le_mul (show cc - pi ≤ 100000000000 by omega) rb.2 rb.1 (show (0 : Int) ≤ 100000000000 by omega)
            have hv : O2 = O1 + (cc - pi) * ri := by rw [HO.out, show max (cc - pi) 0 = cc - pi by omega, Int.mul_comm]
            have w1' : wrap64 ((cc - pi) * ri) = (cc - pi) * ri := IntWalk.wrap64_in _ (by omega)
            have w2' : wrap64 (O1 + (cc - pi) * ri) = O2 := by rw [hv]; exact IntWalk.wrap64_in _ (by omega)
            clear hv x0 x1 hg HO
            go_wp2
            refine ⟨⟨i + 1, by omega, by go_num, by rw [HO2.out, w2']⟩, ?_⟩
            simp [intOf]; omega
          · have l3 : decide (pi < cc) = false := by simpa using hg
            have hv : O2 = O1 := by rw [HO.out, show max (cc - pi) 0 = 0 by omega, Int.mul_zero, Int.add_zero]
            have HV := Lib.hid hv
            clear hv hg HO
            go_wp2
            refine ⟨⟨i + 1, by omega, by go_num, by rw [HO2.out, HV.out]⟩, ?_⟩
            simp [intOf]; omega
      · obtain rfl : i = m := by omega
        rw [refO_end]
        go_wp2
        go_ret
        exact ⟨ret_i (by rw [HCC.out]), B1⟩

/-- the document's own Exact, where an amount is charged at all -/
theorem rexact_any (T : TB) (s k a f : Int) (x : Bool) (y n d : Int) (w : World) (h : SchM w T.AS T.nS T.S) (hT : TOk T) (hc : Fit3 T s k a f) (hg : (chargeV s k a f y n d).2 = 0) :
    Calls Tryd.prog 49 #[.agg #[.slice T.AS T.nS T.cS, .slice T.AC T.nC T.cC, .slice T.AK T.nK T.cK, .int .i64 T.L, .int .i64 T.W], .agg #[.int .i64 s, .int .i64 k, .int .i64 a, .int .i64 f, .bool x], .int .i64 y, .int .i64 n, .int .i64 d] w fun e w' => e = .returned (.int .i64 (refE (T.S s.toNat) k f n d (chargeV s k a f y n d).1)) ∧ Below w.heap.size w w' := by
  obtain ⟨rc, h1, h3, h2, h4⟩ := chargeV_rng hg
  have hb := fitB_bd hc.b
  have hfr := fun w => rfree_any s k a f x n d w hb.2.2.1 hb.2.2.2.1 h1 h3 h2 h4
  have hp := part_bd hb.2.2.1 h1 h3 h2
  by_cases k4 : k = 4
  · have e : refE (T.S s.toNat) k f n d (chargeV s k a f y n d).1 = 0 := by unfold refE; rw [if_pos k4]
    rw [e]
    exact rexact_none T s k a f x y n d w k4
  · have fe := freeV_ok (a := a) (f := f) (n := n) (d := d) rc h1 h3 h2 h4
    generalize hpp : (if k = 2 then -(a * n / d) else a * n / d) = p at *
    have hpb : -1000000000 ≤ p ∧ p ≤ 1000000000 := by
      rw [← hpp]
      split <;> omega
    have hy : amtB y = true := by
      cases e : amtB y
      · rw [chargeV_amt fe e] at hg; exact absurd hg (by simp)
      · rfl
    have hs : amtB (y - p) = true := by
      cases e : amtB (y - p)
      · rw [chargeV_over fe hy k4 e] at hg; exact absurd hg (by simp)
      · rfl
    have hyb := amtB_yes hs
    rw [chargeV_ok fe hy k4 hs]
    dsimp only
    by_cases k3 : k = 3
    · have e : refE (T.S s.toNat) k f n d (max (y - p) 0) = max (y - p) 0 * (T.S s.toNat).R f.toNat := by unfold refE; rw [if_neg k4, if_pos k3]
      rw [e]
      exact rexact_flat T s k a f x y n d p _ w h hT hc k3 hfr rfl (by omega) (by omega)
    · have e : refE (T.S s.toNat) k f n d (max (y - p) 0) = Gb (fun i => (T.S s.toNat).F i * n / d) (T.S s.toNat).R (T.S s.toNat).n (max (y - p) 0) := by unfold refE; rw [if_neg k4, if_neg k3]
      rw [e]
      exact rexact_bands T s k a f x y n d p _ w h hT hc k3 k4 h1 h2 h3 h4 hfr rfl (by omega) (by omega)
end Go.Proofs.YtfnjhalpedccaaaDoor
