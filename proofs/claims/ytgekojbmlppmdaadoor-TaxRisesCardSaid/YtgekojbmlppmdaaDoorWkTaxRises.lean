/- The walk of the law TaxRises. -/
import Derived.Test.YtgekojbmlppmdaaDoorTaxD
import Derived.Test.YtgekojbmlppmdaaDoorTaxH
import Derived.Test.YtgekojbmlppmdaaDoorTaxR
import Derived.Test.YtgekojbmlppmdaaDoorOpenX
namespace Go.Proofs.YtgekojbmlppmdaaDoor
open Go.RowKit Go.Sort
set_option linter.unusedVariables false
set_option linter.unusedSimpArgs false

theorem lfit_yes {T : TB} {s k a f n d : Int} (h : lfitB T s k a f n d = true) : TG T ∧ Fit3 T s k a f ∧ fitsV T s k a f = 0 ∧ 0 ≤ n ∧ 1 ≤ d ∧ n ≤ d ∧ d ≤ 1048576 := by
  unfold lfitB at h
  simp only [Bool.and_eq_true, beq_iff_eq, decide_eq_true_eq] at h
  obtain ⟨⟨⟨⟨⟨⟨⟨⟨_, _⟩, _⟩, h4⟩, h5⟩, h6⟩, h7⟩, h8⟩, h9⟩ := h
  exact ⟨tg_of h4, fitsV_zero h5, h5, h6, h7, h8, h9⟩
/-- is an amount among the first of some? -/
def corB (LL : List Int) (y : Int) (i : Nat) : Bool := (LL.take i).any fun q => q == y
theorem corB_succ {LL : List Int} {y q : Int} {i : Nat} (h : LL[i]? = some q) : corB LL y (i + 1) = (corB LL y i || (q == y)) := by
  unfold corB
  rw [List.take_add_one, h]
  simp [List.any_append]
theorem corB_all {LL : List Int} {y : Int} {i : Nat} (h : LL[i]? = some y) : corB LL y LL.length = true := by
  unfold corB
  rw [List.take_length, List.any_eq_true]
  exact ⟨y, List.mem_of_getElem? h, by simp⟩
/-- what the law's walk wants to know of the rates and the corners -/
theorem rises_facts {T : TB} (hT : TG T) {s k a f n d y : Int} (hc : Fit3 T s k a f) (hz : fitsV T s k a f = 0) (h1 : 0 ≤ n) (h2 : 1 ≤ d) (h3 : n ≤ d) (h4 : d ≤ 1048576) (hy : -50000000000 ≤ y) (hy2 : y ≤ 50000000000) :
    ∃ (r u : Int) (LL : List Int), rateT T s k a f y n d = (r, 0) ∧ rateT T s k a f (y - 1) n d = (u, 0) ∧ cornT T s k a f n d = (LL, 0) ∧ 0 ≤ r ∧ r ≤ topb (T.S s.toNat).R (T.S s.toNat).n ∧ LL.length ≤ 8 ∧
      (∀ i, 0 < i → i < LL.length → LL.getD (i - 1) 0 < LL.getD i 0) ∧ (r ≠ u → corB LL y LL.length = true) := by
  have fe := freeV_ok (a := a) (f := f) hc.c h1 h3 h2 h4
  have b := rate_bds (y := y) (p := (freeV s k a f n d).1) hT.ok hc (n := n) (d := d)
  have ec : cornT T s k a f n d = (cornL T s k a f n d, 0) := by unfold cornT; rw [if_neg (by simpa using hz), if_neg (by rw [fe]; simp)]
  by_cases hk : k = 4
  · have e : cornL T s k a f n d = [] := by unfold cornL; rw [if_pos hk]
    have e2 : taxL (T.S s.toNat) k f n d = [] := by unfold taxL; rw [if_pos hk]
    refine ⟨_, _, _, rate_is hT.ok hc hz h1 h2 h3 h4 (by omega) (by omega), rate_is hT.ok hc hz h1 h2 h3 h4 (by omega) (by omega), ec, b.1, b.2, ?_⟩
    rw [e, e2]
    refine ⟨by simp, fun i hi h => absurd h (by simp), fun h => ?_⟩
    exfalso; apply h
    unfold rtV slp
    simp only [Gl_nil]
    split <;> split <;> rfl
  · have ok := taxL_ok hT.ok hc h1 h2 h3 hk
    have e : cornL T s k a f n d = cornV (taxL (T.S s.toNat) k f n d) (freeV s k a f n d).1 (crn (gF (taxL (T.S s.toNat) k f n d)) (taxL (T.S s.toNat) k f n d).length).length := by unfold cornL; rw [if_neg hk]
    refine ⟨_, _, _, rate_is hT.ok hc hz h1 h2 h3 h4 (by omega) (by omega), rate_is hT.ok hc hz h1 h2 h3 h4 (by omega) (by omega), ec, b.1, b.2, ?_⟩
    rw [e]
    generalize (freeV s k a f n d).1 = p
    generalize taxL (T.S s.toNat) k f n d = L at *
    obtain ⟨hl, hat⟩ := corn_at ok p
    have hd : ∀ i, i < L.length → (cornV L p (crn (gF L) L.length).length).getD i 0 = p + gF L i := fun i hi => by
      rw [List.getD_eq_getElem?_getD, hat i hi]; rfl
    refine ⟨by rw [hl]; exact ok.2.1, fun i hi h => ?_, fun h => ?_⟩
    · rw [hl] at h
      rw [hd i h, hd (i - 1) (by omega)]
      have := ok.2.2.1.2 i hi h
      omega
    · obtain ⟨i, hi, e⟩ := rate_corner h ok
      exact corB_all (i := i) (by rw [hat i hi, e])
set_option maxRecDepth 100000 in
set_option maxHeartbeats 4000000 in
theorem ts_no (T : TB) (s k a f : Int) (x : Bool) (y n d : Int) (w : World) (h : Tm w T) (hF : TFits T) (hK : Kinds w) (ha : -9223372036854775808 ≤ a) (ha2 : a ≤ 9223372036854775807) (g : lfitB T s k a f n d = false) :
    Calls Tryd.prog 5 #[.agg #[.slice T.AS T.nS T.cS, .slice T.AC T.nC T.cC, .slice T.AK T.nK T.cK, .int .i64 T.L, .int .i64 T.W], .agg #[.int .i64 s, .int .i64 k, .int .i64 a, .int .i64 f, .bool x], .agg #[.int .i64 y, .int .i64 n, .int .i64 d]] w fun e w' => e = .returned (.bool true) ∧ Below w.heap.size w w' := by
  have lf := fun w h => lfit_any T s k a f x n d w h hF ha ha2
  rw [g] at lf
  clear hF g
  have K0 : Bx (((w.alloc (.cells #[.slice T.AS T.nS T.cS, .slice T.AC T.nC T.cC, .slice T.AK T.nK T.cK, .int .i64 T.L, .int .i64 T.W] 26)).alloc (.cells #[.int .i64 s, .int .i64 k, .int .i64 a, .int .i64 f, .bool x] 28)).alloc (.cells #[.int .i64 y, .int .i64 n, .int .i64 d] 30)) (w.heap.size) 26 [.slice T.AS T.nS T.cS, .slice T.AC T.nC T.cC, .slice T.AK T.nK T.cK, .int .i64 T.L, .int .i64 T.W] := ((bx_new w [.slice T.AS T.nS T.cS, .slice T.AC T.nC T.cC, .slice T.AK T.nK T.cK, .int .i64 T.L, .int .i64 T.W] 26).alloc _).alloc _
  have K1 : Bx (((w.alloc (.cells #[.slice T.AS T.nS T.cS, .slice T.AC T.nC T.cC, .slice T.AK T.nK T.cK, .int .i64 T.L, .int .i64 T.W] 26)).alloc (.cells #[.int .i64 s, .int .i64 k, .int .i64 a, .int .i64 f, .bool x] 28)).alloc (.cells #[.int .i64 y, .int .i64 n, .int .i64 d] 30)) (w.heap.size + 1) 28 [.int .i64 s, .int .i64 k, .int .i64 a, .int .i64 f, .bool x] := (bx_at _ [.int .i64 s, .int .i64 k, .int .i64 a, .int .i64 f, .bool x] 28 (by simp)).alloc _
  have K2 : Bx (((w.alloc (.cells #[.slice T.AS T.nS T.cS, .slice T.AC T.nC T.cC, .slice T.AK T.nK T.cK, .int .i64 T.L, .int .i64 T.W] 26)).alloc (.cells #[.int .i64 s, .int .i64 k, .int .i64 a, .int .i64 f, .bool x] 28)).alloc (.cells #[.int .i64 y, .int .i64 n, .int .i64 d] 30)) (w.heap.size + 1 + 1) 30 [.int .i64 y, .int .i64 n, .int .i64 d] := bx_at _ [.int .i64 y, .int .i64 n, .int .i64 d] 30 (by simp)
  have B : Below w.heap.size w (((w.alloc (.cells #[.slice T.AS T.nS T.cS, .slice T.AC T.nC T.cC, .slice T.AK T.nK T.cK, .int .i64 T.L, .int .i64 T.W] 26)).alloc (.cells #[.int .i64 s, .int .i64 k, .int .i64 a, .int .i64 f, .bool x] 28)).alloc (.cells #[.int .i64 y, .int .i64 n, .int .i64 d] 30)) := ((((Below.refl _ _).alloc (Nat.le_refl _) _).alloc (by simp) _).alloc (by simp; omega) _)
  replace h := h.below (show Below w.heap.size w (((w.alloc (.cells #[.slice T.AS T.nS T.cS, .slice T.AC T.nC T.cC, .slice T.AK T.nK T.cK, .int .i64 T.L, .int .i64 T.W] 26)).alloc (.cells #[.int .i64 s, .int .i64 k, .int .i64 a, .int .i64 f, .bool x] 28)).alloc (.cells #[.int .i64 y, .int .i64 n, .int .i64 d] 30)) from B)
  have k0_0 := K0.cell (i := 0) rfl
  have k0_1 := K0.cell (i := 1) rfl
  have k0_2 := K0.cell (i := 2) rfl
  have k0_3 := K0.cell (i := 3) rfl
  have k0_4 := K0.cell (i := 4) rfl
  have k1_0 := K1.cell (i := 0) rfl
  have k1_1 := K1.cell (i := 1) rfl
  have k1_2 := K1.cell (i := 2) rfl
  have k1_3 := K1.cell (i := 3) rfl
  have k1_4 := K1.cell (i := 4) rfl
  have k2_0 := K2.cell (i := 0) rfl
  have k2_1 := K2.cell (i := 1) rfl
  have k2_2 := K2.cell (i := 2) rfl
  have du := dues_any (((w.alloc (.cells #[.slice T.AS T.nS T.cS, .slice T.AC T.nC T.cC, .slice T.AK T.nK T.cK, .int .i64 T.L, .int .i64 T.W] 26)).alloc (.cells #[.int .i64 s, .int .i64 k, .int .i64 a, .int .i64 f, .bool x] 28)).alloc (.cells #[.int .i64 y, .int .i64 n, .int .i64 d] 30)) (hK.below B)
  clear hK
  go_enter Tryd.func5, Tryd.ntmps5
  go_wp2_with (fail)
  with_reducible refine (du).mono ?_
  rintro e w1 ⟨rfl, hb⟩
  clear k0_0 k0_1 k0_2 k0_3 k0_4 k1_0 k1_1 k1_2 k1_3 k1_4 k2_0 k2_1 k2_2
  replace K0 := K0.below hb
  replace K1 := K1.below hb
  replace K2 := K2.below hb
  replace h := h.below hb
  replace B := below_step B hb B.size
  clear hb
  have k0_0 := K0.cell (i := 0) rfl
  have k0_1 := K0.cell (i := 1) rfl
  have k0_2 := K0.cell (i := 2) rfl
  have k0_3 := K0.cell (i := 3) rfl
  have k0_4 := K0.cell (i := 4) rfl
  have k1_0 := K1.cell (i := 0) rfl
  have k1_1 := K1.cell (i := 1) rfl
  have k1_2 := K1.cell (i := 2) rfl
  have k1_3 := K1.cell (i := 3) rfl
  have k1_4 := K1.cell (i := 4) rfl
  have k2_0 := K2.cell (i := 0) rfl
  have k2_1 := K2.cell (i := 1) rfl
  have k2_2 := K2.cell (i := 2) rfl
  go_wp2_with (fail)
  with_reducible refine (lf _ h).mono ?_
  rintro e w2 ⟨rfl, hb⟩
  clear k0_0 k0_1 k0_2 k0_3 k0_4 k1_0 k1_1 k1_2 k1_3 k1_4 k2_0 k2_1 k2_2
  replace K0 := K0.below hb
  replace K1 := K1.below hb
  replace K2 := K2.below hb
  replace h := h.below hb
  replace B := below_step B hb B.size
  clear hb
  have k0_0 := K0.cell (i := 0) rfl
  have k0_1 := K0.cell (i := 1) rfl
  have k0_2 := K0.cell (i := 2) rfl
  have k0_3 := K0.cell (i := 3) rfl
  have k0_4 := K0.cell (i := 4) rfl
  have k1_0 := K1.cell (i := 0) rfl
  have k1_1 := K1.cell (i := 1) rfl
  have k1_2 := K1.cell (i := 2) rfl
  have k1_3 := K1.cell (i := 3) rfl
  have k1_4 := K1.cell (i := 4) rfl
  have k2_0 := K2.cell (i := 0) rfl
  have k2_1 := K2.cell (i := 1) rfl
  have k2_2 := K2.cell (i := 2) rfl
  go_wp2
  go_ret
  exact ⟨rfl, B⟩
set_option maxRecDepth 100000 in
set_option maxHeartbeats 4000000 in
theorem ts_up (T : TB) (s k a f : Int) (x : Bool) (y n d : Int) (w : World) (h : Tm w T) (hF : TFits T) (hK : Kinds w) (ha : -9223372036854775808 ≤ a) (ha2 : a ≤ 9223372036854775807) (g : lfitB T s k a f n d = true) (g2 : 50000000000 < y) :
    Calls Tryd.prog 5 #[.agg #[.slice T.AS T.nS T.cS, .slice T.AC T.nC T.cC, .slice T.AK T.nK T.cK, .int .i64 T.L, .int .i64 T.W], .agg #[.int .i64 s, .int .i64 k, .int .i64 a, .int .i64 f, .bool x], .agg #[.int .i64 y, .int .i64 n, .int .i64 d]] w fun e w' => e = .returned (.bool true) ∧ Below w.heap.size w w' := by
  have lf := fun w h => lfit_any T s k a f x n d w h hF ha ha2
  rw [g] at lf
  have q1 : decide (50000000000 < y) = true := by simpa using g2
  clear hF g g2
  have K0 : Bx (((w.alloc (.cells #[.slice T.AS T.nS T.cS, .slice T.AC T.nC T.cC, .slice T.AK T.nK T.cK, .int .i64 T.L, .int .i64 T.W] 26)).alloc (.cells #[.int .i64 s, .int .i64 k, .int .i64 a, .int .i64 f, .bool x] 28)).alloc (.cells #[.int .i64 y, .int .i64 n, .int .i64 d] 30)) (w.heap.size) 26 [.slice T.AS T.nS T.cS, .slice T.AC T.nC T.cC, .slice T.AK T.nK T.cK, .int .i64 T.L, .int .i64 T.W] := ((bx_new w [.slice T.AS T.nS T.cS, .slice T.AC T.nC T.cC, .slice T.AK T.nK T.cK, .int .i64 T.L, .int .i64 T.W] 26).alloc _).alloc _
  have K1 : Bx (((w.alloc (.cells #[.slice T.AS T.nS T.cS, .slice T.AC T.nC T.cC, .slice T.AK T.nK T.cK, .int .i64 T.L, .int .i64 T.W] 26)).alloc (.cells #[.int .i64 s, .int .i64 k, .int .i64 a, .int .i64 f, .bool x] 28)).alloc (.cells #[.int .i64 y, .int .i64 n, .int .i64 d] 30)) (w.heap.size + 1) 28 [.int .i64 s, .int .i64 k, .int .i64 a, .int .i64 f, .bool x] := (bx_at _ [.int .i64 s, .int .i64 k, .int .i64 a, .int .i64 f, .bool x] 28 (by simp)).alloc _
  have K2 : Bx (((w.alloc (.cells #[.slice T.AS T.nS T.cS, .slice T.AC T.nC T.cC, .slice T.AK T.nK T.cK, .int .i64 T.L, .int .i64 T.W] 26)).alloc (.cells #[.int .i64 s, .int .i64 k, .int .i64 a, .int .i64 f, .bool x] 28)).alloc (.cells #[.int .i64 y, .int .i64 n, .int .i64 d] 30)) (w.heap.size + 1 + 1) 30 [.int .i64 y, .int .i64 n, .int .i64 d] := bx_at _ [.int .i64 y, .int .i64 n, .int .i64 d] 30 (by simp)
  have B : Below w.heap.size w (((w.alloc (.cells #[.slice T.AS T.nS T.cS, .slice T.AC T.nC T.cC, .slice T.AK T.nK T.cK, .int .i64 T.L, .int .i64 T.W] 26)).alloc (.cells #[.int .i64 s, .int .i64 k, .int .i64 a, .int .i64 f, .bool x] 28)).alloc (.cells #[.int .i64 y, .int .i64 n, .int .i64 d] 30)) := ((((Below.refl _ _).alloc (Nat.le_refl _) _).alloc (by simp) _).alloc (by simp; omega) _)
  replace h := h.below (show Below w.heap.size w (((w.alloc (.cells #[.slice T.AS T.nS T.cS, .slice T.AC T.nC T.cC, .slice T.AK T.nK T.cK, .int .i64 T.L, .int .i64 T.W] 26)).alloc (.cells #[.int .i64 s, .int .i64 k, .int .i64 a, .int .i64 f, .bool x] 28)).alloc (.cells #[.int .i64 y, .int .i64 n, .int .i64 d] 30)) from B)
  have k0_0 := K0.cell (i := 0) rfl
  have k0_1 := K0.cell (i := 1) rfl
  have k0_2 := K0.cell (i := 2) rfl
  have k0_3 := K0.cell (i := 3) rfl
  have k0_4 := K0.cell (i := 4) rfl
  have k1_0 := K1.cell (i := 0) rfl
  have k1_1 := K1.cell (i := 1) rfl
  have k1_2 := K1.cell (i := 2) rfl
  have k1_3 := K1.cell (i := 3) rfl
  have k1_4 := K1.cell (i := 4) rfl
  have k2_0 := K2.cell (i := 0) rfl
  have k2_1 := K2.cell (i := 1) rfl
  have k2_2 := K2.cell (i := 2) rfl
  have du := dues_any (((w.alloc (.cells #[.slice T.AS T.nS T.cS, .slice T.AC T.nC T.cC, .slice T.AK T.nK T.cK, .int .i64 T.L, .int .i64 T.W] 26)).alloc (.cells #[.int .i64 s, .int .i64 k, .int .i64 a, .int .i64 f, .bool x] 28)).alloc (.cells #[.int .i64 y, .int .i64 n, .int .i64 d] 30)) (hK.below B)
  clear hK
  go_enter Tryd.func5, Tryd.ntmps5
  go_wp2_with (fail)
  with_reducible refine (du).mono ?_
  rintro e w1 ⟨rfl, hb⟩
  clear k0_0 k0_1 k0_2 k0_3 k0_4 k1_0 k1_1 k1_2 k1_3 k1_4 k2_0 k2_1 k2_2
  replace K0 := K0.below hb
  replace K1 := K1.below hb
  replace K2 := K2.below hb
  replace h := h.below hb
  replace B := below_step B hb B.size
  clear hb
  have k0_0 := K0.cell (i := 0) rfl
  have k0_1 := K0.cell (i := 1) rfl
  have k0_2 := K0.cell (i := 2) rfl
  have k0_3 := K0.cell (i := 3) rfl
  have k0_4 := K0.cell (i := 4) rfl
  have k1_0 := K1.cell (i := 0) rfl
  have k1_1 := K1.cell (i := 1) rfl
  have k1_2 := K1.cell (i := 2) rfl
  have k1_3 := K1.cell (i := 3) rfl
  have k1_4 := K1.cell (i := 4) rfl
  have k2_0 := K2.cell (i := 0) rfl
  have k2_1 := K2.cell (i := 1) rfl
  have k2_2 := K2.cell (i := 2) rfl
  go_wp2_with (fail)
  with_reducible refine (lf _ h).mono ?_
  rintro e w2 ⟨rfl, hb⟩
  clear k0_0 k0_1 k0_2 k0_3 k0_4 k1_0 k1_1 k1_2 k1_3 k1_4 k2_0 k2_1 k2_2
  replace K0 := K0.below hb
  replace K1 := K1.below hb
  replace K2 := K2.below hb
  replace h := h.below hb
  replace B := below_step B hb B.size
  clear hb
  have k0_0 := K0.cell (i := 0) rfl
  have k0_1 := K0.cell (i := 1) rfl
  have k0_2 := K0.cell (i := 2) rfl
  have k0_3 := K0.cell (i := 3) rfl
  have k0_4 := K0.cell (i := 4) rfl
  have k1_0 := K1.cell (i := 0) rfl
  have k1_1 := K1.cell (i := 1) rfl
  have k1_2 := K1.cell (i := 2) rfl
  have k1_3 := K1.cell (i := 3) rfl
  have k1_4 := K1.cell (i := 4) rfl
  have k2_0 := K2.cell (i := 0) rfl
  have k2_1 := K2.cell (i := 1) rfl
  have k2_2 := K2.cell (i := 2) rfl
  go_wp2
  go_ret
  exact ⟨rfl, B⟩
set_option maxRecDepth 100000 in
set_option maxHeartbeats 4000000 in
theorem ts_dn (T : TB) (s k a f : Int) (x : Bool) (y n d : Int) (w : World) (h : Tm w T) (hF : TFits T) (hK : Kinds w) (ha : -9223372036854775808 ≤ a) (ha2 : a ≤ 9223372036854775807) (g : lfitB T s k a f n d = true) (g2 : y < -50000000000) :
    Calls Tryd.prog 5 #[.agg #[.slice T.AS T.nS T.cS, .slice T.AC T.nC T.cC, .slice T.AK T.nK T.cK, .int .i64 T.L, .int .i64 T.W], .agg #[.int .i64 s, .int .i64 k, .int .i64 a, .int .i64 f, .bool x], .agg #[.int .i64 y, .int .i64 n, .int .i64 d]] w fun e w' => e = .returned (.bool true) ∧ Below w.heap.size w w' := by
  have lf := fun w h => lfit_any T s k a f x n d w h hF ha ha2
  rw [g] at lf
  have q1 : decide (50000000000 < y) = false := by simp; omega
  have q2 : decide (y < -50000000000) = true := by simpa using g2
  clear hF g
  have K0 : Bx (((w.alloc (.cells #[.slice T.AS T.nS T.cS, .slice T.AC T.nC T.cC, .slice T.AK T.nK T.cK, .int .i64 T.L, .int .i64 T.W] 26)).alloc (.cells #[.int .i64 s, .int .i64 k, .int .i64 a, .int .i64 f, .bool x] 28)).alloc (.cells #[.int .i64 y, .int .i64 n, .int .i64 d] 30)) (w.heap.size) 26 [.slice T.AS T.nS T.cS, .slice T.AC T.nC T.cC, .slice T.AK T.nK T.cK, .int .i64 T.L, .int .i64 T.W] := ((bx_new w [.slice T.AS T.nS T.cS, .slice T.AC T.nC T.cC, .slice T.AK T.nK T.cK, .int .i64 T.L, .int .i64 T.W] 26).alloc _).alloc _
  have K1 : Bx (((w.alloc (.cells #[.slice T.AS T.nS T.cS, .slice T.AC T.nC T.cC, .slice T.AK T.nK T.cK, .int .i64 T.L, .int .i64 T.W] 26)).alloc (.cells #[.int .i64 s, .int .i64 k, .int .i64 a, .int .i64 f, .bool x] 28)).alloc (.cells #[.int .i64 y, .int .i64 n, .int .i64 d] 30)) (w.heap.size + 1) 28 [.int .i64 s, .int .i64 k, .int .i64 a, .int .i64 f, .bool x] := (bx_at _ [.int .i64 s, .int .i64 k, .int .i64 a, .int .i64 f, .bool x] 28 (by simp)).alloc _
  have K2 : Bx (((w.alloc (.cells #[.slice T.AS T.nS T.cS, .slice T.AC T.nC T.cC, .slice T.AK T.nK T.cK, .int .i64 T.L, .int .i64 T.W] 26)).alloc (.cells #[.int .i64 s, .int .i64 k, .int .i64 a, .int .i64 f, .bool x] 28)).alloc (.cells #[.int .i64 y, .int .i64 n, .int .i64 d] 30)) (w.heap.size + 1 + 1) 30 [.int .i64 y, .int .i64 n, .int .i64 d] := bx_at _ [.int .i64 y, .int .i64 n, .int .i64 d] 30 (by simp)
  have B : Below w.heap.size w (((w.alloc (.cells #[.slice T.AS T.nS T.cS, .slice T.AC T.nC T.cC, .slice T.AK T.nK T.cK, .int .i64 T.L, .int .i64 T.W] 26)).alloc (.cells #[.int .i64 s, .int .i64 k, .int .i64 a, .int .i64 f, .bool x] 28)).alloc (.cells #[.int .i64 y, .int .i64 n, .int .i64 d] 30)) := ((((Below.refl _ _).alloc (Nat.le_refl _) _).alloc (by simp) _).alloc (by simp; omega) _)
  replace h := h.below (show Below w.heap.size w (((w.alloc (.cells #[.slice T.AS T.nS T.cS, .slice T.AC T.nC T.cC, .slice T.AK T.nK T.cK, .int .i64 T.L, .int .i64 T.W] 26)).alloc (.cells #[.int .i64 s, .int .i64 k, .int .i64 a, .int .i64 f, .bool x] 28)).alloc (.cells #[.int .i64 y, .int .i64 n, .int .i64 d] 30)) from B)
  have k0_0 := K0.cell (i := 0) rfl
  have k0_1 := K0.cell (i := 1) rfl
  have k0_2 := K0.cell (i := 2) rfl
  have k0_3 := K0.cell (i := 3) rfl
  have k0_4 := K0.cell (i := 4) rfl
  have k1_0 := K1.cell (i := 0) rfl
  have k1_1 := K1.cell (i := 1) rfl
  have k1_2 := K1.cell (i := 2) rfl
  have k1_3 := K1.cell (i := 3) rfl
  have k1_4 := K1.cell (i := 4) rfl
  have k2_0 := K2.cell (i := 0) rfl
  have k2_1 := K2.cell (i := 1) rfl
  have k2_2 := K2.cell (i := 2) rfl
  have du := dues_any (((w.alloc (.cells #[.slice T.AS T.nS T.cS, .slice T.AC T.nC T.cC, .slice T.AK T.nK T.cK, .int .i64 T.L, .int .i64 T.W] 26)).alloc (.cells #[.int .i64 s, .int .i64 k, .int .i64 a, .int .i64 f, .bool x] 28)).alloc (.cells #[.int .i64 y, .int .i64 n, .int .i64 d] 30)) (hK.below B)
  clear hK
  go_enter Tryd.func5, Tryd.ntmps5
  go_wp2_with (fail)
  with_reducible refine (du).mono ?_
  rintro e w1 ⟨rfl, hb⟩
  clear k0_0 k0_1 k0_2 k0_3 k0_4 k1_0 k1_1 k1_2 k1_3 k1_4 k2_0 k2_1 k2_2
  replace K0 := K0.below hb
  replace K1 := K1.below hb
  replace K2 := K2.below hb
  replace h := h.below hb
  replace B := below_step B hb B.size
  clear hb
  have k0_0 := K0.cell (i := 0) rfl
  have k0_1 := K0.cell (i := 1) rfl
  have k0_2 := K0.cell (i := 2) rfl
  have k0_3 := K0.cell (i := 3) rfl
  have k0_4 := K0.cell (i := 4) rfl
  have k1_0 := K1.cell (i := 0) rfl
  have k1_1 := K1.cell (i := 1) rfl
  have k1_2 := K1.cell (i := 2) rfl
  have k1_3 := K1.cell (i := 3) rfl
  have k1_4 := K1.cell (i := 4) rfl
  have k2_0 := K2.cell (i := 0) rfl
  have k2_1 := K2.cell (i := 1) rfl
  have k2_2 := K2.cell (i := 2) rfl
  go_wp2_with (fail)
  with_reducible refine (lf _ h).mono ?_
  rintro e w2 ⟨rfl, hb⟩
  clear k0_0 k0_1 k0_2 k0_3 k0_4 k1_0 k1_1 k1_2 k1_3 k1_4 k2_0 k2_1 k2_2
  replace K0 := K0.below hb
  replace K1 := K1.below hb
  replace K2 := K2.below hb
  replace h := h.below hb
  replace B := below_step B hb B.size
  clear hb
  have k0_0 := K0.cell (i := 0) rfl
  have k0_1 := K0.cell (i := 1) rfl
  have k0_2 := K0.cell (i := 2) rfl
  have k0_3 := K0.cell (i := 3) rfl
  have k0_4 := K0.cell (i := 4) rfl
  have k1_0 := K1.cell (i := 0) rfl
  have k1_1 := K1.cell (i := 1) rfl
  have k1_2 := K1.cell (i := 2) rfl
  have k1_3 := K1.cell (i := 3) rfl
  have k1_4 := K1.cell (i := 4) rfl
  have k2_0 := K2.cell (i := 0) rfl
  have k2_1 := K2.cell (i := 1) rfl
  have k2_2 := K2.cell (i := 2) rfl
  go_wp2
  go_ret
  exact ⟨rfl, B⟩
set_option maxRecDepth 100000 in
set_option maxHeartbeats 4000000 in
theorem ts_ok (T : TB) (s k a f : Int) (x : Bool) (y n d : Int) (w : World) (h : Tm w T) (hF : TFits T) (hK : Kinds w) (ha : -9223372036854775808 ≤ a) (ha2 : a ≤ 9223372036854775807) (g : lfitB T s k a f n d = true) (g2 : -50000000000 ≤ y) (g3 : y ≤ 50000000000) :
    Calls Tryd.prog 5 #[.agg #[.slice T.AS T.nS T.cS, .slice T.AC T.nC T.cC, .slice T.AK T.nK T.cK, .int .i64 T.L, .int .i64 T.W], .agg #[.int .i64 s, .int .i64 k, .int .i64 a, .int .i64 f, .bool x], .agg #[.int .i64 y, .int .i64 n, .int .i64 d]] w fun e w' => e = .returned (.bool true) ∧ Below w.heap.size w w' := by
  have lf := fun w h => lfit_any T s k a f x n d w h hF ha ha2
  rw [g] at lf
  obtain ⟨tg, f3, fz, r0, r1, r2, r3⟩ := lfit_yes g
  have q1 : decide (50000000000 < y) = false := by simp; omega
  have q2 : decide (y < -50000000000) = false := by simp; omega
  obtain ⟨r, u, LL, er, eu, el, br0, br1, hl8, hinc, hcor⟩ := rises_facts tg f3 fz r0 r1 r2 r3 g2 g3
  have ra := fun w h => rate_tab T s k a f x y n d w h tg ha ha2
  have rb := fun w h => rate_tab T s k a f x (y - 1) n d w h tg ha ha2
  have co := fun w h => corn_tab T s k a f x n d w h tg ha ha2
  rw [er] at ra
  rw [eu] at rb
  rw [el] at co
  have hs8 := tg.ok.s8
  have hsn := f3.sn
  have hok := tg.ok.s s.toNat (by have := f3.sn; have := f3.s0; omega)
  have hn8 := hok.2.1
  have hs0 := f3.s0
  obtain ⟨jj, hjj⟩ : ∃ j : Nat, s = (j : Int) := ⟨s.toNat, by omega⟩
  have hjn : s.toNat = jj := by omega
  rw [hjn] at br1 hn8
  have q3 : decide (r < 0) = false := by simp; omega
  have q4 : decide (topb (T.S jj).R (T.S jj).n < r) = false := by simp; omega
  have HI := Lib.hid hinc
  have HC := Lib.hid hcor
  have HJ := Lib.hid hjj
  clear er eu el hinc hcor g hF tg f3 fz r0 r1 r2 r3 hok hjj hjn hs0 br1
  have K0 : Bx (((w.alloc (.cells #[.slice T.AS T.nS T.cS, .slice T.AC T.nC T.cC, .slice T.AK T.nK T.cK, .int .i64 T.L, .int .i64 T.W] 26)).alloc (.cells #[.int .i64 s, .int .i64 k, .int .i64 a, .int .i64 f, .bool x] 28)).alloc (.cells #[.int .i64 y, .int .i64 n, .int .i64 d] 30)) (w.heap.size) 26 [.slice T.AS T.nS T.cS, .slice T.AC T.nC T.cC, .slice T.AK T.nK T.cK, .int .i64 T.L, .int .i64 T.W] := ((bx_new w [.slice T.AS T.nS T.cS, .slice T.AC T.nC T.cC, .slice T.AK T.nK T.cK, .int .i64 T.L, .int .i64 T.W] 26).alloc _).alloc _
  have K1 : Bx (((w.alloc (.cells #[.slice T.AS T.nS T.cS, .slice T.AC T.nC T.cC, .slice T.AK T.nK T.cK, .int .i64 T.L, .int .i64 T.W] 26)).alloc (.cells #[.int .i64 s, .int .i64 k, .int .i64 a, .int .i64 f, .bool x] 28)).alloc (.cells #[.int .i64 y, .int .i64 n, .int .i64 d] 30)) (w.heap.size + 1) 28 [.int .i64 s, .int .i64 k, .int .i64 a, .int .i64 f, .bool x] := (bx_at _ [.int .i64 s, .int .i64 k, .int .i64 a, .int .i64 f, .bool x] 28 (by simp)).alloc _
  have K2 : Bx (((w.alloc (.cells #[.slice T.AS T.nS T.cS, .slice T.AC T.nC T.cC, .slice T.AK T.nK T.cK, .int .i64 T.L, .int .i64 T.W] 26)).alloc (.cells #[.int .i64 s, .int .i64 k, .int .i64 a, .int .i64 f, .bool x] 28)).alloc (.cells #[.int .i64 y, .int .i64 n, .int .i64 d] 30)) (w.heap.size + 1 + 1) 30 [.int .i64 y, .int .i64 n, .int .i64 d] := bx_at _ [.int .i64 y, .int .i64 n, .int .i64 d] 30 (by simp)
  have B : Below w.heap.size w (((w.alloc (.cells #[.slice T.AS T.nS T.cS, .slice T.AC T.nC T.cC, .slice T.AK T.nK T.cK, .int .i64 T.L, .int .i64 T.W] 26)).alloc (.cells #[.int .i64 s, .int .i64 k, .int .i64 a, .int .i64 f, .bool x] 28)).alloc (.cells #[.int .i64 y, .int .i64 n, .int .i64 d] 30)) := ((((Below.refl _ _).alloc (Nat.le_refl _) _).alloc (by simp) _).alloc (by simp; omega) _)
  replace h := h.below (show Below w.heap.size w (((w.alloc (.cells #[.slice T.AS T.nS T.cS, .slice T.AC T.nC T.cC, .slice T.AK T.nK T.cK, .int .i64 T.L, .int .i64 T.W] 26)).alloc (.cells #[.int .i64 s, .int .i64 k, .int .i64 a, .int .i64 f, .bool x] 28)).alloc (.cells #[.int .i64 y, .int .i64 n, .int .i64 d] 30)) from B)
  have k0_0 := K0.cell (i := 0) rfl
  have k0_1 := K0.cell (i := 1) rfl
  have k0_2 := K0.cell (i := 2) rfl
  have k0_3 := K0.cell (i := 3) rfl
  have k0_4 := K0.cell (i := 4) rfl
  have k1_0 := K1.cell (i := 0) rfl
  have k1_1 := K1.cell (i := 1) rfl
  have k1_2 := K1.cell (i := 2) rfl
  have k1_3 := K1.cell (i := 3) rfl
  have k1_4 := K1.cell (i := 4) rfl
  have k2_0 := K2.cell (i := 0) rfl
  have k2_1 := K2.cell (i := 1) rfl
  have k2_2 := K2.cell (i := 2) rfl
  have du := dues_any (((w.alloc (.cells #[.slice T.AS T.nS T.cS, .slice T.AC T.nC T.cC, .slice T.AK T.nK T.cK, .int .i64 T.L, .int .i64 T.W] 26)).alloc (.cells #[.int .i64 s, .int .i64 k, .int .i64 a, .int .i64 f, .bool x] 28)).alloc (.cells #[.int .i64 y, .int .i64 n, .int .i64 d] 30)) (hK.below B)
  clear hK
  go_enter Tryd.func5, Tryd.ntmps5
  go_wp2_with (fail)
  with_reducible refine (du).mono ?_
  rintro e w1 ⟨rfl, hb⟩
  clear k0_0 k0_1 k0_2 k0_3 k0_4 k1_0 k1_1 k1_2 k1_3 k1_4 k2_0 k2_1 k2_2
  replace K0 := K0.below hb
  replace K1 := K1.below hb
  replace K2 := K2.below hb
  replace h := h.below hb
  replace B := below_step B hb B.size
  clear hb
  have k0_0 := K0.cell (i := 0) rfl
  have k0_1 := K0.cell (i := 1) rfl
  have k0_2 := K0.cell (i := 2) rfl
  have k0_3 := K0.cell (i := 3) rfl
  have k0_4 := K0.cell (i := 4) rfl
  have k1_0 := K1.cell (i := 0) rfl
  have k1_1 := K1.cell (i := 1) rfl
  have k1_2 := K1.cell (i := 2) rfl
  have k1_3 := K1.cell (i := 3) rfl
  have k1_4 := K1.cell (i := 4) rfl
  have k2_0 := K2.cell (i := 0) rfl
  have k2_1 := K2.cell (i := 1) rfl
  have k2_2 := K2.cell (i := 2) rfl
  go_wp2_with (fail)
  with_reducible refine (lf _ h).mono ?_
  rintro e w2 ⟨rfl, hb⟩
  clear k0_0 k0_1 k0_2 k0_3 k0_4 k1_0 k1_1 k1_2 k1_3 k1_4 k2_0 k2_1 k2_2
  replace K0 := K0.below hb
  replace K1 := K1.below hb
  replace K2 := K2.below hb
  replace h := h.below hb
  replace B := below_step B hb B.size
  clear hb
  have k0_0 := K0.cell (i := 0) rfl
  have k0_1 := K0.cell (i := 1) rfl
  have k0_2 := K0.cell (i := 2) rfl
  have k0_3 := K0.cell (i := 3) rfl
  have k0_4 := K0.cell (i := 4) rfl
  have k1_0 := K1.cell (i := 0) rfl
  have k1_1 := K1.cell (i := 1) rfl
  have k1_2 := K1.cell (i := 2) rfl
  have k1_3 := K1.cell (i := 3) rfl
  have k1_4 := K1.cell (i := 4) rfl
  have k2_0 := K2.cell (i := 0) rfl
  have k2_1 := K2.cell (i := 1) rfl
  have k2_2 := K2.cell (i := 2) rfl
  have hS := h.s
  clear h lf du
  obtain ⟨b, o, hA, hSc⟩ := id (hS (by have := HJ.out; omega))
  obtain ⟨hcell, hbd⟩ := hSc jj (by have := HJ.out; omega)
  have BDh := Lib.hid hbd
  clear hSc hbd
  have hjn2 : (jj : Int) < T.nS := by have := HJ.out; omega
  have hsj := HJ.out
  clear HJ
  clear k0_0 k0_1 k0_2 k0_3 k0_4 k1_0 k1_1 k1_2 k1_3 k1_4 k2_0 k2_1 k2_2
  subst hsj
  generalize T.AS = A0 at *
  subst hA
  have k0_0 := K0.cell (i := 0) rfl
  have k0_1 := K0.cell (i := 1) rfl
  have k0_2 := K0.cell (i := 2) rfl
  have k0_3 := K0.cell (i := 3) rfl
  have k0_4 := K0.cell (i := 4) rfl
  have k1_0 := K1.cell (i := 0) rfl
  have k1_1 := K1.cell (i := 1) rfl
  have k1_2 := K1.cell (i := 2) rfl
  have k1_3 := K1.cell (i := 3) rfl
  have k1_4 := K1.cell (i := 4) rfl
  have k2_0 := K2.cell (i := 0) rfl
  have k2_1 := K2.cell (i := 1) rfl
  have k2_2 := K2.cell (i := 2) rfl
  go_wp2_with (fail)
  with_reducible refine (ra _ hS).mono ?_
  rintro e w3 ⟨rfl, hb⟩
  clear k0_0 k0_1 k0_2 k0_3 k0_4 k1_0 k1_1 k1_2 k1_3 k1_4 k2_0 k2_1 k2_2
  replace K0 := K0.below hb
  replace K1 := K1.below hb
  replace K2 := K2.below hb
  replace hS := hS.below hb
  replace hcell := cell_later hb hcell
  replace BDh := Lib.hid (BDh.out.below hb)
  replace B := below_step B hb B.size
  clear hb
  have k0_0 := K0.cell (i := 0) rfl
  have k0_1 := K0.cell (i := 1) rfl
  have k0_2 := K0.cell (i := 2) rfl
  have k0_3 := K0.cell (i := 3) rfl
  have k0_4 := K0.cell (i := 4) rfl
  have k1_0 := K1.cell (i := 0) rfl
  have k1_1 := K1.cell (i := 1) rfl
  have k1_2 := K1.cell (i := 2) rfl
  have k1_3 := K1.cell (i := 3) rfl
  have k1_4 := K1.cell (i := 4) rfl
  have k2_0 := K2.cell (i := 0) rfl
  have k2_1 := K2.cell (i := 1) rfl
  have k2_2 := K2.cell (i := 2) rfl
  have Bw := Below.refl w3.heap.size w3
  go_wp2
  go_loopw [9, 65] (fun t j X => ∃ i : Nat, i ≤ (T.S jj).n ∧ j = .int .i64 i ∧ t = .int .i64 (topb (T.S jj).R i) ∧ Below w3.heap.size w3 X) (fun _ j _ => (T.S jj).n - (intOf j).toNat)
  case atStart => exact ⟨0, Nat.zero_le _, rfl, rfl, Bw⟩
  case round =>
    clear Bw
    obtain ⟨i, hi, rfl, rfl, hbX⟩ := hrel
    by_cases hlt : i < (T.S jj).n
    · obtain ⟨b2, o2, hA2, hc⟩ := BDh.out (by omega)
      obtain ⟨z0, z1, z2⟩ := hc i hlt
      replace z0 := cell_later hbX z0
      replace z1 := cell_later hbX z1
      replace z2 := cell_later hbX z2
      clear hc
      have HT : Hid (topb (T.S jj).R (i + 1) = max (topb (T.S jj).R i) ((T.S jj).R i)) := Lib.hid rfl
      have hb2 := hbX.alloc hbX.size (.cells #[.int .i64 ((T.S jj).F i), .int .i64 ((T.S jj).R i), .int .i64 ((T.S jj).E i)] 53)
      generalize topb (T.S jj).R i = t1 at *
      generalize (T.S jj).F i = fi at *
      generalize (T.S jj).R i = ri at *
      generalize (T.S jj).E i = ei at *
      go_wp2
      refine ⟨⟨i + 1, by omega, by go_num, by rw [HT.out], hb2⟩, ?_⟩
      simp [intOf]; omega
    · obtain rfl : i = (T.S jj).n := by omega
      have hb := hbX
      clear hbX BDh hcell ra
      clear k0_0 k0_1 k0_2 k0_3 k0_4 k1_0 k1_1 k1_2 k1_3 k1_4 k2_0 k2_1 k2_2
      replace K0 := K0.below hb
      replace K1 := K1.below hb
      replace K2 := K2.below hb
      replace hS := hS.below hb
      replace B := below_step B hb B.size
      clear hb
      have k0_0 := K0.cell (i := 0) rfl
      have k0_1 := K0.cell (i := 1) rfl
      have k0_2 := K0.cell (i := 2) rfl
      have k0_3 := K0.cell (i := 3) rfl
      have k0_4 := K0.cell (i := 4) rfl
      have k1_0 := K1.cell (i := 0) rfl
      have k1_1 := K1.cell (i := 1) rfl
      have k1_2 := K1.cell (i := 2) rfl
      have k1_3 := K1.cell (i := 3) rfl
      have k1_4 := K1.cell (i := 4) rfl
      have k2_0 := K2.cell (i := 0) rfl
      have k2_1 := K2.cell (i := 1) rfl
      have k2_2 := K2.cell (i := 2) rfl
      go_wp2_with (fail)
      with_reducible refine (rb _ hS).mono ?_
      rintro e w4 ⟨rfl, hb⟩
      clear k0_0 k0_1 k0_2 k0_3 k0_4 k1_0 k1_1 k1_2 k1_3 k1_4 k2_0 k2_1 k2_2
      replace K0 := K0.below hb
      replace K1 := K1.below hb
      replace K2 := K2.below hb
      replace hS := hS.below hb
      replace B := below_step B hb B.size
      clear hb
      have k0_0 := K0.cell (i := 0) rfl
      have k0_1 := K0.cell (i := 1) rfl
      have k0_2 := K0.cell (i := 2) rfl
      have k0_3 := K0.cell (i := 3) rfl
      have k0_4 := K0.cell (i := 4) rfl
      have k1_0 := K1.cell (i := 0) rfl
      have k1_1 := K1.cell (i := 1) rfl
      have k1_2 := K1.cell (i := 2) rfl
      have k1_3 := K1.cell (i := 3) rfl
      have k1_4 := K1.cell (i := 4) rfl
      have k2_0 := K2.cell (i := 0) rfl
      have k2_1 := K2.cell (i := 1) rfl
      have k2_2 := K2.cell (i := 2) rfl
      go_wp2_with (fail)
      with_reducible refine (co _ hS).mono ?_
      rintro e w5 ⟨v, rfl, hv, hb⟩
      clear k0_0 k0_1 k0_2 k0_3 k0_4 k1_0 k1_1 k1_2 k1_3 k1_4 k2_0 k2_1 k2_2
      replace K0 := K0.below hb
      replace K1 := K1.below hb
      replace K2 := K2.below hb
      replace hS := hS.below hb
      replace B := below_step B hb B.size
      clear hb
      have k0_0 := K0.cell (i := 0) rfl
      have k0_1 := K0.cell (i := 1) rfl
      have k0_2 := K0.cell (i := 2) rfl
      have k0_3 := K0.cell (i := 3) rfl
      have k0_4 := K0.cell (i := 4) rfl
      have k1_0 := K1.cell (i := 0) rfl
      have k1_1 := K1.cell (i := 1) rfl
      have k1_2 := K1.cell (i := 2) rfl
      have k1_3 := K1.cell (i := 3) rfl
      have k1_4 := K1.cell (i := 4) rfl
      have k2_0 := K2.cell (i := 0) rfl
      have k2_1 := K2.cell (i := 1) rfl
      have k2_2 := K2.cell (i := 2) rfl
      obtain ⟨vA, vc, rfl, hcs⟩ : ∃ A c, v = .slice A LL.length c ∧ (0 < LL.length → ∃ gg, A = some ⟨gg, 0, none⟩ ∧ ∀ i q, LL[i]? = some q → w5.cell? ⟨gg, i, none⟩ = some (.int .i64 q)) := by
        rcases iw_cell hv with ⟨h0, h1⟩ | ⟨gg, c, h1, _, _, hcc⟩
        · subst h0; exact ⟨none, 0, h1, fun h => absurd h (by simp)⟩
        · exact ⟨_, c, h1, fun _ => ⟨gg, rfl, hcc⟩⟩
      have HS := Lib.hid hcs
      clear hcs hv rb co hS K0 K1
      clear k0_0 k0_1 k0_2 k0_3 k0_4 k1_0 k1_1 k1_2 k1_3 k1_4
      go_wp2
      go_loop [16, 102] (fun t j => ∃ i : Nat, i ≤ LL.length ∧ j = .int .i64 i ∧ t = .bool (corB LL y i)) (fun _ j => LL.length - (intOf j).toNat)
      case atStart => exact ⟨0, Nat.zero_le _, rfl, by simp [corB]⟩
      case round =>
        obtain ⟨i, hi, rfl, rfl⟩ := hrel
        by_cases hlt : i < LL.length
        · obtain ⟨gg, rfl, hcc⟩ := HS.out (by omega)
          have hq : LL[i]? = some (LL.getD i 0) := by rw [List.getD_eq_getElem?_getD, List.getElem?_eq_getElem hlt]; rfl
          have hcell := hcc i _ hq
          have HCS := Lib.hid (corB_succ (y := y) hq)
          by_cases hi0 : i = 0
          · subst hi0
            generalize LL.getD 0 0 = q at *
            clear hq hcc
            cases hb1 : corB LL y 0
            · rw [hb1] at HCS
              cases hb2 : (q == y)
              · rw [hb2] at HCS
                have HZ : Hid (corB LL y 1 = false) := Lib.hid HCS.out
                go_wp2
                refine ⟨⟨1, by omega, rfl, by rw [HZ.out]⟩, ?_⟩
                simp [intOf]; omega
              · rw [hb2] at HCS
                have HZ : Hid (corB LL y 1 = true) := Lib.hid HCS.out
                go_wp2
                refine ⟨⟨1, by omega, rfl, by rw [HZ.out]⟩, ?_⟩
                simp [intOf]; omega
            · rw [hb1] at HCS
              have HZ : Hid (corB LL y 1 = true) := Lib.hid HCS.out
              go_wp2
              refine ⟨⟨1, by omega, rfl, by rw [HZ.out]⟩, ?_⟩
              simp [intOf]; omega
          · obtain ⟨j, rfl⟩ : ∃ j, i = j + 1 := ⟨i - 1, by omega⟩
            have hq0 : LL[j]? = some (LL.getD j 0) := by rw [List.getD_eq_getElem?_getD, List.getElem?_eq_getElem (by omega)]; rfl
            have hcell0 := hcc j _ hq0
            have hin := HI.out (j + 1) (by omega) hlt
            rw [show j + 1 - 1 = j by omega] at hin
            generalize LL.getD (j + 1) 0 = q at *
            generalize LL.getD j 0 = q0 at *
            have l0 : decide (0 < ((j + 1 : Nat) : Int)) = true := decide_eq_true (by omega)
            have l1 : decide (q ≤ q0) = false := by simp; omega
            clear hq hq0 hcc hin
            cases hb1 : corB LL y (j + 1)
            · rw [hb1] at HCS
              cases hb2 : (q == y)
              · rw [hb2] at HCS
                have HZ : Hid (corB LL y (j + 1 + 1) = false) := Lib.hid HCS.out
                go_wp2
                refine ⟨⟨j + 1 + 1, by omega, by go_num, by rw [HZ.out]⟩, ?_⟩
                simp [intOf]; omega
              · rw [hb2] at HCS
                have HZ : Hid (corB LL y (j + 1 + 1) = true) := Lib.hid HCS.out
                go_wp2
                refine ⟨⟨j + 1 + 1, by omega, by go_num, by rw [HZ.out]⟩, ?_⟩
                simp [intOf]; omega
            · rw [hb1] at HCS
              have HZ : Hid (corB LL y (j + 1 + 1) = true) := Lib.hid HCS.out
              go_wp2
              refine ⟨⟨j + 1 + 1, by omega, by go_num, by rw [HZ.out]⟩, ?_⟩
              simp [intOf]; omega
        · obtain rfl : i = LL.length := by omega
          by_cases hru : r = u
          · have hru1 : (r == u) = true := by simpa using hru
            clear hru
            go_wp2
            go_ret
            exact ⟨rfl, B⟩
          · have hru1 : (r == u) = false := by simpa using hru
            have hfull := HC.out hru
            rw [hfull]
            clear hru hfull
            go_wp2
            go_ret
            exact ⟨rfl, B⟩
theorem wTaxRises (T : TB) (s k a f : Int) (x : Bool) (y n d : Int) (w : World) (hK : Kinds w) (h : Tm w T) (hF : TFits T) (hc : cF s k a f) (hy : (-9223372036854775808 ≤ y ∧ y ≤ 9223372036854775807)) (hn : (-9223372036854775808 ≤ n ∧ n ≤ 9223372036854775807)) (hd : (-9223372036854775808 ≤ d ∧ d ≤ 9223372036854775807)) :
    Calls Tryd.prog 5 #[.agg #[.slice T.AS T.nS T.cS, .slice T.AC T.nC T.cC, .slice T.AK T.nK T.cK, .int .i64 T.L, .int .i64 T.W], .agg #[.int .i64 s, .int .i64 k, .int .i64 a, .int .i64 f, .bool x], .agg #[.int .i64 y, .int .i64 n, .int .i64 d]] w fun e w' => e = .returned (.bool true) ∧ Below w.heap.size w w' := by
  have ha := hc.2.2.1.1
  have ha2 := hc.2.2.1.2
  cases g : lfitB T s k a f n d
  · exact ts_no T s k a f x y n d w h hF hK ha ha2 g
  · by_cases g2 : 50000000000 < y
    · exact ts_up T s k a f x y n d w h hF hK ha ha2 g g2
    · by_cases g3 : y < -50000000000
      · exact ts_dn T s k a f x y n d w h hF hK ha ha2 g g3
      · exact ts_ok T s k a f x y n d w h hF hK ha ha2 g (by omega) (by omega)
end Go.Proofs.YtgekojbmlppmdaaDoor
