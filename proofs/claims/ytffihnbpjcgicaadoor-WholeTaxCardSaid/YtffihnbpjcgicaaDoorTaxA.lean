/- Merged: TaxP, TaxA. -/
import Derived.Test.YtffihnbpjcgicaaDoorCodB
import Derived.Test.YtffihnbpjcgicaaDoorBandE
import Derived.Test.YtffihnbpjcgicaaDoorTblK
import Derived.Test.YtffihnbpjcgicaaDoorBox
import Derived.Test.YtffihnbpjcgicaaDoorBandC
import Derived.Test.YtffihnbpjcgicaaDoorTabE
import Derived.Test.YtffihnbpjcgicaaDoorFracE
/- Plain numbers of the tax: by which bands a code taxes, what these come to, what is due. No program in sight. -/
namespace Go.Proofs.YtffihnbpjcgicaaDoor
set_option linter.unusedVariables false

/-- what a row of bands comes to -/
def Gl (L : List Bd) (x : Int) : Int := Gb (gF L) (gR L) L.length x
theorem Gb_congr {F F' R R' : Nat → Int} : ∀ {k : Nat} (x : Int), (∀ i, i < k → F i = F' i) → (∀ i, i < k → R i = R' i) → Gb F R k x = Gb F' R' k x
  | 0, _, _, _ => rfl
  | k + 1, x, h1, h2 => by
    show Gb F R k (min x (F k)) + R k * max (x - F k) 0 = Gb F' R' k (min x (F' k)) + R' k * max (x - F' k) 0
    rw [h1 k (by omega), h2 k (by omega), Gb_congr _ (fun i hi => h1 i (by omega)) (fun i hi => h2 i (by omega))]
theorem Gl_nil (x : Int) : Gl [] x = 0 := rfl
theorem Gl_push (M : List Bd) (t : Bd) (x : Int) : Gl (M ++ [t]) x = Gl M (min x t.1) + t.2.1 * max (x - t.1) 0 := by
  unfold Gl
  rw [show (M ++ [t]).length = M.length + 1 by simp]
  show Gb (gF (M ++ [t])) (gR (M ++ [t])) M.length (min x (gF (M ++ [t]) M.length)) + gR (M ++ [t]) M.length * max (x - gF (M ++ [t]) M.length) 0 = _
  have e1 : gF (M ++ [t]) M.length = t.1 := by unfold gF; rw [gF_end]
  have e2 : gR (M ++ [t]) M.length = t.2.1 := by unfold gR; rw [gF_end]
  rw [e1, e2, Gb_congr (F' := gF M) (R' := gR M) _ (fun i hi => by unfold gF; rw [gF_app hi]) (fun i hi => by unfold gR; rw [gF_app hi])]
theorem Gl_last {L : List Bd} (h : L ≠ []) (x : Int) (hx : x ≤ (L.getLast h).1) : Gl L x = Gl L.dropLast x := by
  conv => lhs; rw [← List.dropLast_concat_getLast h]
  rw [Gl_push, show min x (L.getLast h).1 = x by omega, show max (x - (L.getLast h).1) 0 = 0 by omega, Int.mul_zero, Int.add_zero]
theorem scl_end (p R E : Nat → Int) (i : Nat) : ∃ M, scl p R E (i + 1) = M ++ [(p i, R i, E i)] := ⟨_, rfl⟩
/-- bands of which those that begin alike are one come to the same -/
theorem Gl_scl {p R E : Nat → Int} : ∀ {n : Nat} (x : Int), (∀ i, 0 < i → i < n → p (i - 1) ≤ p i) → Gl (scl p R E n) x = Gb p R n x
  | 0, _, _ => rfl
  | n + 1, x, hm => by
    have hm' : ∀ i, 0 < i → i < n → p (i - 1) ≤ p i := fun i h1 h2 => hm i h1 (by omega)
    show Gl ((if 0 < n ∧ p n = p (n - 1) then (scl p R E n).dropLast else scl p R E n) ++ [(p n, R n, E n)]) x = Gb p R n (min x (p n)) + R n * max (x - p n) 0
    rw [Gl_push]
    congr 1
    split
    · rename_i h
      obtain ⟨h1, h2⟩ := h
      obtain ⟨m, rfl⟩ : ∃ m, n = m + 1 := ⟨n - 1, by omega⟩
      obtain ⟨M, hM⟩ := scl_end p R E m
      rw [← Gl_scl _ hm', hM]
      rw [show m + 1 - 1 = m by omega] at h2
      rw [Gl_last (L := M ++ [(p m, R m, E m)]) (by simp)]
      simp only [List.getLast_append, List.getLast_singleton]
      show min x (p (m + 1)) ≤ p m
      omega
    · exact Gl_scl _ hm'

/-- may a code be with a table? -/
def fitsV (T : TB) (s k a f : Int) : Int :=
  if chkC s k a f = 0 then (if (T.nS : Int) ≤ s then 81 else if k = 3 ∧ ((T.S s.toNat).n : Int) ≤ f then 80 else 0) else chkC s k a f
theorem fitsV_bad {T : TB} {s k a f : Int} (h : chkC s k a f ≠ 0) : fitsV T s k a f = chkC s k a f := by unfold fitsV; rw [if_neg h]
theorem fitsV_out {T : TB} {s k a f : Int} (h : chkC s k a f = 0) (h2 : (T.nS : Int) ≤ s) : fitsV T s k a f = 81 := by unfold fitsV; rw [if_pos h, if_pos h2]
theorem fitsV_flat {T : TB} {s k a f : Int} (h : chkC s k a f = 0) (h2 : s < T.nS) (h3 : k = 3) (h4 : ((T.S s.toNat).n : Int) ≤ f) : fitsV T s k a f = 80 := by unfold fitsV; rw [if_pos h, if_neg (by omega), if_pos ⟨h3, h4⟩]
theorem fitsV_ok {T : TB} {s k a f : Int} (h : chkC s k a f = 0) (h2 : s < T.nS) (h3 : k = 3 → f < ((T.S s.toNat).n : Int)) : fitsV T s k a f = 0 := by
  unfold fitsV; rw [if_pos h, if_neg (by omega), if_neg (by rintro ⟨h4, h5⟩; have := h3 h4; omega)]
/-- a code that may be with a table -/
structure Fit3 (T : TB) (s k a f : Int) : Prop where
  s0 : 0 ≤ s
  s7 : s ≤ 7
  sn : s < T.nS
  c : chkC s k a f = 0
  b : fitB k a f = true
  fl : k = 3 → f < ((T.S s.toNat).n : Int)
theorem fitsV_zero {T : TB} {s k a f : Int} (h : fitsV T s k a f = 0) : Fit3 T s k a f := by
  unfold fitsV at h
  split at h
  · rename_i hc
    split at h
    · omega
    · rename_i hs
      split at h
      · omega
      · rename_i hf
        obtain ⟨z0, z7, zb⟩ := chkC_zero hc
        exact ⟨z0, z7, by omega, hc, zb, fun hk => by
          rcases Int.lt_or_le f ((T.S s.toNat).n : Int) with h1 | h1
          · exact h1
          · exact absurd ⟨hk, h1⟩ hf⟩
  · rename_i hc
    exact absurd h hc
/-- the bands by which a code taxes -/
def taxL (b : SB) (k f n d : Int) : List Bd := if k = 4 then [] else if k = 3 then [(0, b.R f.toNat, 0)] else scl (fun i => b.F i * n / d) b.R b.E b.n
/-- what of an amount that is charged is due, exactly: of the bands as they are -/
def refE (b : SB) (k f n d x : Int) : Int := if k = 4 then 0 else if k = 3 then x * b.R f.toNat else Gb (fun i => b.F i * n / d) b.R b.n x
theorem one_F (r : Int) : gF [(0, r, 0)] 0 = 0 ∧ gR [(0, r, 0)] 0 = r ∧ gE [(0, r, 0)] 0 = 0 := ⟨rfl, rfl, rfl⟩
theorem okb_one {r : Int} (h0 : 0 ≤ r) (h1 : r ≤ 10000) : Okb (gF [(0, r, 0)]) (gR [(0, r, 0)]) (gE [(0, r, 0)]) 1 := by
  refine ⟨Nat.le_refl _, by omega, ⟨rfl, fun i h1 h2 => by omega⟩, fun i hi => ?_, fun i hi => ?_, fun i hi => ?_⟩
  all_goals
    obtain rfl : i = 0 := by omega
  · exact ⟨Int.le_refl _, by show (0 : Int) ≤ _; omega⟩
  · exact ⟨h0, h1⟩
  · exact ⟨Int.le_refl _, by show (0 : Int) ≤ _; omega⟩
theorem scl_ne {p R E : Nat → Int} {n : Nat} (h : 1 ≤ n) : 0 < (scl p R E n).length := by
  obtain ⟨m, rfl⟩ : ∃ m, n = m + 1 := ⟨n - 1, by omega⟩
  obtain ⟨M, hM⟩ := scl_end p R E m
  rw [hM]; simp
theorem okb_scl {b : SB} (h : Okb b.F b.R b.E b.n) {n d : Int} (h1 : 0 ≤ n) (h2 : 1 ≤ d) (h3 : n ≤ d) :
    Okb (gF (scl (fun i => b.F i * n / d) b.R b.E b.n)) (gR (scl (fun i => b.F i * n / d) b.R b.E b.n)) (gE (scl (fun i => b.F i * n / d) b.R b.E b.n)) (scl (fun i => b.F i * n / d) b.R b.E b.n).length := by
  obtain ⟨p0, p1, p2⟩ := part_mono h h1 h2 h3
  exact (scl_okb h p0 p1 p2).2
/-- the bands by which a code that fits taxes may be, if there are any -/
theorem taxL_ok {T : TB} (hT : TOk T) {s k a f : Int} (hc : Fit3 T s k a f) {n d : Int} (h1 : 0 ≤ n) (h2 : 1 ≤ d) (h3 : n ≤ d) (h4 : k ≠ 4) :
    Okb (gF (taxL (T.S s.toNat) k f n d)) (gR (taxL (T.S s.toNat) k f n d)) (gE (taxL (T.S s.toNat) k f n d)) (taxL (T.S s.toNat) k f n d).length := by
  have hs := hT.s s.toNat (by have := hc.sn; have := hc.s0; omega)
  have hb := fitB_bd hc.b
  unfold taxL
  rw [if_neg h4]
  split
  · rename_i h
    have := hc.fl h
    have r := hs.2.2.2.2.1 f.toNat (by omega)
    exact okb_one r.1 r.2
  · exact okb_scl hs h1 h2 h3
theorem Gl_one (r x : Int) (hx : 0 ≤ x) : Gl [(0, r, 0)] x = x * r := by
  rw [show [((0 : Int), r, (0 : Int))] = [] ++ [(0, r, 0)] from rfl, Gl_push, Gl_nil]
  show 0 + r * max (x - 0) 0 = x * r
  rw [show max (x - 0) 0 = x by omega, Int.zero_add, Int.mul_comm]
theorem taxL_ref {T : TB} (hT : TOk T) {s k a f : Int} (hc : Fit3 T s k a f) {n d : Int} (h1 : 0 ≤ n) (h2 : 1 ≤ d) (h3 : n ≤ d) {x : Int} (hx : 0 ≤ x) :
    Gl (taxL (T.S s.toNat) k f n d) x = refE (T.S s.toNat) k f n d x := by
  have hs := hT.s s.toNat (by have := hc.sn; have := hc.s0; omega)
  unfold taxL refE
  split
  · rfl
  · split
    · exact Gl_one _ _ hx
    · obtain ⟨p0, p1, p2⟩ := part_mono hs h1 h2 h3
      exact Gl_scl _ p1
theorem refE_bd {T : TB} (hT : TOk T) {s k a f : Int} (hc : Fit3 T s k a f) {n d : Int} (h1 : 0 ≤ n) (h2 : 1 ≤ d) (h3 : n ≤ d) {x : Int} (hx : 0 ≤ x) (hx' : x ≤ 100000000000) :
    0 ≤ refE (T.S s.toNat) k f n d x ∧ refE (T.S s.toNat) k f n d x ≤ 1000000000000000 := by
  by_cases h4 : k = 4
  · unfold refE; rw [if_pos h4]; omega
  · have ok := taxL_ok hT hc h1 h2 h3 h4
    rw [← taxL_ref hT hc h1 h2 h3 hx]
    exact G_bd ok.2.2.2.1 ok.2.2.2.2.1 hx'
/-- the tax of an amount, exactly, or why not -/
def exactT (T : TB) (s k a f x n d : Int) : Int × Int :=
  if fitsV T s k a f ≠ 0 then (0, fitsV T s k a f)
  else if (chargeV s k a f x n d).2 ≠ 0 then (0, (chargeV s k a f x n d).2)
  else (refE (T.S s.toNat) k f n d (chargeV s k a f x n d).1, 0)
/-- likewise, in least coins -/
def dueT (T : TB) (s k a f x n d : Int) : Int × Int :=
  if (exactT T s k a f x n d).2 ≠ 0 then (0, (exactT T s k a f x n d).2) else (rnd (exactT T s k a f x n d).1 10000 T.W, 0)
theorem chargeV_bd {s k a f x n d : Int} : 0 ≤ (chargeV s k a f x n d).1 ∧ (chargeV s k a f x n d).1 ≤ 100000000000 := by
  unfold chargeV
  split
  · exact ⟨Int.le_refl _, by show (0 : Int) ≤ _; omega⟩
  · split
    · exact ⟨Int.le_refl _, by show (0 : Int) ≤ _; omega⟩
    · split
      · exact ⟨Int.le_refl _, by show (0 : Int) ≤ _; omega⟩
      · split
        · exact ⟨Int.le_refl _, by show (0 : Int) ≤ _; omega⟩
        · rename_i h
          have h : amtB (x - (freeV s k a f n d).1) = true := by simpa using h
          have := amtB_yes h
          exact ⟨by show 0 ≤ max _ _; omega, by show max _ _ ≤ _; omega⟩
theorem chargeV_rng {s k a f x n d : Int} (h : (chargeV s k a f x n d).2 = 0) : chkC s k a f = 0 ∧ 0 ≤ n ∧ n ≤ d ∧ 1 ≤ d ∧ d ≤ 1048576 := by
  unfold chargeV at h
  split at h
  · rename_i h1; exact absurd h h1
  · rename_i h1
    have h1 : (freeV s k a f n d).2 = 0 := by simpa using h1
    unfold freeV at h1
    split at h1
    · rename_i h2; exact absurd h1 h2
    · rename_i h2
      split at h1
      · exact absurd h1 (by decide)
      · rename_i h3
        exact ⟨by simpa using h2, by omega, by omega, by omega, by omega⟩
end Go.Proofs.YtffihnbpjcgicaaDoor

/- What table.Fits, tax.bands, tax.charge, tax.Exact and tax.Due answer, of tables that may be. -/
namespace Go.Proofs.YtffihnbpjcgicaaDoor
open Go.RowKit Go.Sort
set_option linter.unusedVariables false
set_option linter.unusedSimpArgs false

/-- sizes that a machine has -/
def Szs (T : TB) : Prop := T.nS ≤ 4611686018427387904 ∧ ∀ i, i < T.nS → (T.S i).n ≤ 4611686018427387904
theorem fits_tab (T : TB) (s k a f : Int) (x : Bool) (w : World) (h : SchM w T.AS T.nS T.S) (hz : Szs T) (ha : -9223372036854775808 ≤ a) (ha2 : a ≤ 9223372036854775807) :
    Calls Tryd.prog 32 #[.agg #[.slice T.AS T.nS T.cS, .slice T.AC T.nC T.cC, .slice T.AK T.nK T.cK, .int .i64 T.L, .int .i64 T.W], .agg #[.int .i64 s, .int .i64 k, .int .i64 a, .int .i64 f, .bool x]] w fun e w' => e = .returned (.int .i64 (fitsV T s k a f)) ∧ Below w.heap.size w w' := by
  have K1 : Bx ((w.alloc (.cells #[.slice T.AS T.nS T.cS, .slice T.AC T.nC T.cC, .slice T.AK T.nK T.cK, .int .i64 T.L, .int .i64 T.W] 71)).alloc (.cells #[.int .i64 s, .int .i64 k, .int .i64 a, .int .i64 f, .bool x] 83)) w.heap.size 71 [.slice T.AS T.nS T.cS, .slice T.AC T.nC T.cC, .slice T.AK T.nK T.cK, .int .i64 T.L, .int .i64 T.W] := (bx_new w [.slice T.AS T.nS T.cS, .slice T.AC T.nC T.cC, .slice T.AK T.nK T.cK, .int .i64 T.L, .int .i64 T.W] 71).alloc _
  have K2 : Bx ((w.alloc (.cells #[.slice T.AS T.nS T.cS, .slice T.AC T.nC T.cC, .slice T.AK T.nK T.cK, .int .i64 T.L, .int .i64 T.W] 71)).alloc (.cells #[.int .i64 s, .int .i64 k, .int .i64 a, .int .i64 f, .bool x] 83)) (w.heap.size + 1) 83 [.int .i64 s, .int .i64 k, .int .i64 a, .int .i64 f, .bool x] := bx_at _ [.int .i64 s, .int .i64 k, .int .i64 a, .int .i64 f, .bool x] 83 (by simp)
  have B : Below w.heap.size w ((w.alloc (.cells #[.slice T.AS T.nS T.cS, .slice T.AC T.nC T.cC, .slice T.AK T.nK T.cK, .int .i64 T.L, .int .i64 T.W] 71)).alloc (.cells #[.int .i64 s, .int .i64 k, .int .i64 a, .int .i64 f, .bool x] 83)) := ((Below.refl _ _).alloc (Nat.le_refl _) _).alloc (by simp) _
  have h2 := h.below (show Below w.heap.size w ((w.alloc (.cells #[.slice T.AS T.nS T.cS, .slice T.AC T.nC T.cC, .slice T.AK T.nK T.cK, .int .i64 T.L, .int .i64 T.W] 71)).alloc (.cells #[.int .i64 s, .int .i64 k, .int .i64 a, .int .i64 f, .bool x] 83)) from B)
  clear h
  by_cases hc : chkC s k a f = 0
  · have ck := fun w => check_c s k a f x 0 hc w ha ha2
    obtain ⟨z0, z7, zb⟩ := chkC_zero hc
    have hF := fitB_bd zb
    obtain ⟨j, rfl⟩ : ∃ j : Nat, s = (j : Int) := ⟨s.toNat, by omega⟩
    have hz1 := hz.1
    by_cases hs : (T.nS : Int) ≤ j
    · rw [fitsV_out hc hs]
      clear hc hz h2 zb
      go_enter Tryd.func32, Tryd.ntmps32
      go_wp2_with (fail)
      with_reducible refine (ck _).mono ?_
      rintro e w1 ⟨rfl, hb⟩
      have K1 := K1.below hb
      have K2 := K2.below hb
      have B1 := below_step B hb B.size
      clear B hb ck
      have t0 := K1.cell (i := 0) rfl
      have t1 := K1.cell (i := 1) rfl
      have t2 := K1.cell (i := 2) rfl
      have t3 := K1.cell (i := 3) rfl
      have t4 := K1.cell (i := 4) rfl
      have c0 := K2.cell (i := 0) rfl
      have c1 := K2.cell (i := 1) rfl
      have c2 := K2.cell (i := 2) rfl
      have c3 := K2.cell (i := 3) rfl
      have c4 := K2.cell (i := 4) rfl
      go_wp2
      go_ret
      exact ⟨rfl, B1⟩
    · obtain ⟨b, o, hA, hS⟩ := h2 (by omega)
      obtain ⟨hcell, _⟩ := hS j (by omega)
      have hn := hz.2 j (by omega)
      by_cases hk : k = 3
      · subst hk
        by_cases hf : ((T.S j).n : Int) ≤ f
        · rw [fitsV_flat hc (by omega) rfl (by simpa using hf)]
          clear hc hz h2 zb hS
          generalize T.AS = A0 at *
          subst hA
          go_enter Tryd.func32, Tryd.ntmps32
          go_wp2_with (fail)
          with_reducible refine (ck _).mono ?_
          rintro e w1 ⟨rfl, hb⟩
          have K1 := K1.below hb
          have K2 := K2.below hb
          have B1 := below_step B hb B.size
          have d0 := cell_later hb hcell
          clear B hb ck hcell
          have t0 := K1.cell (i := 0) rfl
          have t1 := K1.cell (i := 1) rfl
          have t2 := K1.cell (i := 2) rfl
          have t3 := K1.cell (i := 3) rfl
          have t4 := K1.cell (i := 4) rfl
          have c0 := K2.cell (i := 0) rfl
          have c1 := K2.cell (i := 1) rfl
          have c2 := K2.cell (i := 2) rfl
          have c3 := K2.cell (i := 3) rfl
          have c4 := K2.cell (i := 4) rfl
          go_wp2_with (fail)
          go_quiet (fail)
          go_wp2
          go_ret
          exact ⟨rfl, below_drewN B1 _⟩
        · rw [fitsV_ok hc (by omega) (fun _ => by simpa using hf)]
          clear hc hz h2 zb hS
          generalize T.AS = A0 at *
          subst hA
          go_enter Tryd.func32, Tryd.ntmps32
          go_wp2_with (fail)
          with_reducible refine (ck _).mono ?_
          rintro e w1 ⟨rfl, hb⟩
          have K1 := K1.below hb
          have K2 := K2.below hb
          have B1 := below_step B hb B.size
          have d0 := cell_later hb hcell
          clear B hb ck hcell
          have t0 := K1.cell (i := 0) rfl
          have t1 := K1.cell (i := 1) rfl
          have t2 := K1.cell (i := 2) rfl
          have t3 := K1.cell (i := 3) rfl
          have t4 := K1.cell (i := 4) rfl
          have c0 := K2.cell (i := 0) rfl
          have c1 := K2.cell (i := 1) rfl
          have c2 := K2.cell (i := 2) rfl
          have c3 := K2.cell (i := 3) rfl
          have c4 := K2.cell (i := 4) rfl
          go_wp2_with (fail)
          go_quiet (fail)
          go_wp2
          go_ret
          exact ⟨rfl, below_drewN B1 _⟩
      · rw [fitsV_ok hc (by omega) (fun h => absurd h hk)]
        have hk1 : (k == 3) = false := by simpa using hk
        clear hc hz h2 zb hS hk hA
        go_enter Tryd.func32, Tryd.ntmps32
        go_wp2_with (fail)
        with_reducible refine (ck _).mono ?_
        rintro e w1 ⟨rfl, hb⟩
        have K1 := K1.below hb
        have K2 := K2.below hb
        have B1 := below_step B hb B.size
        clear B hb ck hcell
        have t0 := K1.cell (i := 0) rfl
        have t1 := K1.cell (i := 1) rfl
        have t2 := K1.cell (i := 2) rfl
        have t3 := K1.cell (i := 3) rfl
        have t4 := K1.cell (i := 4) rfl
        have c0 := K2.cell (i := 0) rfl
        have c1 := K2.cell (i := 1) rfl
        have c2 := K2.cell (i := 2) rfl
        have c3 := K2.cell (i := 3) rfl
        have c4 := K2.cell (i := 4) rfl
        go_wp2_with (fail)
        go_quiet (fail)
        go_wp2
        go_ret
        exact ⟨rfl, below_drewN B1 _⟩
  · rw [fitsV_bad hc]
    have ck := fun w => check_c s k a f x _ rfl w ha ha2
    have hne : (chkC s k a f != 0) = true := by simpa using hc
    generalize chkC s k a f = E at *
    clear hc hz h2
    go_enter Tryd.func32, Tryd.ntmps32
    go_wp2_with (fail)
    with_reducible refine (ck _).mono ?_
    rintro e w1 ⟨rfl, hb⟩
    have B1 := below_step B hb B.size
    go_wp2
    go_ret
    exact ⟨rfl, B1⟩

/-- a band that is made -/
theorem rw_new (w : World) (r : Int) {B : Nat} (hB : B ≤ w.heap.size) : Rw (w.alloc (.cells #[.int .i64 0, .int .i64 r, .int .i64 0] 217)) B (.slice (some ⟨w.heap.size, 0, none⟩) 1 1) [(0, r, 0)] :=
  ⟨rfl, .inr ⟨w.heap.size, 1, #[.int .i64 0, .int .i64 r, .int .i64 0], rfl, hB, by show (w.heap.push _)[w.heap.size]? = _; simp, Nat.le_refl _, by unfold maxLen; omega, rfl, rfl⟩⟩
theorem rw_at (w : World) (r : Int) {B N : Nat} (hN : w.heap.size = N) (hB : B ≤ w.heap.size) : Rw (w.alloc (.cells #[.int .i64 0, .int .i64 r, .int .i64 0] 217)) B (.slice (some ⟨N, 0, none⟩) 1 1) [(0, r, 0)] := by
  subst hN; exact rw_new w r hB
theorem rw_mono {w : World} {B B' : Nat} {v : Value} {L : List Bd} (h : Rw w B v L) (hB : B' ≤ B) : Rw w B' v L := by
  obtain ⟨hl, h | ⟨g, cap, cur, hv, hg, hh, h1, h2, h3, h4⟩⟩ := h
  · exact ⟨hl, .inl h⟩
  · exact ⟨hl, .inr ⟨g, cap, cur, hv, Nat.le_trans hB hg, hh, h1, h2, h3, h4⟩⟩
theorem bands_tab (T : TB) (s k a f : Int) (x : Bool) (n d : Int) (w : World) (h : SchM w T.AS T.nS T.S) (hT : TOk T) (hc : Fit3 T s k a f) (h1 : 0 ≤ n) (h2 : 1 ≤ d) (h3 : n ≤ d) (h4 : d ≤ 1048576) :
    Calls Tryd.prog 183 #[.agg #[.slice T.AS T.nS T.cS, .slice T.AC T.nC T.cC, .slice T.AK T.nK T.cK, .int .i64 T.L, .int .i64 T.W], .agg #[.int .i64 s, .int .i64 k, .int .i64 a, .int .i64 f, .bool x], .int .i64 n, .int .i64 d] w fun e w' => ∃ v, e = .returned (.tuple #[v, .int .i64 0]) ∧ Rw w' w.heap.size v (taxL (T.S s.toNat) k f n d) ∧ Below w.heap.size w w' := by
  have K1 : Bx ((w.alloc (.cells #[.slice T.AS T.nS T.cS, .slice T.AC T.nC T.cC, .slice T.AK T.nK T.cK, .int .i64 T.L, .int .i64 T.W] 71)).alloc (.cells #[.int .i64 s, .int .i64 k, .int .i64 a, .int .i64 f, .bool x] 83)) w.heap.size 71 [.slice T.AS T.nS T.cS, .slice T.AC T.nC T.cC, .slice T.AK T.nK T.cK, .int .i64 T.L, .int .i64 T.W] := (bx_new w [.slice T.AS T.nS T.cS, .slice T.AC T.nC T.cC, .slice T.AK T.nK T.cK, .int .i64 T.L, .int .i64 T.W] 71).alloc _
  have K2 : Bx ((w.alloc (.cells #[.slice T.AS T.nS T.cS, .slice T.AC T.nC T.cC, .slice T.AK T.nK T.cK, .int .i64 T.L, .int .i64 T.W] 71)).alloc (.cells #[.int .i64 s, .int .i64 k, .int .i64 a, .int .i64 f, .bool x] 83)) (w.heap.size + 1) 83 [.int .i64 s, .int .i64 k, .int .i64 a, .int .i64 f, .bool x] := bx_at _ [.int .i64 s, .int .i64 k, .int .i64 a, .int .i64 f, .bool x] 83 (by simp)
  have B : Below w.heap.size w ((w.alloc (.cells #[.slice T.AS T.nS T.cS, .slice T.AC T.nC T.cC, .slice T.AK T.nK T.cK, .int .i64 T.L, .int .i64 T.W] 71)).alloc (.cells #[.int .i64 s, .int .i64 k, .int .i64 a, .int .i64 f, .bool x] 83)) := ((Below.refl _ _).alloc (Nat.le_refl _) _).alloc (by simp) _
  have h2' := h.below (show Below w.heap.size w ((w.alloc (.cells #[.slice T.AS T.nS T.cS, .slice T.AC T.nC T.cC, .slice T.AK T.nK T.cK, .int .i64 T.L, .int .i64 T.W] 71)).alloc (.cells #[.int .i64 s, .int .i64 k, .int .i64 a, .int .i64 f, .bool x] 83)) from B)
  clear h
  have hF := fitB_bd hc.b
  have hs := hT.s s.toNat (by have := hc.sn; have := hc.s0; omega)
  have hsn := hc.sn
  have hfl := hc.fl
  obtain ⟨j, rfl⟩ : ∃ j : Nat, s = (j : Int) := ⟨s.toNat, by have := hc.s0; omega⟩
  rw [show (j : Int).toNat = j from rfl] at *
  obtain ⟨b, o, hA, hS⟩ := h2' (by omega)
  obtain ⟨hcell, hbd⟩ := hS j (by omega)
  have hs8 := hT.s8
  clear hS hT hc
  by_cases hk4 : k = 4
  · subst hk4
    rw [show taxL (T.S j) 4 f n d = [] from rfl]
    generalize T.AS = A0 at *
    subst hA
    have t0 := K1.cell (i := 0) rfl
    have t1 := K1.cell (i := 1) rfl
    have t2 := K1.cell (i := 2) rfl
    have t3 := K1.cell (i := 3) rfl
    have t4 := K1.cell (i := 4) rfl
    have c0 := K2.cell (i := 0) rfl
    have c1 := K2.cell (i := 1) rfl
    have c2 := K2.cell (i := 2) rfl
    have c3 := K2.cell (i := 3) rfl
    have c4 := K2.cell (i := 4) rfl
    go_enter Tryd.func183, Tryd.ntmps183
    go_wp2
    go_ret2
    exact ⟨_, rfl, World.ownsRow_nil _ _ _ _, B⟩
  · by_cases hk3 : k = 3
    · subst hk3
      have hfl := hfl rfl
      rw [show taxL (T.S j) 3 f n d = [(0, (T.S j).R f.toNat, 0)] from rfl]
      obtain ⟨q, rfl⟩ : ∃ q : Nat, f = (q : Int) := ⟨f.toNat, by omega⟩
      rw [show (q : Int).toNat = q from rfl] at *
      obtain ⟨b2, o2, hA2, hb2⟩ := hbd (by omega)
      obtain ⟨_, r1, _⟩ := hb2 q (by omega)
      have hq8 : q < 8 := by have := hs.2.1; omega
      clear hb2 hs hbd h2'
      generalize T.AS = A0 at *
      subst hA
      rw [hA2] at hcell
      have t0 := K1.cell (i := 0) rfl
      have t1 := K1.cell (i := 1) rfl
      have t2 := K1.cell (i := 2) rfl
      have t3 := K1.cell (i := 3) rfl
      have t4 := K1.cell (i := 4) rfl
      have c0 := K2.cell (i := 0) rfl
      have c1 := K2.cell (i := 1) rfl
      have c2 := K2.cell (i := 2) rfl
      have c3 := K2.cell (i := 3) rfl
      have c4 := K2.cell (i := 4) rfl
      go_enter Tryd.func183, Tryd.ntmps183
      go_wp2
      go_ret2
      exact ⟨_, rfl, rw_at _ _ (by simp) B.size, B.alloc B.size _⟩
    · have sc := fun w hB => bscale_ok n d (T.S j).A (T.S j).n (T.S j).c w (T.S j).F (T.S j).R (T.S j).E _ hB hs h1 h2 h3 h4 rfl
      rw [show taxL (T.S j) k f n d = scl (fun i => (T.S j).F i * n / d) (T.S j).R (T.S j).E (T.S j).n by unfold taxL; rw [if_neg hk4, if_neg hk3]]
      have e4 : (k == 4) = false := by simpa using hk4
      have e3 : (k == 3) = false := by simpa using hk3
      generalize scl (fun i => (T.S j).F i * n / d) (T.S j).R (T.S j).E (T.S j).n = L at *
      clear hs h2' hk4 hk3
      generalize T.AS = A0 at *
      subst hA
      have t0 := K1.cell (i := 0) rfl
      have t1 := K1.cell (i := 1) rfl
      have t2 := K1.cell (i := 2) rfl
      have t3 := K1.cell (i := 3) rfl
      have t4 := K1.cell (i := 4) rfl
      have c0 := K2.cell (i := 0) rfl
      have c1 := K2.cell (i := 1) rfl
      have c2 := K2.cell (i := 2) rfl
      have c3 := K2.cell (i := 3) rfl
      have c4 := K2.cell (i := 4) rfl
      go_enter Tryd.func183, Tryd.ntmps183
      go_wp2_with (fail)
      with_reducible refine (sc _ hbd).mono ?_
      rintro e w1 ⟨v, rfl, hv, hb⟩
      go_wp2
      go_ret2
      exact ⟨_, rfl, rw_mono hv B.size, below_step B hb B.size⟩

/-- what tax.charge answers: how much is taxed, and by which bands -/
def ChgP (T : TB) (s k a f y n d : Int) (w : World) (e : Ending) (w' : World) : Prop :=
  ∃ v, e = .returned (.tuple #[.int .i64 (chargeV s k a f y n d).1, v, .int .i64 0]) ∧ Rw w' w.heap.size v (taxL (T.S s.toNat) k f n d) ∧ Below w.heap.size w w'
theorem charge_fits (T : TB) (s k a f : Int) (x : Bool) (y n d : Int) (E : Int) (hE : fitsV T s k a f = E) (h0 : (E != 0) = true) (w : World) (h : SchM w T.AS T.nS T.S) (hz : Szs T) (ha : -9223372036854775808 ≤ a) (ha2 : a ≤ 9223372036854775807) :
    Calls Tryd.prog 172 #[.agg #[.slice T.AS T.nS T.cS, .slice T.AC T.nC T.cC, .slice T.AK T.nK T.cK, .int .i64 T.L, .int .i64 T.W], .agg #[.int .i64 s, .int .i64 k, .int .i64 a, .int .i64 f, .bool x], .int .i64 y, .int .i64 n, .int .i64 d] w fun e w' => e = .returned (.tuple #[.int .i64 0, .slice none 0 0, .int .i64 E]) ∧ Below w.heap.size w w' := by
  have K1 : Bx ((w.alloc (.cells #[.slice T.AS T.nS T.cS, .slice T.AC T.nC T.cC, .slice T.AK T.nK T.cK, .int .i64 T.L, .int .i64 T.W] 71)).alloc (.cells #[.int .i64 s, .int .i64 k, .int .i64 a, .int .i64 f, .bool x] 83)) w.heap.size 71 [.slice T.AS T.nS T.cS, .slice T.AC T.nC T.cC, .slice T.AK T.nK T.cK, .int .i64 T.L, .int .i64 T.W] := (bx_new w [.slice T.AS T.nS T.cS, .slice T.AC T.nC T.cC, .slice T.AK T.nK T.cK, .int .i64 T.L, .int .i64 T.W] 71).alloc _
  have K2 : Bx ((w.alloc (.cells #[.slice T.AS T.nS T.cS, .slice T.AC T.nC T.cC, .slice T.AK T.nK T.cK, .int .i64 T.L, .int .i64 T.W] 71)).alloc (.cells #[.int .i64 s, .int .i64 k, .int .i64 a, .int .i64 f, .bool x] 83)) (w.heap.size + 1) 83 [.int .i64 s, .int .i64 k, .int .i64 a, .int .i64 f, .bool x] := bx_at _ [.int .i64 s, .int .i64 k, .int .i64 a, .int .i64 f, .bool x] 83 (by simp)
  have B : Below w.heap.size w ((w.alloc (.cells #[.slice T.AS T.nS T.cS, .slice T.AC T.nC T.cC, .slice T.AK T.nK T.cK, .int .i64 T.L, .int .i64 T.W] 71)).alloc (.cells #[.int .i64 s, .int .i64 k, .int .i64 a, .int .i64 f, .bool x] 83)) := ((Below.refl _ _).alloc (Nat.le_refl _) _).alloc (by simp) _
  have ft := fun w h => fits_tab T s k a f x w h hz ha ha2
  rw [hE] at ft
  have h2 := h.below (show Below w.heap.size w ((w.alloc (.cells #[.slice T.AS T.nS T.cS, .slice T.AC T.nC T.cC, .slice T.AK T.nK T.cK, .int .i64 T.L, .int .i64 T.W] 71)).alloc (.cells #[.int .i64 s, .int .i64 k, .int .i64 a, .int .i64 f, .bool x] 83)) from B)
  clear hE h hz
  have t0 := K1.cell (i := 0) rfl
  have t1 := K1.cell (i := 1) rfl
  have t2 := K1.cell (i := 2) rfl
  have t3 := K1.cell (i := 3) rfl
  have t4 := K1.cell (i := 4) rfl
  have c0 := K2.cell (i := 0) rfl
  have c1 := K2.cell (i := 1) rfl
  have c2 := K2.cell (i := 2) rfl
  have c3 := K2.cell (i := 3) rfl
  have c4 := K2.cell (i := 4) rfl
  go_enter Tryd.func172, Tryd.ntmps172
  go_wp2_with (fail)
  with_reducible refine (ft _ h2).mono ?_
  rintro e w1 ⟨rfl, hb⟩
  have B1 := below_step B hb B.size
  go_wp2
  exact bodyPost_ret (v := .tuple #[.int .i64 0, .slice none 0 0, .int .i64 E]) (by simp [results, Tryd.results172, go_sem]) rfl ⟨rfl, B1⟩
theorem charge_bad (T : TB) (s k a f : Int) (x : Bool) (y n d : Int) (E : Int) (hF : fitsV T s k a f = 0) (hE : (chargeV s k a f y n d).2 = E) (h0 : (E != 0) = true) (w : World) (h : SchM w T.AS T.nS T.S) (hz : Szs T) (ha : -9223372036854775808 ≤ a) (ha2 : a ≤ 9223372036854775807) :
    Calls Tryd.prog 172 #[.agg #[.slice T.AS T.nS T.cS, .slice T.AC T.nC T.cC, .slice T.AK T.nK T.cK, .int .i64 T.L, .int .i64 T.W], .agg #[.int .i64 s, .int .i64 k, .int .i64 a, .int .i64 f, .bool x], .int .i64 y, .int .i64 n, .int .i64 d] w fun e w' => e = .returned (.tuple #[.int .i64 0, .slice none 0 0, .int .i64 E]) ∧ Below w.heap.size w w' := by
  have K1 : Bx ((w.alloc (.cells #[.slice T.AS T.nS T.cS, .slice T.AC T.nC T.cC, .slice T.AK T.nK T.cK, .int .i64 T.L, .int .i64 T.W] 71)).alloc (.cells #[.int .i64 s, .int .i64 k, .int .i64 a, .int .i64 f, .bool x] 83)) w.heap.size 71 [.slice T.AS T.nS T.cS, .slice T.AC T.nC T.cC, .slice T.AK T.nK T.cK, .int .i64 T.L, .int .i64 T.W] := (bx_new w [.slice T.AS T.nS T.cS, .slice T.AC T.nC T.cC, .slice T.AK T.nK T.cK, .int .i64 T.L, .int .i64 T.W] 71).alloc _
  have K2 : Bx ((w.alloc (.cells #[.slice T.AS T.nS T.cS, .slice T.AC T.nC T.cC, .slice T.AK T.nK T.cK, .int .i64 T.L, .int .i64 T.W] 71)).alloc (.cells #[.int .i64 s, .int .i64 k, .int .i64 a, .int .i64 f, .bool x] 83)) (w.heap.size + 1) 83 [.int .i64 s, .int .i64 k, .int .i64 a, .int .i64 f, .bool x] := bx_at _ [.int .i64 s, .int .i64 k, .int .i64 a, .int .i64 f, .bool x] 83 (by simp)
  have B : Below w.heap.size w ((w.alloc (.cells #[.slice T.AS T.nS T.cS, .slice T.AC T.nC T.cC, .slice T.AK T.nK T.cK, .int .i64 T.L, .int .i64 T.W] 71)).alloc (.cells #[.int .i64 s, .int .i64 k, .int .i64 a, .int .i64 f, .bool x] 83)) := ((Below.refl _ _).alloc (Nat.le_refl _) _).alloc (by simp) _
  have ft := fun w h => fits_tab T s k a f x w h hz ha ha2
  rw [hF] at ft
  have cg := fun w => charge_any s k a f y n d x w ha ha2
  rw [hE] at cg
  generalize (chargeV s k a f y n d).1 = cv at *
  have h2 := h.below (show Below w.heap.size w ((w.alloc (.cells #[.slice T.AS T.nS T.cS, .slice T.AC T.nC T.cC, .slice T.AK T.nK T.cK, .int .i64 T.L, .int .i64 T.W] 71)).alloc (.cells #[.int .i64 s, .int .i64 k, .int .i64 a, .int .i64 f, .bool x] 83)) from B)
  clear hE hF h hz
  have t0 := K1.cell (i := 0) rfl
  have t1 := K1.cell (i := 1) rfl
  have t2 := K1.cell (i := 2) rfl
  have t3 := K1.cell (i := 3) rfl
  have t4 := K1.cell (i := 4) rfl
  have c0 := K2.cell (i := 0) rfl
  have c1 := K2.cell (i := 1) rfl
  have c2 := K2.cell (i := 2) rfl
  have c3 := K2.cell (i := 3) rfl
  have c4 := K2.cell (i := 4) rfl
  go_enter Tryd.func172, Tryd.ntmps172
  go_wp2_with (fail)
  with_reducible refine (ft _ h2).mono ?_
  rintro e w1 ⟨rfl, hb⟩
  have K1 := K1.below hb
  have K2 := K2.below hb
  have B1 := below_step B hb B.size
  clear hb B ft
  clear t0 t1 t2 t3 t4 c0 c1 c2 c3 c4
  have t0 := K1.cell (i := 0) rfl
  have t1 := K1.cell (i := 1) rfl
  have t2 := K1.cell (i := 2) rfl
  have t3 := K1.cell (i := 3) rfl
  have t4 := K1.cell (i := 4) rfl
  have c0 := K2.cell (i := 0) rfl
  have c1 := K2.cell (i := 1) rfl
  have c2 := K2.cell (i := 2) rfl
  have c3 := K2.cell (i := 3) rfl
  have c4 := K2.cell (i := 4) rfl
  go_wp2_with (fail)
  with_reducible refine (cg _).mono ?_
  rintro e w2 ⟨rfl, hb⟩
  have B2 := below_step B1 hb B1.size
  go_wp2
  exact bodyPost_ret (v := .tuple #[.int .i64 0, .slice none 0 0, .int .i64 E]) (by simp [results, Tryd.results172, go_sem]) rfl ⟨rfl, B2⟩
theorem charge_tab (T : TB) (s k a f : Int) (x : Bool) (y n d : Int) (hF : fitsV T s k a f = 0) (hE : (chargeV s k a f y n d).2 = 0) (w : World) (h : SchM w T.AS T.nS T.S) (hz : Szs T) (hT : TOk T) (ha : -9223372036854775808 ≤ a) (ha2 : a ≤ 9223372036854775807) :
    Calls Tryd.prog 172 #[.agg #[.slice T.AS T.nS T.cS, .slice T.AC T.nC T.cC, .slice T.AK T.nK T.cK, .int .i64 T.L, .int .i64 T.W], .agg #[.int .i64 s, .int .i64 k, .int .i64 a, .int .i64 f, .bool x], .int .i64 y, .int .i64 n, .int .i64 d] w (ChgP T s k a f y n d w) := by
  have K1 : Bx ((w.alloc (.cells #[.slice T.AS T.nS T.cS, .slice T.AC T.nC T.cC, .slice T.AK T.nK T.cK, .int .i64 T.L, .int .i64 T.W] 71)).alloc (.cells #[.int .i64 s, .int .i64 k, .int .i64 a, .int .i64 f, .bool x] 83)) w.heap.size 71 [.slice T.AS T.nS T.cS, .slice T.AC T.nC T.cC, .slice T.AK T.nK T.cK, .int .i64 T.L, .int .i64 T.W] := (bx_new w [.slice T.AS T.nS T.cS, .slice T.AC T.nC T.cC, .slice T.AK T.nK T.cK, .int .i64 T.L, .int .i64 T.W] 71).alloc _
  have K2 : Bx ((w.alloc (.cells #[.slice T.AS T.nS T.cS, .slice T.AC T.nC T.cC, .slice T.AK T.nK T.cK, .int .i64 T.L, .int .i64 T.W] 71)).alloc (.cells #[.int .i64 s, .int .i64 k, .int .i64 a, .int .i64 f, .bool x] 83)) (w.heap.size + 1) 83 [.int .i64 s, .int .i64 k, .int .i64 a, .int .i64 f, .bool x] := bx_at _ [.int .i64 s, .int .i64 k, .int .i64 a, .int .i64 f, .bool x] 83 (by simp)
  have B : Below w.heap.size w ((w.alloc (.cells #[.slice T.AS T.nS T.cS, .slice T.AC T.nC T.cC, .slice T.AK T.nK T.cK, .int .i64 T.L, .int .i64 T.W] 71)).alloc (.cells #[.int .i64 s, .int .i64 k, .int .i64 a, .int .i64 f, .bool x] 83)) := ((Below.refl _ _).alloc (Nat.le_refl _) _).alloc (by simp) _
  have ft := fun w h => fits_tab T s k a f x w h hz ha ha2
  rw [hF] at ft
  have cg := fun w => charge_any s k a f y n d x w ha ha2
  rw [hE] at cg
  have rg := chargeV_rng hE
  have bd := fun w h => bands_tab T s k a f x n d w h hT (fitsV_zero hF) rg.2.1 rg.2.2.2.1 rg.2.2.1 rg.2.2.2.2
  unfold ChgP
  generalize (chargeV s k a f y n d).1 = cv at *
  generalize taxL (T.S s.toNat) k f n d = L at *
  have h2 := h.below (show Below w.heap.size w ((w.alloc (.cells #[.slice T.AS T.nS T.cS, .slice T.AC T.nC T.cC, .slice T.AK T.nK T.cK, .int .i64 T.L, .int .i64 T.W] 71)).alloc (.cells #[.int .i64 s, .int .i64 k, .int .i64 a, .int .i64 f, .bool x] 83)) from B)
  clear hE hF h hz hT rg
  have t0 := K1.cell (i := 0) rfl
  have t1 := K1.cell (i := 1) rfl
  have t2 := K1.cell (i := 2) rfl
  have t3 := K1.cell (i := 3) rfl
  have t4 := K1.cell (i := 4) rfl
  have c0 := K2.cell (i := 0) rfl
  have c1 := K2.cell (i := 1) rfl
  have c2 := K2.cell (i := 2) rfl
  have c3 := K2.cell (i := 3) rfl
  have c4 := K2.cell (i := 4) rfl
  go_enter Tryd.func172, Tryd.ntmps172
  go_wp2_with (fail)
  with_reducible refine (ft _ h2).mono ?_
  rintro e w1 ⟨rfl, hb⟩
  have K1 := K1.below hb
  have K2 := K2.below hb
  have h3 := h2.below hb
  have B1 := below_step B hb B.size
  clear hb B ft h2
  clear t0 t1 t2 t3 t4 c0 c1 c2 c3 c4
  have t0 := K1.cell (i := 0) rfl
  have t1 := K1.cell (i := 1) rfl
  have t2 := K1.cell (i := 2) rfl
  have t3 := K1.cell (i := 3) rfl
  have t4 := K1.cell (i := 4) rfl
  have c0 := K2.cell (i := 0) rfl
  have c1 := K2.cell (i := 1) rfl
  have c2 := K2.cell (i := 2) rfl
  have c3 := K2.cell (i := 3) rfl
  have c4 := K2.cell (i := 4) rfl
  go_wp2_with (fail)
  with_reducible refine (cg _).mono ?_
  rintro e w2 ⟨rfl, hb⟩
  have K1 := K1.below hb
  have K2 := K2.below hb
  have h4 := h3.below hb
  have B2 := below_step B1 hb B1.size
  clear hb B1 cg h3
  clear t0 t1 t2 t3 t4 c0 c1 c2 c3 c4
  have t0 := K1.cell (i := 0) rfl
  have t1 := K1.cell (i := 1) rfl
  have t2 := K1.cell (i := 2) rfl
  have t3 := K1.cell (i := 3) rfl
  have t4 := K1.cell (i := 4) rfl
  have c0 := K2.cell (i := 0) rfl
  have c1 := K2.cell (i := 1) rfl
  have c2 := K2.cell (i := 2) rfl
  have c3 := K2.cell (i := 3) rfl
  have c4 := K2.cell (i := 4) rfl
  go_wp2_with (fail)
  with_reducible refine (bd _ h4).mono ?_
  rintro e w3 ⟨v, rfl, hv, hb⟩
  have B3 := below_step B2 hb B2.size
  go_wp2
  exact bodyPost_ret (v := .tuple #[.int .i64 cv, v, .int .i64 0]) (by simp [results, Tryd.results172, go_sem]) rfl ⟨_, rfl, rw_mono hv B2.size, B3⟩

/-- of bands that may be: what they come to -/
theorem exact_rw {L : List Bd} (hok : Okb (gF L) (gR L) (gE L) L.length) (y : Int) (hy : amtB y = true) {w : World} {B : Nat} {v : Value} (h : Rw w B v L) :
    ∃ g cap, v = .slice (some ⟨g, 0, none⟩) L.length cap ∧ ∀ w', Below w.heap.size w w' → Calls Tryd.prog 173 #[.int .i64 y, v] w' fun e w'' => e = .returned (.tuple #[.int .i64 (Gl L y), .int .i64 0]) ∧ Below w'.heap.size w' w'' := by
  obtain ⟨g, cap, hv, _, _, _, hb⟩ := rw_bds_of h (by have := hok.1; omega)
  refine ⟨g, cap, hv, fun w' hw => ?_⟩
  have := Exact_ok L.length cap y (some ⟨g, 0, none⟩) (gF L) (gR L) (gE L) w' (hb.below hw) hok hy
  rw [exact_G hok.1 hok.2.2.1 hok.2.2.2.1] at this
  rw [hv]
  exact this
theorem exact_bad (T : TB) (s k a f : Int) (x : Bool) (y n d : Int) (E : Int) (h0 : (E != 0) = true) (w : World) (h : SchM w T.AS T.nS T.S) (cg : ∀ w, SchM w T.AS T.nS T.S → Calls Tryd.prog 172 #[.agg #[.slice T.AS T.nS T.cS, .slice T.AC T.nC T.cC, .slice T.AK T.nK T.cK, .int .i64 T.L, .int .i64 T.W], .agg #[.int .i64 s, .int .i64 k, .int .i64 a, .int .i64 f, .bool x], .int .i64 y, .int .i64 n, .int .i64 d] w fun e w' => e = .returned (.tuple #[.int .i64 0, .slice none 0 0, .int .i64 E]) ∧ Below w.heap.size w w') :
    Calls Tryd.prog 149 #[.agg #[.slice T.AS T.nS T.cS, .slice T.AC T.nC T.cC, .slice T.AK T.nK T.cK, .int .i64 T.L, .int .i64 T.W], .agg #[.int .i64 s, .int .i64 k, .int .i64 a, .int .i64 f, .bool x], .int .i64 y, .int .i64 n, .int .i64 d] w fun e w' => e = .returned (.tuple #[.int .i64 0, .int .i64 E]) ∧ Below w.heap.size w w' := by
  have K1 : Bx ((w.alloc (.cells #[.slice T.AS T.nS T.cS, .slice T.AC T.nC T.cC, .slice T.AK T.nK T.cK, .int .i64 T.L, .int .i64 T.W] 71)).alloc (.cells #[.int .i64 s, .int .i64 k, .int .i64 a, .int .i64 f, .bool x] 83)) w.heap.size 71 [.slice T.AS T.nS T.cS, .slice T.AC T.nC T.cC, .slice T.AK T.nK T.cK, .int .i64 T.L, .int .i64 T.W] := (bx_new w [.slice T.AS T.nS T.cS, .slice T.AC T.nC T.cC, .slice T.AK T.nK T.cK, .int .i64 T.L, .int .i64 T.W] 71).alloc _
  have K2 : Bx ((w.alloc (.cells #[.slice T.AS T.nS T.cS, .slice T.AC T.nC T.cC, .slice T.AK T.nK T.cK, .int .i64 T.L, .int .i64 T.W] 71)).alloc (.cells #[.int .i64 s, .int .i64 k, .int .i64 a, .int .i64 f, .bool x] 83)) (w.heap.size + 1) 83 [.int .i64 s, .int .i64 k, .int .i64 a, .int .i64 f, .bool x] := bx_at _ [.int .i64 s, .int .i64 k, .int .i64 a, .int .i64 f, .bool x] 83 (by simp)
  have B : Below w.heap.size w ((w.alloc (.cells #[.slice T.AS T.nS T.cS, .slice T.AC T.nC T.cC, .slice T.AK T.nK T.cK, .int .i64 T.L, .int .i64 T.W] 71)).alloc (.cells #[.int .i64 s, .int .i64 k, .int .i64 a, .int .i64 f, .bool x] 83)) := ((Below.refl _ _).alloc (Nat.le_refl _) _).alloc (by simp) _
  have h2 := h.below (show Below w.heap.size w ((w.alloc (.cells #[.slice T.AS T.nS T.cS, .slice T.AC T.nC T.cC, .slice T.AK T.nK T.cK, .int .i64 T.L, .int .i64 T.W] 71)).alloc (.cells #[.int .i64 s, .int .i64 k, .int .i64 a, .int .i64 f, .bool x] 83)) from B)
  clear h
  have t0 := K1.cell (i := 0) rfl
  have t1 := K1.cell (i := 1) rfl
  have t2 := K1.cell (i := 2) rfl
  have t3 := K1.cell (i := 3) rfl
  have t4 := K1.cell (i := 4) rfl
  have c0 := K2.cell (i := 0) rfl
  have c1 := K2.cell (i := 1) rfl
  have c2 := K2.cell (i := 2) rfl
  have c3 := K2.cell (i := 3) rfl
  have c4 := K2.cell (i := 4) rfl
  go_enter Tryd.func149, Tryd.ntmps149
  go_wp2_with (fail)
  with_reducible refine (cg _ h2).mono ?_
  rintro e w1 ⟨rfl, hb⟩
  have B1 := below_step B hb B.size
  go_wp2
  go_ret2
  exact ⟨rfl, B1⟩
theorem exact_none (T : TB) (s k a f : Int) (x : Bool) (y n d : Int) (w : World) (h : SchM w T.AS T.nS T.S) (hL : taxL (T.S s.toNat) k f n d = []) (cg : ∀ w, SchM w T.AS T.nS T.S → Calls Tryd.prog 172 #[.agg #[.slice T.AS T.nS T.cS, .slice T.AC T.nC T.cC, .slice T.AK T.nK T.cK, .int .i64 T.L, .int .i64 T.W], .agg #[.int .i64 s, .int .i64 k, .int .i64 a, .int .i64 f, .bool x], .int .i64 y, .int .i64 n, .int .i64 d] w (ChgP T s k a f y n d w)) :
    Calls Tryd.prog 149 #[.agg #[.slice T.AS T.nS T.cS, .slice T.AC T.nC T.cC, .slice T.AK T.nK T.cK, .int .i64 T.L, .int .i64 T.W], .agg #[.int .i64 s, .int .i64 k, .int .i64 a, .int .i64 f, .bool x], .int .i64 y, .int .i64 n, .int .i64 d] w fun e w' => e = .returned (.tuple #[.int .i64 0, .int .i64 0]) ∧ Below w.heap.size w w' := by
  have K1 : Bx ((w.alloc (.cells #[.slice T.AS T.nS T.cS, .slice T.AC T.nC T.cC, .slice T.AK T.nK T.cK, .int .i64 T.L, .int .i64 T.W] 71)).alloc (.cells #[.int .i64 s, .int .i64 k, .int .i64 a, .int .i64 f, .bool x] 83)) w.heap.size 71 [.slice T.AS T.nS T.cS, .slice T.AC T.nC T.cC, .slice T.AK T.nK T.cK, .int .i64 T.L, .int .i64 T.W] := (bx_new w [.slice T.AS T.nS T.cS, .slice T.AC T.nC T.cC, .slice T.AK T.nK T.cK, .int .i64 T.L, .int .i64 T.W] 71).alloc _
  have K2 : Bx ((w.alloc (.cells #[.slice T.AS T.nS T.cS, .slice T.AC T.nC T.cC, .slice T.AK T.nK T.cK, .int .i64 T.L, .int .i64 T.W] 71)).alloc (.cells #[.int .i64 s, .int .i64 k, .int .i64 a, .int .i64 f, .bool x] 83)) (w.heap.size + 1) 83 [.int .i64 s, .int .i64 k, .int .i64 a, .int .i64 f, .bool x] := bx_at _ [.int .i64 s, .int .i64 k, .int .i64 a, .int .i64 f, .bool x] 83 (by simp)
  have B : Below w.heap.size w ((w.alloc (.cells #[.slice T.AS T.nS T.cS, .slice T.AC T.nC T.cC, .slice T.AK T.nK T.cK, .int .i64 T.L, .int .i64 T.W] 71)).alloc (.cells #[.int .i64 s, .int .i64 k, .int .i64 a, .int .i64 f, .bool x] 83)) := ((Below.refl _ _).alloc (Nat.le_refl _) _).alloc (by simp) _
  have h2 := h.below (show Below w.heap.size w ((w.alloc (.cells #[.slice T.AS T.nS T.cS, .slice T.AC T.nC T.cC, .slice T.AK T.nK T.cK, .int .i64 T.L, .int .i64 T.W] 71)).alloc (.cells #[.int .i64 s, .int .i64 k, .int .i64 a, .int .i64 f, .bool x] 83)) from B)
  clear h
  have t0 := K1.cell (i := 0) rfl
  have t1 := K1.cell (i := 1) rfl
  have t2 := K1.cell (i := 2) rfl
  have t3 := K1.cell (i := 3) rfl
  have t4 := K1.cell (i := 4) rfl
  have c0 := K2.cell (i := 0) rfl
  have c1 := K2.cell (i := 1) rfl
  have c2 := K2.cell (i := 2) rfl
  have c3 := K2.cell (i := 3) rfl
  have c4 := K2.cell (i := 4) rfl
  go_enter Tryd.func149, Tryd.ntmps149
  go_wp2_with (fail)
  with_reducible refine (cg _ h2).mono ?_
  rintro e w1 ⟨v, rfl, hv, hb⟩
  rw [hL] at hv
  have hv0 : v = .slice none 0 0 ∨ ∃ g cap, v = .slice (some ⟨g, 0, none⟩) 0 cap := by
    rcases hv.2 with ⟨h1, _⟩ | ⟨g, cap, cur, hv, _⟩
    · exact .inl h1
    · exact .inr ⟨g, cap, hv⟩
  have B1 := below_step B hb B.size
  clear hv
  rcases hv0 with rfl | ⟨g, cap, rfl⟩
  all_goals
    go_wp2
    go_ret2
    exact ⟨rfl, B1⟩
theorem exact_some (T : TB) (s k a f : Int) (x : Bool) (y n d : Int) (w : World) (h : SchM w T.AS T.nS T.S) (hok : Okb (gF (taxL (T.S s.toNat) k f n d)) (gR (taxL (T.S s.toNat) k f n d)) (gE (taxL (T.S s.toNat) k f n d)) (taxL (T.S s.toNat) k f n d).length) (cg : ∀ w, SchM w T.AS T.nS T.S → Calls Tryd.prog 172 #[.agg #[.slice T.AS T.nS T.cS, .slice T.AC T.nC T.cC, .slice T.AK T.nK T.cK, .int .i64 T.L, .int .i64 T.W], .agg #[.int .i64 s, .int .i64 k, .int .i64 a, .int .i64 f, .bool x], .int .i64 y, .int .i64 n, .int .i64 d] w (ChgP T s k a f y n d w)) :
    Calls Tryd.prog 149 #[.agg #[.slice T.AS T.nS T.cS, .slice T.AC T.nC T.cC, .slice T.AK T.nK T.cK, .int .i64 T.L, .int .i64 T.W], .agg #[.int .i64 s, .int .i64 k, .int .i64 a, .int .i64 f, .bool x], .int .i64 y, .int .i64 n, .int .i64 d] w fun e w' => e = .returned (.tuple #[.int .i64 (Gl (taxL (T.S s.toNat) k f n d) (chargeV s k a f y n d).1), .int .i64 0]) ∧ Below w.heap.size w w' := by
  have K1 : Bx ((w.alloc (.cells #[.slice T.AS T.nS T.cS, .slice T.AC T.nC T.cC, .slice T.AK T.nK T.cK, .int .i64 T.L, .int .i64 T.W] 71)).alloc (.cells #[.int .i64 s, .int .i64 k, .int .i64 a, .int .i64 f, .bool x] 83)) w.heap.size 71 [.slice T.AS T.nS T.cS, .slice T.AC T.nC T.cC, .slice T.AK T.nK T.cK, .int .i64 T.L, .int .i64 T.W] := (bx_new w [.slice T.AS T.nS T.cS, .slice T.AC T.nC T.cC, .slice T.AK T.nK T.cK, .int .i64 T.L, .int .i64 T.W] 71).alloc _
  have K2 : Bx ((w.alloc (.cells #[.slice T.AS T.nS T.cS, .slice T.AC T.nC T.cC, .slice T.AK T.nK T.cK, .int .i64 T.L, .int .i64 T.W] 71)).alloc (.cells #[.int .i64 s, .int .i64 k, .int .i64 a, .int .i64 f, .bool x] 83)) (w.heap.size + 1) 83 [.int .i64 s, .int .i64 k, .int .i64 a, .int .i64 f, .bool x] := bx_at _ [.int .i64 s, .int .i64 k, .int .i64 a, .int .i64 f, .bool x] 83 (by simp)
  have B : Below w.heap.size w ((w.alloc (.cells #[.slice T.AS T.nS T.cS, .slice T.AC T.nC T.cC, .slice T.AK T.nK T.cK, .int .i64 T.L, .int .i64 T.W] 71)).alloc (.cells #[.int .i64 s, .int .i64 k, .int .i64 a, .int .i64 f, .bool x] 83)) := ((Below.refl _ _).alloc (Nat.le_refl _) _).alloc (by simp) _
  have h2 := h.below (show Below w.heap.size w ((w.alloc (.cells #[.slice T.AS T.nS T.cS, .slice T.AC T.nC T.cC, .slice T.AK T.nK T.cK, .int .i64 T.L, .int .i64 T.W] 71)).alloc (.cells #[.int .i64 s, .int .i64 k, .int .i64 a, .int .i64 f, .bool x] 83)) from B)
  clear h
  have t0 := K1.cell (i := 0) rfl
  have t1 := K1.cell (i := 1) rfl
  have t2 := K1.cell (i := 2) rfl
  have t3 := K1.cell (i := 3) rfl
  have t4 := K1.cell (i := 4) rfl
  have c0 := K2.cell (i := 0) rfl
  have c1 := K2.cell (i := 1) rfl
  have c2 := K2.cell (i := 2) rfl
  have c3 := K2.cell (i := 3) rfl
  have c4 := K2.cell (i := 4) rfl
  have cb : amtB (chargeV s k a f y n d).1 = true := by
    have := chargeV_bd (s := s) (k := k) (a := a) (f := f) (x := y) (n := n) (d := d)
    exact amtB_mk (by omega) this.2
  unfold ChgP at cg
  have hlen := hok.1
  generalize taxL (T.S s.toNat) k f n d = L at *
  generalize (chargeV s k a f y n d).1 = cv at *
  have hl0 : ((L.length : Int) == 0) = false := beq_eq_false_iff_ne.2 (by omega)
  go_enter Tryd.func149, Tryd.ntmps149
  go_wp2_with (fail)
  with_reducible refine (cg _ h2).mono ?_
  rintro e w1 ⟨v, rfl, hv, hb⟩
  have B1 := below_step B hb B.size
  obtain ⟨g, cap, rfl, ex⟩ := exact_rw hok cv cb hv
  have ex1 := ex w1 (Below.refl _ _)
  clear hv ex hok cb
  go_wp2_with (fail)
  with_reducible refine ex1.mono ?_
  rintro e w2 ⟨rfl, hb2⟩
  have B2 := below_step B1 hb2 B1.size
  go_wp2
  go_ret2
  exact ⟨rfl, B2⟩
/-- tax.Exact of tables that may be -/
theorem exact_tab (T : TB) (s k a f : Int) (x : Bool) (y n d : Int) (w : World) (h : SchM w T.AS T.nS T.S) (hz : Szs T) (hT : TOk T) (ha : -9223372036854775808 ≤ a) (ha2 : a ≤ 9223372036854775807) :
    Calls Tryd.prog 149 #[.agg #[.slice T.AS T.nS T.cS, .slice T.AC T.nC T.cC, .slice T.AK T.nK T.cK, .int .i64 T.L, .int .i64 T.W], .agg #[.int .i64 s, .int .i64 k, .int .i64 a, .int .i64 f, .bool x], .int .i64 y, .int .i64 n, .int .i64 d] w fun e w' => e = .returned (.tuple #[.int .i64 (exactT T s k a f y n d).1, .int .i64 (exactT T s k a f y n d).2]) ∧ Below w.heap.size w w' := by
  by_cases h1 : fitsV T s k a f = 0
  · by_cases h2 : (chargeV s k a f y n d).2 = 0
    · have e : exactT T s k a f y n d = (refE (T.S s.toNat) k f n d (chargeV s k a f y n d).1, 0) := by unfold exactT; rw [if_neg (by simpa using h1), if_neg (by simpa using h2)]
      have rg := chargeV_rng h2
      rw [e]
      dsimp only
      rw [← taxL_ref hT (fitsV_zero h1) rg.2.1 rg.2.2.2.1 rg.2.2.1 chargeV_bd.1]
      have cg := fun w h => charge_tab T s k a f x y n d h1 h2 w h hz hT ha ha2
      by_cases h4 : k = 4
      · have hL : taxL (T.S s.toNat) k f n d = [] := by unfold taxL; rw [if_pos h4]
        have := exact_none T s k a f x y n d w h hL cg
        rw [hL]
        exact this
      · exact exact_some T s k a f x y n d w h (taxL_ok hT (fitsV_zero h1) rg.2.1 rg.2.2.2.1 rg.2.2.1 h4) cg
    · have e : exactT T s k a f y n d = (0, (chargeV s k a f y n d).2) := by unfold exactT; rw [if_neg (by simpa using h1), if_pos h2]
      rw [e]
      exact exact_bad T s k a f x y n d _ (by simpa using h2) w h (fun w h => charge_bad T s k a f x y n d _ h1 rfl (by simpa using h2) w h hz ha ha2)
  · have e : exactT T s k a f y n d = (0, fitsV T s k a f) := by unfold exactT; rw [if_pos h1]
    rw [e]
    exact exact_bad T s k a f x y n d _ (by simpa using h1) w h (fun w h => charge_fits T s k a f x y n d _ rfl (by simpa using h1) w h hz ha ha2)
end Go.Proofs.YtffihnbpjcgicaaDoor
