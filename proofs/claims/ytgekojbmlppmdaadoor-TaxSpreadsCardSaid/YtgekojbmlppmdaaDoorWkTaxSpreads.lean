/- The walk of the law TaxSpreads. -/
import Derived.Test.YtgekojbmlppmdaaDoorTaxH
import Derived.Test.YtgekojbmlppmdaaDoorTaxS
import Derived.Test.YtgekojbmlppmdaaDoorOpenX
import Derived.BigQuiet
namespace Go.Proofs.YtgekojbmlppmdaaDoor
open Go.RowKit Go.Sort
set_option linter.unusedVariables false
set_option linter.unusedSimpArgs false

theorem lfit_yes {T : TB} {s k a f n d : Int} (h : lfitB T s k a f n d = true) : TG T ∧ Fit3 T s k a f ∧ fitsV T s k a f = 0 ∧ 0 ≤ n ∧ 1 ≤ d ∧ n ≤ d ∧ d ≤ 1048576 := by
  unfold lfitB at h
  simp only [Bool.and_eq_true, beq_iff_eq, decide_eq_true_eq] at h
  obtain ⟨⟨⟨⟨⟨⟨⟨⟨_, _⟩, _⟩, h4⟩, h5⟩, h6⟩, h7⟩, h8⟩, h9⟩ := h
  exact ⟨tg_of h4, fitsV_zero h5, h5, h6, h7, h8, h9⟩
theorem row_keep {w w' : World} {A : Option Addr} {n : Nat} {g : Nat → Value} (h : rowAt w A n g) (hb : Below w.heap.size w w') : rowAt w' A n g := fun h0 => by
  obtain ⟨b, o, hA, hc⟩ := h h0
  exact ⟨b, o, hA, fun i hi => cell_later hb (hc i hi)⟩
/-- the sum of the first i -/
def spS (z : Nat → Int) : Nat → Int
  | 0 => 0
  | i + 1 => spS z i + z i
theorem spS_bd {z : Nat → Int} : ∀ {i : Nat}, (∀ j, j < i → -1000000000 ≤ z j ∧ z j ≤ 1000000000) → -1000000000 * (i : Int) ≤ spS z i ∧ spS z i ≤ 1000000000 * (i : Int)
  | 0, _ => by simp [spS]
  | i + 1, h => by
    have ih := spS_bd (z := z) (i := i) fun j hj => h j (by omega)
    have hi := h i (by omega)
    show _ ≤ spS z i + z i ∧ spS z i + z i ≤ _
    omega
def gA (s k a f : Int) (z : Nat → Int) (i : Nat) : St := ⟨s, k, a, f, false, z i⟩
def gB (s k a f u : Int) (i : Nat) : St := ⟨s, k, a, f, false, if i = 0 then u else 0⟩
def lA (s k a f : Int) (z : Nat → Int) (i : Nat) : List St := (List.range i).map (gA s k a f z)
def lB (s k a f u : Int) (i : Nat) : List St := (List.range i).map (gB s k a f u)
theorem lA_succ (s k a f : Int) (z : Nat → Int) (i : Nat) : lA s k a f z (i + 1) = lA s k a f z i ++ [gA s k a f z i] := by simp [lA, List.range_succ]
theorem lB_succ (s k a f u : Int) (i : Nat) : lB s k a f u (i + 1) = lB s k a f u i ++ [gB s k a f u i] := by simp [lB, List.range_succ]
theorem lB_succ0 (s k a f : Int) (i : Nat) : lB s k a f 0 (i + 1) = lB s k a f 0 i ++ [⟨s, k, a, f, false, 0⟩] := by rw [lB_succ]; simp [gB]
theorem lA_len (s k a f : Int) (z : Nat → Int) (i : Nat) : (lA s k a f z i).length = i := by simp [lA]
theorem lB_len (s k a f u : Int) (i : Nat) : (lB s k a f u i).length = i := by simp [lB]
theorem lA_get (s k a f : Int) (z : Nat → Int) {n i : Nat} (h : i < n) : (lA s k a f z n)[i]? = some (gA s k a f z i) := by simp [lA, List.getElem?_map, List.getElem?_range h]
theorem lB_get (s k a f u : Int) {n i : Nat} (h : i < n) : (lB s k a f u n)[i]? = some (gB s k a f u i) := by simp [lB, List.getElem?_map, List.getElem?_range h]
theorem lB_set (s k a f u v : Int) (i : Nat) : sc (lB s k a f v (i + 1)) = (sc (lB s k a f u (i + 1))).set 5 (.int .i64 v) := by
  have e : ∀ u, lB s k a f u (i + 1) = ⟨s, k, a, f, false, u⟩ :: (List.range i).map (fun j => (⟨s, k, a, f, false, 0⟩ : St)) := fun u => by
    unfold lB
    rw [List.range_succ_eq_map, List.map_cons, List.map_map]
    rfl
  rw [e, e, sc_cons, sc_cons]
  rfl
theorem sA_is (s k a f : Int) (z : Nat → Int) (i : Nat) : tyS (gA s k a f z) i = spS z i := by
  induction i with
  | zero => rfl
  | succ i ih => show tyS (gA s k a f z) i + z i = _; rw [ih]; rfl
theorem sB_is (s k a f u : Int) (i : Nat) : tyS (gB s k a f u) (i + 1) = u := by
  induction i with
  | zero => show 0 + (if 0 = 0 then u else 0) = u; simp
  | succ i ih => show tyS (gB s k a f u) (i + 1) + (if i + 1 = 0 then u else 0) = u; rw [ih]; simp
theorem bx_add {W : World} {p : Nat} {t : TypeId} {l : List Value} (h : Bx W p t l) : ∀ j u, l[j]? = some u → W.cell? ((⟨p, 0, none⟩ : Addr).add j) = some u := fun j u hu => by
  rw [Go.WideShapes.add_plain, Nat.zero_add]
  exact h.cell hu
theorem tw_first {w : World} {B : Nat} {v : Value} {L : List St} {m : Nat} (h : w.ownsRow B 64 6 v (m + 1) (sc L)) (hm : L.length = m + 1) : ∃ g cap, v = .slice (some ⟨g, 0, none⟩) (m + 1) cap ∧ B ≤ g ∧ g < w.heap.size ∧ (∃ u, w.cell? ⟨g, 5, none⟩ = some (.int .i64 u)) ∧ w.frozen? ⟨g, 5, none⟩ = false := by
  rcases h.2 with ⟨_, h0⟩ | ⟨g, cap, cur, hv, hg, hh, h1, h2, h3, h4⟩
  · omega
  · refine ⟨g, cap, hv, hg, (Array.getElem?_eq_some_iff.1 hh).1, ?_, ?_⟩
    · obtain ⟨s, M, e⟩ : ∃ s M, L = s :: M := by
        cases L with
        | nil => simp at hm
        | cons s M => exact ⟨s, M, rfl⟩
      have := h.cells (g := g) (by rw [hv]; rfl) 5 (.int .i64 s.y) (by rw [e, sc_cons]; rfl)
      rw [Go.WideShapes.add_plain, Nat.zero_add] at this
      exact ⟨_, this⟩
    · simp [World.frozen?, hh]
theorem sts_later {w w' : World} {A : Option Addr} {n : Nat} {G : Nat → St} (h : Sts w A n G) (hb : Below w.heap.size w w') : Sts w' A n G := fun h0 => by
  obtain ⟨g, o, hA, hc⟩ := h h0
  refine ⟨g, o, hA, fun i hi => ?_⟩
  obtain ⟨h0, h1, h2, h3, h4, h5⟩ := hc i hi
  exact ⟨cell_later hb h0, cell_later hb h1, cell_later hb h2, cell_later hb h3, cell_later hb h4, cell_later hb h5⟩
theorem iw_get {w : World} {B : Nat} {v : Value} {l : List Int} (h : Iw w B v l) {m : Nat} (hn : l.length = m) {n : Nat} {y : Int} (hy : l[n]? = some y) : ∃ g cap, v = .slice (some ⟨g, 0, none⟩) m cap ∧ w.cell? ⟨g, n, none⟩ = some (.int .i64 y) := by
  have hlt : n < l.length := (List.getElem?_eq_some_iff.1 hy).1
  rcases h.2 with ⟨_, h0⟩ | ⟨g, cap, cur, hv, hg, hh, _⟩
  · omega
  · rw [hn] at hv
    refine ⟨g, cap, hv, ?_⟩
    have := h.cells (g := g) (by rw [hv]; rfl) n (.int .i64 y) (by simp [iv, hy])
    rwa [Go.WideShapes.add_plain, Nat.zero_add] at this
theorem due_zero {T : TB} (hT : TG T) {s k a f y n d : Int} (hc : Fit3 T s k a f) (hz : fitsV T s k a f = 0) (hn : 0 ≤ n) (hd : 1 ≤ d) (hnd : n ≤ d) (hd2 : d ≤ 1048576) (h1 : -60000000000 ≤ y) (h2 : y ≤ 60000000000) : (dueT T s k a f y n d).2 = 0 := by
  unfold dueT
  rw [exact_is hT.ok hc hz (by omega) (by omega) (by omega) (by omega) h1 h2, if_neg (by simp)]
/-- what the law's loop holds of both rows -/
def SpI (B : Nat) (la lb : List St) (ua ub : Value) (X : World) : Prop :=
  Tw X B ua la ∧ Tw X B ub lb ∧ (∀ j, ua.ownBlock = some j → ub.ownBlock ≠ some j)
set_option maxRecDepth 100000 in
set_option maxHeartbeats 8000000 in
theorem tp_no (T : TB) (s k a f : Int) (x : Bool) (A : Option Addr) (m q : Nat) (z : Nat → Int) (w : World) (h : Tm w T) (hF : TFits T) (hK : Kinds w) (hr : rowAt w A m fun i => .int .i64 (z i)) (hm : m ≤ 9223372036854775807) (ha : -9223372036854775808 ≤ a) (ha2 : a ≤ 9223372036854775807) (g : lfitB T s k a f 1 1 = false) :
    Calls Tryd.prog 7 #[.agg #[.slice T.AS T.nS T.cS, .slice T.AC T.nC T.cC, .slice T.AK T.nK T.cK, .int .i64 T.L, .int .i64 T.W], .agg #[.int .i64 s, .int .i64 k, .int .i64 a, .int .i64 f, .bool x], .slice A m q] w fun e w' => e = .returned (.bool true) ∧ Below w.heap.size w w' := by
  have lf := fun w h => lfit_any T s k a f x 1 1 w h hF ha ha2
  rw [g] at lf
  clear hF g
  have K0 : Bx ((w.alloc (.cells #[.slice T.AS T.nS T.cS, .slice T.AC T.nC T.cC, .slice T.AK T.nK T.cK, .int .i64 T.L, .int .i64 T.W] 26)).alloc (.cells #[.int .i64 s, .int .i64 k, .int .i64 a, .int .i64 f, .bool x] 28)) (w.heap.size) 26 [.slice T.AS T.nS T.cS, .slice T.AC T.nC T.cC, .slice T.AK T.nK T.cK, .int .i64 T.L, .int .i64 T.W] := (bx_new w [.slice T.AS T.nS T.cS, .slice T.AC T.nC T.cC, .slice T.AK T.nK T.cK, .int .i64 T.L, .int .i64 T.W] 26).alloc _
  have K1 : Bx ((w.alloc (.cells #[.slice T.AS T.nS T.cS, .slice T.AC T.nC T.cC, .slice T.AK T.nK T.cK, .int .i64 T.L, .int .i64 T.W] 26)).alloc (.cells #[.int .i64 s, .int .i64 k, .int .i64 a, .int .i64 f, .bool x] 28)) (w.heap.size + 1) 28 [.int .i64 s, .int .i64 k, .int .i64 a, .int .i64 f, .bool x] := bx_at _ [.int .i64 s, .int .i64 k, .int .i64 a, .int .i64 f, .bool x] 28 (by simp)
  have B : Below w.heap.size w ((w.alloc (.cells #[.slice T.AS T.nS T.cS, .slice T.AC T.nC T.cC, .slice T.AK T.nK T.cK, .int .i64 T.L, .int .i64 T.W] 26)).alloc (.cells #[.int .i64 s, .int .i64 k, .int .i64 a, .int .i64 f, .bool x] 28)) := (((Below.refl _ _).alloc (Nat.le_refl _) _).alloc (by simp) _)
  replace h := h.below (show Below w.heap.size w ((w.alloc (.cells #[.slice T.AS T.nS T.cS, .slice T.AC T.nC T.cC, .slice T.AK T.nK T.cK, .int .i64 T.L, .int .i64 T.W] 26)).alloc (.cells #[.int .i64 s, .int .i64 k, .int .i64 a, .int .i64 f, .bool x] 28)) from B)
  have k0_0 := K0.cell (i := 0) rfl
  have k0_1 := K0.cell (i := 1) rfl
  have k0_2 := K0.cell (i := 2) rfl
  have k0_3 := K0.cell (i := 3) rfl
  have k0_4 := K0.cell (i := 4) rfl
  have k1_0 := K1.cell (i := 0) rfl
  have k1_1 := K1.cell (i := 1) rfl
  have k1_2 := K1.cell (i := 2) rfl
  have k1_3 := K1.cell (i := 3) rfl
  have k1_4 := K1.cell (i := 4) rfl
  have du := dues_any ((w.alloc (.cells #[.slice T.AS T.nS T.cS, .slice T.AC T.nC T.cC, .slice T.AK T.nK T.cK, .int .i64 T.L, .int .i64 T.W] 26)).alloc (.cells #[.int .i64 s, .int .i64 k, .int .i64 a, .int .i64 f, .bool x] 28)) (hK.below B)
  replace hK := hK.below (show Below w.heap.size w ((w.alloc (.cells #[.slice T.AS T.nS T.cS, .slice T.AC T.nC T.cC, .slice T.AK T.nK T.cK, .int .i64 T.L, .int .i64 T.W] 26)).alloc (.cells #[.int .i64 s, .int .i64 k, .int .i64 a, .int .i64 f, .bool x] 28)) from B)
  replace hr := row_keep hr (show Below w.heap.size w ((w.alloc (.cells #[.slice T.AS T.nS T.cS, .slice T.AC T.nC T.cC, .slice T.AK T.nK T.cK, .int .i64 T.L, .int .i64 T.W] 26)).alloc (.cells #[.int .i64 s, .int .i64 k, .int .i64 a, .int .i64 f, .bool x] 28)) from B)
  go_enter Tryd.func7, Tryd.ntmps7
  go_wp2_with (fail)
  with_reducible refine (du).mono ?_
  rintro e w1 ⟨rfl, hb⟩
  clear k0_0 k0_1 k0_2 k0_3 k0_4 k1_0 k1_1 k1_2 k1_3 k1_4
  replace K0 := K0.below hb
  replace K1 := K1.below hb
  replace h := h.below hb
  replace hK := hK.below hb
  replace hr := row_keep hr hb
  replace B := below_step B hb B.size
  clear hb
  have k0_0 := K0.cell (i := 0) rfl
  have k0_1 := K0.cell (i := 1) rfl
  have k0_2 := K0.cell (i := 2) rfl
  have k0_3 := K0.cell (i := 3) rfl
  have k0_4 := K0.cell (i := 4) rfl
  have k1_0 := K1.cell (i := 0) rfl
  have k1_1 := K1.cell (i := 1) rfl
  have k1_2 := K1.cell (i := 2) rfl
  have k1_3 := K1.cell (i := 3) rfl
  have k1_4 := K1.cell (i := 4) rfl
  go_wp2_with (fail)
  with_reducible refine (new_ok 4 2024 4 6 (by omega) (by omega) yrB_24 _ hK).mono ?_
  rintro e w2 ⟨p, rfl, hp, hY, hb⟩
  clear k0_0 k0_1 k0_2 k0_3 k0_4 k1_0 k1_1 k1_2 k1_3 k1_4
  replace K0 := K0.below hb
  replace K1 := K1.below hb
  replace h := h.below hb
  replace hK := hK.below hb
  replace hr := row_keep hr hb
  replace B := below_step B hb B.size
  clear hb
  have k0_0 := K0.cell (i := 0) rfl
  have k0_1 := K0.cell (i := 1) rfl
  have k0_2 := K0.cell (i := 2) rfl
  have k0_3 := K0.cell (i := 3) rfl
  have k0_4 := K0.cell (i := 4) rfl
  have k1_0 := K1.cell (i := 0) rfl
  have k1_1 := K1.cell (i := 1) rfl
  have k1_2 := K1.cell (i := 2) rfl
  have k1_3 := K1.cell (i := 3) rfl
  have k1_4 := K1.cell (i := 4) rfl
  go_wp2_with (fail)
  with_reducible refine (lf _ h).mono ?_
  rintro e w3 ⟨rfl, hb⟩
  clear k0_0 k0_1 k0_2 k0_3 k0_4 k1_0 k1_1 k1_2 k1_3 k1_4
  replace K0 := K0.below hb
  replace K1 := K1.below hb
  replace h := h.below hb
  replace hr := row_keep hr hb
  replace hY := hY.below hb
  replace B := below_step B hb B.size
  clear hb
  have k0_0 := K0.cell (i := 0) rfl
  have k0_1 := K0.cell (i := 1) rfl
  have k0_2 := K0.cell (i := 2) rfl
  have k0_3 := K0.cell (i := 3) rfl
  have k0_4 := K0.cell (i := 4) rfl
  have k1_0 := K1.cell (i := 0) rfl
  have k1_1 := K1.cell (i := 1) rfl
  have k1_2 := K1.cell (i := 2) rfl
  have k1_3 := K1.cell (i := 3) rfl
  have k1_4 := K1.cell (i := 4) rfl
  go_wp2
  go_ret
  exact ⟨rfl, B⟩
set_option maxRecDepth 100000 in
set_option maxHeartbeats 8000000 in
theorem tp_alone (T : TB) (s k a f : Int) (A : Option Addr) (m q : Nat) (z : Nat → Int) (w : World) (h : Tm w T) (hF : TFits T) (hK : Kinds w) (hr : rowAt w A m fun i => .int .i64 (z i)) (hm : m ≤ 9223372036854775807) (ha : -9223372036854775808 ≤ a) (ha2 : a ≤ 9223372036854775807) (g : lfitB T s k a f 1 1 = true) :
    Calls Tryd.prog 7 #[.agg #[.slice T.AS T.nS T.cS, .slice T.AC T.nC T.cC, .slice T.AK T.nK T.cK, .int .i64 T.L, .int .i64 T.W], .agg #[.int .i64 s, .int .i64 k, .int .i64 a, .int .i64 f, .bool true], .slice A m q] w fun e w' => e = .returned (.bool true) ∧ Below w.heap.size w w' := by
  have lf := fun w h => lfit_any T s k a f true 1 1 w h hF ha ha2
  rw [g] at lf
  clear hF g
  have K0 : Bx ((w.alloc (.cells #[.slice T.AS T.nS T.cS, .slice T.AC T.nC T.cC, .slice T.AK T.nK T.cK, .int .i64 T.L, .int .i64 T.W] 26)).alloc (.cells #[.int .i64 s, .int .i64 k, .int .i64 a, .int .i64 f, .bool true] 28)) (w.heap.size) 26 [.slice T.AS T.nS T.cS, .slice T.AC T.nC T.cC, .slice T.AK T.nK T.cK, .int .i64 T.L, .int .i64 T.W] := (bx_new w [.slice T.AS T.nS T.cS, .slice T.AC T.nC T.cC, .slice T.AK T.nK T.cK, .int .i64 T.L, .int .i64 T.W] 26).alloc _
  have K1 : Bx ((w.alloc (.cells #[.slice T.AS T.nS T.cS, .slice T.AC T.nC T.cC, .slice T.AK T.nK T.cK, .int .i64 T.L, .int .i64 T.W] 26)).alloc (.cells #[.int .i64 s, .int .i64 k, .int .i64 a, .int .i64 f, .bool true] 28)) (w.heap.size + 1) 28 [.int .i64 s, .int .i64 k, .int .i64 a, .int .i64 f, .bool true] := bx_at _ [.int .i64 s, .int .i64 k, .int .i64 a, .int .i64 f, .bool true] 28 (by simp)
  have B : Below w.heap.size w ((w.alloc (.cells #[.slice T.AS T.nS T.cS, .slice T.AC T.nC T.cC, .slice T.AK T.nK T.cK, .int .i64 T.L, .int .i64 T.W] 26)).alloc (.cells #[.int .i64 s, .int .i64 k, .int .i64 a, .int .i64 f, .bool true] 28)) := (((Below.refl _ _).alloc (Nat.le_refl _) _).alloc (by simp) _)
  replace h := h.below (show Below w.heap.size w ((w.alloc (.cells #[.slice T.AS T.nS T.cS, .slice T.AC T.nC T.cC, .slice T.AK T.nK T.cK, .int .i64 T.L, .int .i64 T.W] 26)).alloc (.cells #[.int .i64 s, .int .i64 k, .int .i64 a, .int .i64 f, .bool true] 28)) from B)
  have k0_0 := K0.cell (i := 0) rfl
  have k0_1 := K0.cell (i := 1) rfl
  have k0_2 := K0.cell (i := 2) rfl
  have k0_3 := K0.cell (i := 3) rfl
  have k0_4 := K0.cell (i := 4) rfl
  have k1_0 := K1.cell (i := 0) rfl
  have k1_1 := K1.cell (i := 1) rfl
  have k1_2 := K1.cell (i := 2) rfl
  have k1_3 := K1.cell (i := 3) rfl
  have k1_4 := K1.cell (i := 4) rfl
  have du := dues_any ((w.alloc (.cells #[.slice T.AS T.nS T.cS, .slice T.AC T.nC T.cC, .slice T.AK T.nK T.cK, .int .i64 T.L, .int .i64 T.W] 26)).alloc (.cells #[.int .i64 s, .int .i64 k, .int .i64 a, .int .i64 f, .bool true] 28)) (hK.below B)
  replace hK := hK.below (show Below w.heap.size w ((w.alloc (.cells #[.slice T.AS T.nS T.cS, .slice T.AC T.nC T.cC, .slice T.AK T.nK T.cK, .int .i64 T.L, .int .i64 T.W] 26)).alloc (.cells #[.int .i64 s, .int .i64 k, .int .i64 a, .int .i64 f, .bool true] 28)) from B)
  replace hr := row_keep hr (show Below w.heap.size w ((w.alloc (.cells #[.slice T.AS T.nS T.cS, .slice T.AC T.nC T.cC, .slice T.AK T.nK T.cK, .int .i64 T.L, .int .i64 T.W] 26)).alloc (.cells #[.int .i64 s, .int .i64 k, .int .i64 a, .int .i64 f, .bool true] 28)) from B)
  go_enter Tryd.func7, Tryd.ntmps7
  go_wp2_with (fail)
  with_reducible refine (du).mono ?_
  rintro e w1 ⟨rfl, hb⟩
  clear k0_0 k0_1 k0_2 k0_3 k0_4 k1_0 k1_1 k1_2 k1_3 k1_4
  replace K0 := K0.below hb
  replace K1 := K1.below hb
  replace h := h.below hb
  replace hK := hK.below hb
  replace hr := row_keep hr hb
  replace B := below_step B hb B.size
  clear hb
  have k0_0 := K0.cell (i := 0) rfl
  have k0_1 := K0.cell (i := 1) rfl
  have k0_2 := K0.cell (i := 2) rfl
  have k0_3 := K0.cell (i := 3) rfl
  have k0_4 := K0.cell (i := 4) rfl
  have k1_0 := K1.cell (i := 0) rfl
  have k1_1 := K1.cell (i := 1) rfl
  have k1_2 := K1.cell (i := 2) rfl
  have k1_3 := K1.cell (i := 3) rfl
  have k1_4 := K1.cell (i := 4) rfl
  go_wp2_with (fail)
  with_reducible refine (new_ok 4 2024 4 6 (by omega) (by omega) yrB_24 _ hK).mono ?_
  rintro e w2 ⟨p, rfl, hp, hY, hb⟩
  clear k0_0 k0_1 k0_2 k0_3 k0_4 k1_0 k1_1 k1_2 k1_3 k1_4
  replace K0 := K0.below hb
  replace K1 := K1.below hb
  replace h := h.below hb
  replace hK := hK.below hb
  replace hr := row_keep hr hb
  replace B := below_step B hb B.size
  clear hb
  have k0_0 := K0.cell (i := 0) rfl
  have k0_1 := K0.cell (i := 1) rfl
  have k0_2 := K0.cell (i := 2) rfl
  have k0_3 := K0.cell (i := 3) rfl
  have k0_4 := K0.cell (i := 4) rfl
  have k1_0 := K1.cell (i := 0) rfl
  have k1_1 := K1.cell (i := 1) rfl
  have k1_2 := K1.cell (i := 2) rfl
  have k1_3 := K1.cell (i := 3) rfl
  have k1_4 := K1.cell (i := 4) rfl
  go_wp2_with (fail)
  with_reducible refine (lf _ h).mono ?_
  rintro e w3 ⟨rfl, hb⟩
  clear k0_0 k0_1 k0_2 k0_3 k0_4 k1_0 k1_1 k1_2 k1_3 k1_4
  replace K0 := K0.below hb
  replace K1 := K1.below hb
  replace h := h.below hb
  replace hr := row_keep hr hb
  replace hY := hY.below hb
  replace B := below_step B hb B.size
  clear hb
  have k0_0 := K0.cell (i := 0) rfl
  have k0_1 := K0.cell (i := 1) rfl
  have k0_2 := K0.cell (i := 2) rfl
  have k0_3 := K0.cell (i := 3) rfl
  have k0_4 := K0.cell (i := 4) rfl
  have k1_0 := K1.cell (i := 0) rfl
  have k1_1 := K1.cell (i := 1) rfl
  have k1_2 := K1.cell (i := 2) rfl
  have k1_3 := K1.cell (i := 3) rfl
  have k1_4 := K1.cell (i := 4) rfl
  go_wp2
  go_ret
  exact ⟨rfl, B⟩
set_option maxRecDepth 100000 in
set_option maxHeartbeats 8000000 in
theorem tp_zero (T : TB) (s k a f : Int) (A : Option Addr) (m q : Nat) (z : Nat → Int) (w : World) (h : Tm w T) (hF : TFits T) (hK : Kinds w) (hr : rowAt w A m fun i => .int .i64 (z i)) (hm : m ≤ 9223372036854775807) (ha : -9223372036854775808 ≤ a) (ha2 : a ≤ 9223372036854775807) (g : lfitB T s k a f 1 1 = true) (hm0 : m = 0) :
    Calls Tryd.prog 7 #[.agg #[.slice T.AS T.nS T.cS, .slice T.AC T.nC T.cC, .slice T.AK T.nK T.cK, .int .i64 T.L, .int .i64 T.W], .agg #[.int .i64 s, .int .i64 k, .int .i64 a, .int .i64 f, .bool false], .slice A m q] w fun e w' => e = .returned (.bool true) ∧ Below w.heap.size w w' := by
  have lf := fun w h => lfit_any T s k a f false 1 1 w h hF ha ha2
  rw [g] at lf
  subst hm0
  clear hF g
  have K0 : Bx ((w.alloc (.cells #[.slice T.AS T.nS T.cS, .slice T.AC T.nC T.cC, .slice T.AK T.nK T.cK, .int .i64 T.L, .int .i64 T.W] 26)).alloc (.cells #[.int .i64 s, .int .i64 k, .int .i64 a, .int .i64 f, .bool false] 28)) (w.heap.size) 26 [.slice T.AS T.nS T.cS, .slice T.AC T.nC T.cC, .slice T.AK T.nK T.cK, .int .i64 T.L, .int .i64 T.W] := (bx_new w [.slice T.AS T.nS T.cS, .slice T.AC T.nC T.cC, .slice T.AK T.nK T.cK, .int .i64 T.L, .int .i64 T.W] 26).alloc _
  have K1 : Bx ((w.alloc (.cells #[.slice T.AS T.nS T.cS, .slice T.AC T.nC T.cC, .slice T.AK T.nK T.cK, .int .i64 T.L, .int .i64 T.W] 26)).alloc (.cells #[.int .i64 s, .int .i64 k, .int .i64 a, .int .i64 f, .bool false] 28)) (w.heap.size + 1) 28 [.int .i64 s, .int .i64 k, .int .i64 a, .int .i64 f, .bool false] := bx_at _ [.int .i64 s, .int .i64 k, .int .i64 a, .int .i64 f, .bool false] 28 (by simp)
  have B : Below w.heap.size w ((w.alloc (.cells #[.slice T.AS T.nS T.cS, .slice T.AC T.nC T.cC, .slice T.AK T.nK T.cK, .int .i64 T.L, .int .i64 T.W] 26)).alloc (.cells #[.int .i64 s, .int .i64 k, .int .i64 a, .int .i64 f, .bool false] 28)) := (((Below.refl _ _).alloc (Nat.le_refl _) _).alloc (by simp) _)
  replace h := h.below (show Below w.heap.size w ((w.alloc (.cells #[.slice T.AS T.nS T.cS, .slice T.AC T.nC T.cC, .slice T.AK T.nK T.cK, .int .i64 T.L, .int .i64 T.W] 26)).alloc (.cells #[.int .i64 s, .int .i64 k, .int .i64 a, .int .i64 f, .bool false] 28)) from B)
  have k0_0 := K0.cell (i := 0) rfl
  have k0_1 := K0.cell (i := 1) rfl
  have k0_2 := K0.cell (i := 2) rfl
  have k0_3 := K0.cell (i := 3) rfl
  have k0_4 := K0.cell (i := 4) rfl
  have k1_0 := K1.cell (i := 0) rfl
  have k1_1 := K1.cell (i := 1) rfl
  have k1_2 := K1.cell (i := 2) rfl
  have k1_3 := K1.cell (i := 3) rfl
  have k1_4 := K1.cell (i := 4) rfl
  have du := dues_any ((w.alloc (.cells #[.slice T.AS T.nS T.cS, .slice T.AC T.nC T.cC, .slice T.AK T.nK T.cK, .int .i64 T.L, .int .i64 T.W] 26)).alloc (.cells #[.int .i64 s, .int .i64 k, .int .i64 a, .int .i64 f, .bool false] 28)) (hK.below B)
  replace hK := hK.below (show Below w.heap.size w ((w.alloc (.cells #[.slice T.AS T.nS T.cS, .slice T.AC T.nC T.cC, .slice T.AK T.nK T.cK, .int .i64 T.L, .int .i64 T.W] 26)).alloc (.cells #[.int .i64 s, .int .i64 k, .int .i64 a, .int .i64 f, .bool false] 28)) from B)
  replace hr := row_keep hr (show Below w.heap.size w ((w.alloc (.cells #[.slice T.AS T.nS T.cS, .slice T.AC T.nC T.cC, .slice T.AK T.nK T.cK, .int .i64 T.L, .int .i64 T.W] 26)).alloc (.cells #[.int .i64 s, .int .i64 k, .int .i64 a, .int .i64 f, .bool false] 28)) from B)
  go_enter Tryd.func7, Tryd.ntmps7
  go_wp2_with (fail)
  with_reducible refine (du).mono ?_
  rintro e w1 ⟨rfl, hb⟩
  clear k0_0 k0_1 k0_2 k0_3 k0_4 k1_0 k1_1 k1_2 k1_3 k1_4
  replace K0 := K0.below hb
  replace K1 := K1.below hb
  replace h := h.below hb
  replace hK := hK.below hb
  replace hr := row_keep hr hb
  replace B := below_step B hb B.size
  clear hb
  have k0_0 := K0.cell (i := 0) rfl
  have k0_1 := K0.cell (i := 1) rfl
  have k0_2 := K0.cell (i := 2) rfl
  have k0_3 := K0.cell (i := 3) rfl
  have k0_4 := K0.cell (i := 4) rfl
  have k1_0 := K1.cell (i := 0) rfl
  have k1_1 := K1.cell (i := 1) rfl
  have k1_2 := K1.cell (i := 2) rfl
  have k1_3 := K1.cell (i := 3) rfl
  have k1_4 := K1.cell (i := 4) rfl
  go_wp2_with (fail)
  with_reducible refine (new_ok 4 2024 4 6 (by omega) (by omega) yrB_24 _ hK).mono ?_
  rintro e w2 ⟨p, rfl, hp, hY, hb⟩
  clear k0_0 k0_1 k0_2 k0_3 k0_4 k1_0 k1_1 k1_2 k1_3 k1_4
  replace K0 := K0.below hb
  replace K1 := K1.below hb
  replace h := h.below hb
  replace hK := hK.below hb
  replace hr := row_keep hr hb
  replace B := below_step B hb B.size
  clear hb
  have k0_0 := K0.cell (i := 0) rfl
  have k0_1 := K0.cell (i := 1) rfl
  have k0_2 := K0.cell (i := 2) rfl
  have k0_3 := K0.cell (i := 3) rfl
  have k0_4 := K0.cell (i := 4) rfl
  have k1_0 := K1.cell (i := 0) rfl
  have k1_1 := K1.cell (i := 1) rfl
  have k1_2 := K1.cell (i := 2) rfl
  have k1_3 := K1.cell (i := 3) rfl
  have k1_4 := K1.cell (i := 4) rfl
  go_wp2_with (fail)
  with_reducible refine (lf _ h).mono ?_
  rintro e w3 ⟨rfl, hb⟩
  clear k0_0 k0_1 k0_2 k0_3 k0_4 k1_0 k1_1 k1_2 k1_3 k1_4
  replace K0 := K0.below hb
  replace K1 := K1.below hb
  replace h := h.below hb
  replace hr := row_keep hr hb
  replace hY := hY.below hb
  replace B := below_step B hb B.size
  clear hb
  have k0_0 := K0.cell (i := 0) rfl
  have k0_1 := K0.cell (i := 1) rfl
  have k0_2 := K0.cell (i := 2) rfl
  have k0_3 := K0.cell (i := 3) rfl
  have k0_4 := K0.cell (i := 4) rfl
  have k1_0 := K1.cell (i := 0) rfl
  have k1_1 := K1.cell (i := 1) rfl
  have k1_2 := K1.cell (i := 2) rfl
  have k1_3 := K1.cell (i := 3) rfl
  have k1_4 := K1.cell (i := 4) rfl
  go_wp2
  go_ret
  exact ⟨rfl, B⟩
set_option maxRecDepth 100000 in
set_option maxHeartbeats 8000000 in
theorem tp_many (T : TB) (s k a f : Int) (A : Option Addr) (m q : Nat) (z : Nat → Int) (w : World) (h : Tm w T) (hF : TFits T) (hK : Kinds w) (hr : rowAt w A m fun i => .int .i64 (z i)) (hm : m ≤ 9223372036854775807) (ha : -9223372036854775808 ≤ a) (ha2 : a ≤ 9223372036854775807) (g : lfitB T s k a f 1 1 = true) (hm12 : 12 < m) :
    Calls Tryd.prog 7 #[.agg #[.slice T.AS T.nS T.cS, .slice T.AC T.nC T.cC, .slice T.AK T.nK T.cK, .int .i64 T.L, .int .i64 T.W], .agg #[.int .i64 s, .int .i64 k, .int .i64 a, .int .i64 f, .bool false], .slice A m q] w fun e w' => e = .returned (.bool true) ∧ Below w.heap.size w w' := by
  have lf := fun w h => lfit_any T s k a f false 1 1 w h hF ha ha2
  rw [g] at lf
  have q0 : ((m : Int) == 0) = false := beq_eq_false_iff_ne.2 (by omega)
  have q1 : decide ((12 : Int) < (m : Int)) = true := decide_eq_true (by omega)
  clear hF g
  have K0 : Bx ((w.alloc (.cells #[.slice T.AS T.nS T.cS, .slice T.AC T.nC T.cC, .slice T.AK T.nK T.cK, .int .i64 T.L, .int .i64 T.W] 26)).alloc (.cells #[.int .i64 s, .int .i64 k, .int .i64 a, .int .i64 f, .bool false] 28)) (w.heap.size) 26 [.slice T.AS T.nS T.cS, .slice T.AC T.nC T.cC, .slice T.AK T.nK T.cK, .int .i64 T.L, .int .i64 T.W] := (bx_new w [.slice T.AS T.nS T.cS, .slice T.AC T.nC T.cC, .slice T.AK T.nK T.cK, .int .i64 T.L, .int .i64 T.W] 26).alloc _
  have K1 : Bx ((w.alloc (.cells #[.slice T.AS T.nS T.cS, .slice T.AC T.nC T.cC, .slice T.AK T.nK T.cK, .int .i64 T.L, .int .i64 T.W] 26)).alloc (.cells #[.int .i64 s, .int .i64 k, .int .i64 a, .int .i64 f, .bool false] 28)) (w.heap.size + 1) 28 [.int .i64 s, .int .i64 k, .int .i64 a, .int .i64 f, .bool false] := bx_at _ [.int .i64 s, .int .i64 k, .int .i64 a, .int .i64 f, .bool false] 28 (by simp)
  have B : Below w.heap.size w ((w.alloc (.cells #[.slice T.AS T.nS T.cS, .slice T.AC T.nC T.cC, .slice T.AK T.nK T.cK, .int .i64 T.L, .int .i64 T.W] 26)).alloc (.cells #[.int .i64 s, .int .i64 k, .int .i64 a, .int .i64 f, .bool false] 28)) := (((Below.refl _ _).alloc (Nat.le_refl _) _).alloc (by simp) _)
  replace h := h.below (show Below w.heap.size w ((w.alloc (.cells #[.slice T.AS T.nS T.cS, .slice T.AC T.nC T.cC, .slice T.AK T.nK T.cK, .int .i64 T.L, .int .i64 T.W] 26)).alloc (.cells #[.int .i64 s, .int .i64 k, .int .i64 a, .int .i64 f, .bool false] 28)) from B)
  have k0_0 := K0.cell (i := 0) rfl
  have k0_1 := K0.cell (i := 1) rfl
  have k0_2 := K0.cell (i := 2) rfl
  have k0_3 := K0.cell (i := 3) rfl
  have k0_4 := K0.cell (i := 4) rfl
  have k1_0 := K1.cell (i := 0) rfl
  have k1_1 := K1.cell (i := 1) rfl
  have k1_2 := K1.cell (i := 2) rfl
  have k1_3 := K1.cell (i := 3) rfl
  have k1_4 := K1.cell (i := 4) rfl
  have du := dues_any ((w.alloc (.cells #[.slice T.AS T.nS T.cS, .slice T.AC T.nC T.cC, .slice T.AK T.nK T.cK, .int .i64 T.L, .int .i64 T.W] 26)).alloc (.cells #[.int .i64 s, .int .i64 k, .int .i64 a, .int .i64 f, .bool false] 28)) (hK.below B)
  replace hK := hK.below (show Below w.heap.size w ((w.alloc (.cells #[.slice T.AS T.nS T.cS, .slice T.AC T.nC T.cC, .slice T.AK T.nK T.cK, .int .i64 T.L, .int .i64 T.W] 26)).alloc (.cells #[.int .i64 s, .int .i64 k, .int .i64 a, .int .i64 f, .bool false] 28)) from B)
  replace hr := row_keep hr (show Below w.heap.size w ((w.alloc (.cells #[.slice T.AS T.nS T.cS, .slice T.AC T.nC T.cC, .slice T.AK T.nK T.cK, .int .i64 T.L, .int .i64 T.W] 26)).alloc (.cells #[.int .i64 s, .int .i64 k, .int .i64 a, .int .i64 f, .bool false] 28)) from B)
  go_enter Tryd.func7, Tryd.ntmps7
  go_wp2_with (fail)
  with_reducible refine (du).mono ?_
  rintro e w1 ⟨rfl, hb⟩
  clear k0_0 k0_1 k0_2 k0_3 k0_4 k1_0 k1_1 k1_2 k1_3 k1_4
  replace K0 := K0.below hb
  replace K1 := K1.below hb
  replace h := h.below hb
  replace hK := hK.below hb
  replace hr := row_keep hr hb
  replace B := below_step B hb B.size
  clear hb
  have k0_0 := K0.cell (i := 0) rfl
  have k0_1 := K0.cell (i := 1) rfl
  have k0_2 := K0.cell (i := 2) rfl
  have k0_3 := K0.cell (i := 3) rfl
  have k0_4 := K0.cell (i := 4) rfl
  have k1_0 := K1.cell (i := 0) rfl
  have k1_1 := K1.cell (i := 1) rfl
  have k1_2 := K1.cell (i := 2) rfl
  have k1_3 := K1.cell (i := 3) rfl
  have k1_4 := K1.cell (i := 4) rfl
  go_wp2_with (fail)
  with_reducible refine (new_ok 4 2024 4 6 (by omega) (by omega) yrB_24 _ hK).mono ?_
  rintro e w2 ⟨p, rfl, hp, hY, hb⟩
  clear k0_0 k0_1 k0_2 k0_3 k0_4 k1_0 k1_1 k1_2 k1_3 k1_4
  replace K0 := K0.below hb
  replace K1 := K1.below hb
  replace h := h.below hb
  replace hK := hK.below hb
  replace hr := row_keep hr hb
  replace B := below_step B hb B.size
  clear hb
  have k0_0 := K0.cell (i := 0) rfl
  have k0_1 := K0.cell (i := 1) rfl
  have k0_2 := K0.cell (i := 2) rfl
  have k0_3 := K0.cell (i := 3) rfl
  have k0_4 := K0.cell (i := 4) rfl
  have k1_0 := K1.cell (i := 0) rfl
  have k1_1 := K1.cell (i := 1) rfl
  have k1_2 := K1.cell (i := 2) rfl
  have k1_3 := K1.cell (i := 3) rfl
  have k1_4 := K1.cell (i := 4) rfl
  go_wp2_with (fail)
  with_reducible refine (lf _ h).mono ?_
  rintro e w3 ⟨rfl, hb⟩
  clear k0_0 k0_1 k0_2 k0_3 k0_4 k1_0 k1_1 k1_2 k1_3 k1_4
  replace K0 := K0.below hb
  replace K1 := K1.below hb
  replace h := h.below hb
  replace hr := row_keep hr hb
  replace hY := hY.below hb
  replace B := below_step B hb B.size
  clear hb
  have k0_0 := K0.cell (i := 0) rfl
  have k0_1 := K0.cell (i := 1) rfl
  have k0_2 := K0.cell (i := 2) rfl
  have k0_3 := K0.cell (i := 3) rfl
  have k0_4 := K0.cell (i := 4) rfl
  have k1_0 := K1.cell (i := 0) rfl
  have k1_1 := K1.cell (i := 1) rfl
  have k1_2 := K1.cell (i := 2) rfl
  have k1_3 := K1.cell (i := 3) rfl
  have k1_4 := K1.cell (i := 4) rfl
  go_wp2
  go_ret
  exact ⟨rfl, B⟩
set_option maxRecDepth 100000 in
set_option maxHeartbeats 8000000 in
theorem tp_ok (T : TB) (s k a f : Int) (A : Option Addr) (m q : Nat) (z : Nat → Int) (w : World) (h : Tm w T) (hF : TFits T) (hK : Kinds w) (hr : rowAt w A m fun i => .int .i64 (z i)) (hm : m ≤ 9223372036854775807) (ha : -9223372036854775808 ≤ a) (ha2 : a ≤ 9223372036854775807) (g : lfitB T s k a f 1 1 = true) (hm0 : 0 < m) (hm12 : m ≤ 12) :
    Calls Tryd.prog 7 #[.agg #[.slice T.AS T.nS T.cS, .slice T.AC T.nC T.cC, .slice T.AK T.nK T.cK, .int .i64 T.L, .int .i64 T.W], .agg #[.int .i64 s, .int .i64 k, .int .i64 a, .int .i64 f, .bool false], .slice A m q] w fun e w' => e = .returned (.bool true) ∧ Below w.heap.size w w' := by
  have lf := fun w h => lfit_any T s k a f false 1 1 w h hF ha ha2
  rw [g] at lf
  obtain ⟨tg, f3, fz, _⟩ := lfit_yes g
  have q0 : ((m : Int) == 0) = false := beq_eq_false_iff_ne.2 (by omega)
  have q1 : decide ((12 : Int) < (m : Int)) = false := decide_eq_false (by omega)
  have TGH := Lib.hid tg
  have F3H := Lib.hid f3
  have FZH := Lib.hid fz
  obtain ⟨i0, hi0, hz0, hz1, hz2⟩ := info_parts infoSt
  have Hi := Lib.hid hi0
  have Hz := Lib.hid hz0
  clear hF g tg f3 fz hi0 hz0
  have K0 : Bx ((w.alloc (.cells #[.slice T.AS T.nS T.cS, .slice T.AC T.nC T.cC, .slice T.AK T.nK T.cK, .int .i64 T.L, .int .i64 T.W] 26)).alloc (.cells #[.int .i64 s, .int .i64 k, .int .i64 a, .int .i64 f, .bool false] 28)) (w.heap.size) 26 [.slice T.AS T.nS T.cS, .slice T.AC T.nC T.cC, .slice T.AK T.nK T.cK, .int .i64 T.L, .int .i64 T.W] := (bx_new w [.slice T.AS T.nS T.cS, .slice T.AC T.nC T.cC, .slice T.AK T.nK T.cK, .int .i64 T.L, .int .i64 T.W] 26).alloc _
  have K1 : Bx ((w.alloc (.cells #[.slice T.AS T.nS T.cS, .slice T.AC T.nC T.cC, .slice T.AK T.nK T.cK, .int .i64 T.L, .int .i64 T.W] 26)).alloc (.cells #[.int .i64 s, .int .i64 k, .int .i64 a, .int .i64 f, .bool false] 28)) (w.heap.size + 1) 28 [.int .i64 s, .int .i64 k, .int .i64 a, .int .i64 f, .bool false] := bx_at _ [.int .i64 s, .int .i64 k, .int .i64 a, .int .i64 f, .bool false] 28 (by simp)
  have B : Below w.heap.size w ((w.alloc (.cells #[.slice T.AS T.nS T.cS, .slice T.AC T.nC T.cC, .slice T.AK T.nK T.cK, .int .i64 T.L, .int .i64 T.W] 26)).alloc (.cells #[.int .i64 s, .int .i64 k, .int .i64 a, .int .i64 f, .bool false] 28)) := (((Below.refl _ _).alloc (Nat.le_refl _) _).alloc (by simp) _)
  replace h := h.below (show Below w.heap.size w ((w.alloc (.cells #[.slice T.AS T.nS T.cS, .slice T.AC T.nC T.cC, .slice T.AK T.nK T.cK, .int .i64 T.L, .int .i64 T.W] 26)).alloc (.cells #[.int .i64 s, .int .i64 k, .int .i64 a, .int .i64 f, .bool false] 28)) from B)
  have k0_0 := K0.cell (i := 0) rfl
  have k0_1 := K0.cell (i := 1) rfl
  have k0_2 := K0.cell (i := 2) rfl
  have k0_3 := K0.cell (i := 3) rfl
  have k0_4 := K0.cell (i := 4) rfl
  have k1_0 := K1.cell (i := 0) rfl
  have k1_1 := K1.cell (i := 1) rfl
  have k1_2 := K1.cell (i := 2) rfl
  have k1_3 := K1.cell (i := 3) rfl
  have k1_4 := K1.cell (i := 4) rfl
  have du := dues_any ((w.alloc (.cells #[.slice T.AS T.nS T.cS, .slice T.AC T.nC T.cC, .slice T.AK T.nK T.cK, .int .i64 T.L, .int .i64 T.W] 26)).alloc (.cells #[.int .i64 s, .int .i64 k, .int .i64 a, .int .i64 f, .bool false] 28)) (hK.below B)
  replace hK := hK.below (show Below w.heap.size w ((w.alloc (.cells #[.slice T.AS T.nS T.cS, .slice T.AC T.nC T.cC, .slice T.AK T.nK T.cK, .int .i64 T.L, .int .i64 T.W] 26)).alloc (.cells #[.int .i64 s, .int .i64 k, .int .i64 a, .int .i64 f, .bool false] 28)) from B)
  replace hr := row_keep hr (show Below w.heap.size w ((w.alloc (.cells #[.slice T.AS T.nS T.cS, .slice T.AC T.nC T.cC, .slice T.AK T.nK T.cK, .int .i64 T.L, .int .i64 T.W] 26)).alloc (.cells #[.int .i64 s, .int .i64 k, .int .i64 a, .int .i64 f, .bool false] 28)) from B)
  go_enter Tryd.func7, Tryd.ntmps7
  go_wp2_with (fail)
  with_reducible refine (du).mono ?_
  rintro e w1 ⟨rfl, hb⟩
  clear k0_0 k0_1 k0_2 k0_3 k0_4 k1_0 k1_1 k1_2 k1_3 k1_4
  replace K0 := K0.below hb
  replace K1 := K1.below hb
  replace h := h.below hb
  replace hK := hK.below hb
  replace hr := row_keep hr hb
  replace B := below_step B hb B.size
  clear hb
  have k0_0 := K0.cell (i := 0) rfl
  have k0_1 := K0.cell (i := 1) rfl
  have k0_2 := K0.cell (i := 2) rfl
  have k0_3 := K0.cell (i := 3) rfl
  have k0_4 := K0.cell (i := 4) rfl
  have k1_0 := K1.cell (i := 0) rfl
  have k1_1 := K1.cell (i := 1) rfl
  have k1_2 := K1.cell (i := 2) rfl
  have k1_3 := K1.cell (i := 3) rfl
  have k1_4 := K1.cell (i := 4) rfl
  go_wp2_with (fail)
  with_reducible refine (new_ok 4 2024 4 6 (by omega) (by omega) yrB_24 _ hK).mono ?_
  rintro e w2 ⟨p, rfl, hp, hY, hb⟩
  clear k0_0 k0_1 k0_2 k0_3 k0_4 k1_0 k1_1 k1_2 k1_3 k1_4
  replace K0 := K0.below hb
  replace K1 := K1.below hb
  replace h := h.below hb
  replace hK := hK.below hb
  replace hr := row_keep hr hb
  replace B := below_step B hb B.size
  clear hb
  have k0_0 := K0.cell (i := 0) rfl
  have k0_1 := K0.cell (i := 1) rfl
  have k0_2 := K0.cell (i := 2) rfl
  have k0_3 := K0.cell (i := 3) rfl
  have k0_4 := K0.cell (i := 4) rfl
  have k1_0 := K1.cell (i := 0) rfl
  have k1_1 := K1.cell (i := 1) rfl
  have k1_2 := K1.cell (i := 2) rfl
  have k1_3 := K1.cell (i := 3) rfl
  have k1_4 := K1.cell (i := 4) rfl
  go_wp2_with (fail)
  with_reducible refine (lf _ h).mono ?_
  rintro e w3 ⟨rfl, hb⟩
  clear k0_0 k0_1 k0_2 k0_3 k0_4 k1_0 k1_1 k1_2 k1_3 k1_4
  replace K0 := K0.below hb
  replace K1 := K1.below hb
  replace h := h.below hb
  replace hr := row_keep hr hb
  replace hY := hY.below hb
  replace B := below_step B hb B.size
  clear hb
  have k0_0 := K0.cell (i := 0) rfl
  have k0_1 := K0.cell (i := 1) rfl
  have k0_2 := K0.cell (i := 2) rfl
  have k0_3 := K0.cell (i := 3) rfl
  have k0_4 := K0.cell (i := 4) rfl
  have k1_0 := K1.cell (i := 0) rfl
  have k1_1 := K1.cell (i := 1) rfl
  have k1_2 := K1.cell (i := 2) rfl
  have k1_3 := K1.cell (i := 3) rfl
  have k1_4 := K1.cell (i := 4) rfl
  have hS := h.s
  clear h lf du
  have Bw := Below.refl w3.heap.size w3
  go_wp2
  go_loopw [9, 10, 11, 55] (fun ua ub u j X => ∃ i : Nat, i ≤ m ∧ j = .int .i64 i ∧ u = .int .i64 (spS z i) ∧ SpI w3.heap.size (lA s k a f z i) (lB s k a f (if i = m then spS z m else 0) i) ua ub X ∧ (∀ j, j < i → -1000000000 ≤ z j ∧ z j ≤ 1000000000) ∧ Below w3.heap.size w3 X) (fun _ _ _ j _ => m - (intOf j).toNat)
  case atStart => exact ⟨0, Nat.zero_le _, rfl, rfl, ⟨World.ownsRow_nil _ _ _ _, World.ownsRow_nil _ _ _ _, fun j hj => by simp [Value.ownBlock] at hj⟩, fun j hj => absurd hj (Nat.not_lt_zero _), Bw⟩
  case round =>
    clear Bw
    obtain ⟨i, hi, rfl, rfl, ⟨OA, OB, hsep⟩, hz, hbX⟩ := hrel
    by_cases hlt : i < m
    · obtain ⟨b, o, rfl, hc⟩ := hr (by omega)
      have hcell := cell_later hbX (hc i hlt)
      by_cases hin : -1000000000 ≤ z i ∧ z i ≤ 1000000000
      · have l0 : decide (1000000000 < z i) = false := decide_eq_false (by omega)
        have l1 : decide (z i < -1000000000) = false := decide_eq_false (by omega)
        have HZN : Hid (∀ j, j < i + 1 → -1000000000 ≤ z j ∧ z j ≤ 1000000000) := Lib.hid fun j hj => by
          by_cases e : j = i
          · subst e; exact hin
          · exact hz j (by omega)
        have hsb := spS_bd hz
        have hsb2 := spS_bd HZN.out
        have hsn : wrap64 (spS z i + z i) = spS z (i + 1) := IntWalk.wrap64_in _ (by omega)
        rw [if_neg (by omega)] at OB
        have HLA := Lib.hid (lA_succ s k a f z i)
        have HLB := Lib.hid (lB_succ0 s k a f i)
        have hla := lA_len s k a f z i
        have hlb := lB_len s k a f 0 i
        have HO := Lib.hid OA
        have HOB := Lib.hid OB
        have HSEP := Lib.hid hsep
        have hk1 := K1.lt
        replace K1 := K1.below hbX
        have k1_0 := K1.cell (i := 0) rfl
        have k1_1 := K1.cell (i := 1) rfl
        have k1_2 := K1.cell (i := 2) rfl
        have k1_3 := K1.cell (i := 3) rfl
        have k1_4 := K1.cell (i := 4) rfl
        clear OA OB hsep hz hc hS hY
        have hc3 : (lA s k a f z i).length + 1 ≤ maxLen := by unfold maxLen; omega
        have hc4 : ((lA s k a f z i).length + 1) * 48 ≤ 140737488355328 := by omega
        have hd3 : (lB s k a f 0 i).length + 1 ≤ maxLen := by unfold maxLen; omega
        have hd4 : ((lB s k a f 0 i).length + 1) * 48 ≤ 140737488355328 := by omega
        have hcA := bx_add (bx_new wr [.int .i64 s, .int .i64 k, .int .i64 a, .int .i64 f, .bool false, .int .i64 (z i)] 64)
        have hc2 : ∀ v ∈ ([.int .i64 s, .int .i64 k, .int .i64 a, .int .i64 f, .bool false, .int .i64 (z i)] : List Value), v.oneCell' = true := by simp [Value.oneCell']
        have hd2 : ∀ v ∈ ([.int .i64 s, .int .i64 k, .int .i64 a, .int .i64 f, .bool false, .int .i64 0] : List Value), v.oneCell' = true := by simp [Value.oneCell']
        have hc5 : w3.heap.size ≤ (wr.alloc (.cells #[.int .i64 s, .int .i64 k, .int .i64 a, .int .i64 f, .bool false, .int .i64 (z i)] 64)).heap.size := by have := hbX.size; simp; omega
        have hkey : (((i : Int) == (m : Int) - 1) = true ∧ i + 1 = m) ∨ (((i : Int) == (m : Int) - 1) = false ∧ i + 1 < m) := by
          by_cases e : i + 1 = m
          · exact .inl ⟨by simp; omega, e⟩
          · exact .inr ⟨by simp; omega, by omega⟩
        have HLAL := Lib.hid hla
        have HLBL := Lib.hid hlb
        clear hla hlb hin
        rcases hkey with ⟨lq, hlast⟩ | ⟨lq, hlast⟩
        all_goals
          have HLAST := Lib.hid hlast
          clear hlast
          go_wp2_with (at_builtin; first
            | (refine wpList_append_own_at _ rfl _ _ 54 rfl w3.heap.size 64 i0 (.agg #[.int .i64 0, .int .i64 0, .int .i64 0, .int .i64 0, .bool false, .int .i64 0]) 6 48 Tryd.underlying54 Hi.out Hz.out hz1 hz2 rfl (by decide) _ _ _ rfl (HO.out.alloc _) ⟨wr.heap.size, 0, none⟩ 1 1 [.int .i64 s, .int .i64 k, .int .i64 a, .int .i64 f, .bool false, .int .i64 (z i)] rfl rfl hcA hc2 hc3 hc4 hc5 ?_
               intro va wa hownA hgA _ hobA
               have sepA : ∀ j, va.ownBlock = some j → u10.ownBlock ≠ some j := fun j hj hb => by
                 rcases hobA with h | h
                 · exact HSEP.out j (h.symm.trans hj) hb
                 · have h2 := (HOB.out.lt j hb).2
                   rw [h] at hj
                   simp at hj
                   omega
               have OB2 : wa.ownsRow w3.heap.size 64 6 u10 (lB s k a f 0 i).length (sc (lB s k a f 0 i)) := (HOB.out.alloc _).kept hgA (by
                 cases hub : u10.ownBlock with
                 | none => exact .inl rfl
                 | some j => exact .inr fun e => HSEP.out j e.symm hub)
               have Ba := (hbX.alloc hbX.size (Obj.cells #[.int .i64 s, .int .i64 k, .int .i64 a, .int .i64 f, .bool false, .int .i64 (z i)] 64)).grown hgA hc5 (fun k hk => (HO.out.lt k hk).1)
               have K1a : Bx wa (w.heap.size + 1) 28 [.int .i64 s, .int .i64 k, .int .i64 a, .int .i64 f, .bool false] := (K1.alloc _).of_block (hgA.block _ (K1.alloc _).lt (fun e => by have := (HO.out.lt _ e.symm).1; omega))
               have OA2 : wa.ownsRow w3.heap.size 64 6 va ((lA s k a f z i).length + 1) (sc (lA s k a f z (i + 1))) := by rw [HLA.out, sc_app]; exact hownA
               have hcB := bx_add (bx_new wa [.int .i64 s, .int .i64 k, .int .i64 a, .int .i64 f, .bool false, .int .i64 0] 64)
               have hd5 : w3.heap.size ≤ (wa.alloc (.cells #[.int .i64 s, .int .i64 k, .int .i64 a, .int .i64 f, .bool false, .int .i64 0] 64)).heap.size := by have := Ba.size; simp; omega
               clear hownA hgA hobA hcA hc2 hc3 hc4 hc5 HO HOB k1_0 k1_1 k1_2 k1_3 k1_4
               have k1_0 := K1a.cell (i := 0) rfl
               have k1_1 := K1a.cell (i := 1) rfl
               have k1_2 := K1a.cell (i := 2) rfl
               have k1_3 := K1a.cell (i := 3) rfl
               have k1_4 := K1a.cell (i := 4) rfl
               have HOB := Lib.hid OB2
               have HSA := Lib.hid sepA
               have HOA := Lib.hid OA2
               clear OB2 sepA OA2)
            | (refine wpList_append_own_at _ rfl _ _ 54 rfl w3.heap.size 64 i0 (.agg #[.int .i64 0, .int .i64 0, .int .i64 0, .int .i64 0, .bool false, .int .i64 0]) 6 48 Tryd.underlying54 Hi.out Hz.out hz1 hz2 rfl (by decide) _ _ _ rfl (HOB.out.alloc _) ⟨wa.heap.size, 0, none⟩ 1 1 [.int .i64 s, .int .i64 k, .int .i64 a, .int .i64 f, .bool false, .int .i64 0] rfl rfl hcB hd2 hd3 hd4 hd5 ?_
               intro vb wb hownB hgB _ hobB
               have OB3 : wb.ownsRow w3.heap.size 64 6 vb (i + 1) (sc (lB s k a f 0 (i + 1))) := by rw [HLB.out, sc_app]; have := hownB; rw [HLBL.out] at this; exact this
               have OA3 : wb.ownsRow w3.heap.size 64 6 va (i + 1) (sc (lA s k a f z (i + 1))) := by
                 have := (HOA.out.alloc (Obj.cells #[.int .i64 s, .int .i64 k, .int .i64 a, .int .i64 f, .bool false, .int .i64 0] 64)).kept hgB (by
                   cases hva : va.ownBlock with
                   | none => exact .inl rfl
                   | some j => exact .inr fun e => HSA.out j hva e.symm)
                 rw [HLAL.out] at this
                 exact this
               have sepB : ∀ j, va.ownBlock = some j → vb.ownBlock ≠ some j := fun j hj hb => by
                 rcases hobB with h | h
                 · exact HSA.out j hj (h.symm.trans hb)
                 · have h2 := (HOA.out.lt j hj).2
                   rw [h] at hb
                   simp at hb
                   omega
               have Bb := (Ba.alloc Ba.size (Obj.cells #[.int .i64 s, .int .i64 k, .int .i64 a, .int .i64 f, .bool false, .int .i64 0] 64)).grown hgB hd5 (fun k hk => (HOB.out.lt k hk).1)
               clear hownB hgB hobB hcB hd2 hd3 hd4 hd5 HOB HOA k1_0 k1_1 k1_2 k1_3 k1_4
               obtain ⟨gb, capb, rfl, hgb1, hgb2, ⟨u0, hcu⟩, hfr⟩ := tw_first OB3 (lB_len _ _ _ _ _ _)))
        · have hl : i + 1 = m := HLAST.out
          have OB4 := own_set OB3 5 (by rw [sc_len, lB_len]; omega) (.int .i64 (spS z (i + 1)))
          have OA4 := own_sep OA3 (fun e => sepB gb e rfl) 5 (.int .i64 (spS z (i + 1)))
          refine ⟨⟨i + 1, by omega, by go_num, by rw [hsn], ⟨?_, ?_, sepB⟩, HZN.out, Bb.setCell (p := ⟨gb, 5, none⟩) hgb1 _⟩, ?_⟩
          · show World.ownsRow _ _ _ _ _ (lA s k a f z (i + 1)).length _
            rw [lA_len]; exact OA4
          · show World.ownsRow _ _ _ _ _ (lB s k a f _ (i + 1)).length _
            rw [if_pos hl, lB_len, ← hl, lB_set s k a f 0 (spS z (i + 1)) i]
            exact OB4
          · simp [intOf]; omega
        · have hl : i + 1 < m := HLAST.out
          refine ⟨⟨i + 1, by omega, by go_num, by rw [hsn], ⟨?_, ?_, sepB⟩, HZN.out, Bb⟩, ?_⟩
          · show World.ownsRow _ _ _ _ _ (lA s k a f z (i + 1)).length _
            rw [lA_len]; exact OA3
          · show World.ownsRow _ _ _ _ _ (lB s k a f _ (i + 1)).length _
            rw [if_neg (by omega), lB_len]
            exact OB3
          · simp [intOf]; omega
      · have key : decide (1000000000 < z i) = true ∨ (decide (1000000000 < z i) = false ∧ decide (z i < -1000000000) = true) := by
          by_cases e : 1000000000 < z i
          · exact .inl (decide_eq_true e)
          · exact .inr ⟨decide_eq_false e, decide_eq_true (by omega)⟩
        have B2 := below_step B hbX B.size
        clear hin hz hc hS hY OA OB hsep
        rcases key with l0 | ⟨l0, l1⟩
        all_goals
          go_wp2
          go_ret
          exact ⟨rfl, B2⟩
    · obtain rfl : i = m := by omega
      have tg := TGH.out
      have f3 := F3H.out
      have fz := FZH.out
      have sb := fun j (hj : j ≤ i) => spS_bd (z := z) (i := j) fun j' hj' => hz j' (by omega)
      have sb0 := sb i (Nat.le_refl _)
      rw [if_pos rfl] at OB
      have yA := year_one tg f3 fz (G := gA s k a f z) (fun i => ⟨rfl, rfl, rfl, rfl, rfl⟩) hm12 (fun j hj => by rw [sA_is]; have := sb j hj; omega) (fun j hj => by have := hz j hj; show _ ≤ z j ∧ z j ≤ _; omega)
      have yB := year_one tg f3 fz (G := gB s k a f (spS z i)) (fun i => ⟨rfl, rfl, rfl, rfl, rfl⟩) hm12 (fun j hj => by
        cases j with
        | zero => show (-60000000000 : Int) ≤ 0 ∧ (0 : Int) ≤ 60000000000; omega
        | succ j => rw [sB_is]; omega) (fun j hj => by
        show _ ≤ (if j = 0 then spS z i else 0) ∧ (if j = 0 then spS z i else 0) ≤ _
        split <;> omega)
      obtain ⟨n, hn⟩ : ∃ n, i = n + 1 := ⟨i - 1, by omega⟩
      have dA := yA.2 n (by omega)
      have dB := yB.2 n (by omega)
      rw [sA_is, show ((n : Int) + 1) = (i : Int) by omega, ← hn] at dA
      rw [sB_is, show ((n : Int) + 1) = (i : Int) by omega] at dB
      have gdA : (tyL 12 12 T (gA s k a f z) i)[n]? = some (dueT T s k a f (spS z i) i 12).1 := by
        rw [← dA]; unfold tyL; rw [List.getElem?_map, List.getElem?_range (by omega)]; simp [hn]
      have gdB : (tyL 12 12 T (gB s k a f (spS z i)) i)[n]? = some (dueT T s k a f (spS z i) i 12).1 := by
        rw [← dB]; unfold tyL; rw [List.getElem?_map, List.getElem?_range (by omega)]; simp
      have hd0 := due_zero (y := spS z i) (n := i) (d := 12) tg f3 fz (by omega) (by omega) (by omega) (by omega) (by omega) (by omega)
      have hbd := due_bd tg s k a f (spS z i) i 12
      have FA : ∀ j, j < i → (gA s k a f z j).F := fun j hj => ⟨⟨ha, ha2⟩, by have := hz j hj; show _ ≤ z j ∧ z j ≤ _; omega⟩
      have FB : ∀ j, j < i → (gB s k a f (spS z i) j).F := fun j hj => ⟨⟨ha, ha2⟩, by
        show _ ≤ (if j = 0 then spS z i else 0) ∧ (if j = 0 then spS z i else 0) ≤ _
        split <;> omega⟩
      obtain ⟨ba, ca, hua, SA⟩ := tw_sts OA (by rw [lA_len]; omega) (gA s k a f z) (fun j hj => by rw [lA_len] at hj; exact lA_get s k a f z hj)
      obtain ⟨bb, cb, hub, SB⟩ := tw_sts OB (by rw [lB_len]; omega) (gB s k a f (spS z i)) (fun j hj => by rw [lB_len] at hj; exact lB_get s k a f (spS z i) hj)
      rw [lA_len] at hua SA
      rw [lB_len] at hub SB
      subst hua
      subst hub
      have B2 := below_step B hbX B.size
      replace K0 := K0.below hbX
      replace K1 := K1.below hbX
      have hS2 := hS.below hbX
      have hY2 := hY.below hbX
      have hw : wrap64 ((i : Int) - 1) = (n : Int) := by rw [IntWalk.wrap64_in _ (by omega)]; omega
      clear hbX OA OB hsep hz sb dA dB hS hY hr
      have HN := Lib.hid hn
      have HSB := Lib.hid sb0
      clear hn sb0
      have k0_0 := K0.cell (i := 0) rfl
      have k0_1 := K0.cell (i := 1) rfl
      have k0_2 := K0.cell (i := 2) rfl
      have k0_3 := K0.cell (i := 3) rfl
      have k0_4 := K0.cell (i := 4) rfl
      have k1_0 := K1.cell (i := 0) rfl
      have k1_1 := K1.cell (i := 1) rfl
      have k1_2 := K1.cell (i := 2) rfl
      have k1_3 := K1.cell (i := 3) rfl
      have k1_4 := K1.cell (i := 4) rfl
      go_wp2_with (fail)
      with_reducible refine (tyear_tab T p 4 2024 4 6 _ _ _ _ wr hS2 tg hY2 yrB_24 (by decide) (by decide) SA FA (by rw [cnt_24]; omega) (by omega)).mono ?_
      rintro e w5 ⟨hok, _, hb⟩
      rw [nom_4, cnt_24] at hok
      obtain ⟨u, rfl, IA⟩ := hok yA.1
      clear hok SA
      replace SB := sts_later SB hb
      clear k0_0 k0_1 k0_2 k0_3 k0_4 k1_0 k1_1 k1_2 k1_3 k1_4
      replace K0 := K0.below hb
      replace K1 := K1.below hb
      replace hS2 := hS2.below hb
      replace hY2 := hY2.below hb
      replace B2 := below_step B2 hb B2.size
      clear hb
      have k0_0 := K0.cell (i := 0) rfl
      have k0_1 := K0.cell (i := 1) rfl
      have k0_2 := K0.cell (i := 2) rfl
      have k0_3 := K0.cell (i := 3) rfl
      have k0_4 := K0.cell (i := 4) rfl
      have k1_0 := K1.cell (i := 0) rfl
      have k1_1 := K1.cell (i := 1) rfl
      have k1_2 := K1.cell (i := 2) rfl
      have k1_3 := K1.cell (i := 3) rfl
      have k1_4 := K1.cell (i := 4) rfl
      go_wp2_with (fail)
      with_reducible refine (tyear_tab T p 4 2024 4 6 _ _ _ _ w5 hS2 tg hY2 yrB_24 (by decide) (by decide) SB FB (by rw [cnt_24]; omega) (by omega)).mono ?_
      rintro e w6 ⟨hok, _, hb⟩
      rw [nom_4, cnt_24] at hok
      obtain ⟨v, rfl, IB⟩ := hok yB.1
      clear hok SB
      replace IA := own_below IA hb
      clear k0_0 k0_1 k0_2 k0_3 k0_4 k1_0 k1_1 k1_2 k1_3 k1_4
      replace K0 := K0.below hb
      replace K1 := K1.below hb
      replace hS2 := hS2.below hb
      replace hY2 := hY2.below hb
      replace B2 := below_step B2 hb B2.size
      clear hb
      have k0_0 := K0.cell (i := 0) rfl
      have k0_1 := K0.cell (i := 1) rfl
      have k0_2 := K0.cell (i := 2) rfl
      have k0_3 := K0.cell (i := 3) rfl
      have k0_4 := K0.cell (i := 4) rfl
      have k1_0 := K1.cell (i := 0) rfl
      have k1_1 := K1.cell (i := 1) rfl
      have k1_2 := K1.cell (i := 2) rfl
      have k1_3 := K1.cell (i := 3) rfl
      have k1_4 := K1.cell (i := 4) rfl
      go_wp2_with (fail)
      with_reducible refine (due_tab T s k a f false (spS z i) i 12 _ hS2 tg ha ha2).mono ?_
      rintro e w7 ⟨rfl, hb⟩
      rw [hd0]
      replace IA := own_below IA hb
      replace IB := own_below IB hb
      clear k0_0 k0_1 k0_2 k0_3 k0_4 k1_0 k1_1 k1_2 k1_3 k1_4
      replace K0 := K0.below hb
      replace K1 := K1.below hb
      replace hS2 := hS2.below hb
      replace hY2 := hY2.below hb
      replace B2 := below_step B2 hb B2.size
      clear hb
      have k0_0 := K0.cell (i := 0) rfl
      have k0_1 := K0.cell (i := 1) rfl
      have k0_2 := K0.cell (i := 2) rfl
      have k0_3 := K0.cell (i := 3) rfl
      have k0_4 := K0.cell (i := 4) rfl
      have k1_0 := K1.cell (i := 0) rfl
      have k1_1 := K1.cell (i := 1) rfl
      have k1_2 := K1.cell (i := 2) rfl
      have k1_3 := K1.cell (i := 3) rfl
      have k1_4 := K1.cell (i := 4) rfl
      clear yA yB FA FB
      generalize (dueT T s k a f (spS z i) i 12).1 = dv at *
      go_wp2_with (fail)
      with_reducible refine (of_amt dv _ hbd.1 hbd.2).mono ?_
      rintro e w8 ⟨rfl, hb⟩
      replace IA := own_below IA hb
      replace IB := own_below IB hb
      clear k0_0 k0_1 k0_2 k0_3 k0_4 k1_0 k1_1 k1_2 k1_3 k1_4
      replace K0 := K0.below hb
      replace K1 := K1.below hb
      replace hS2 := hS2.below hb
      replace hY2 := hY2.below hb
      replace B2 := below_step B2 hb B2.size
      clear hb
      have k0_0 := K0.cell (i := 0) rfl
      have k0_1 := K0.cell (i := 1) rfl
      have k0_2 := K0.cell (i := 2) rfl
      have k0_3 := K0.cell (i := 3) rfl
      have k0_4 := K0.cell (i := 4) rfl
      have k1_0 := K1.cell (i := 0) rfl
      have k1_1 := K1.cell (i := 1) rfl
      have k1_2 := K1.cell (i := 2) rfl
      have k1_3 := K1.cell (i := 3) rfl
      have k1_4 := K1.cell (i := 4) rfl
      obtain ⟨bu, cu, rfl, cuA⟩ := iw_get IA (tyL_len _ _ _ _ _) gdA
      obtain ⟨bv, cv, rfl, cvB⟩ := iw_get IB (tyL_len _ _ _ _ _) gdB
      have er := fun w => exright_b (dv * 10000) true (exB_mk (by omega) (by omega)) w
      obtain rfl : n = i - 1 := by have := HN.out; omega
      have hi1 : (1 : Int) ≤ (i : Int) := by omega
      have hi2 : (i : Int) - 1 < (i : Int) := by omega
      have hi0 : (0 : Int) ≤ (i : Int) - 1 := by omega
      have S1 : w8.drew.cell? ⟨bu, i - 1, none⟩ = some (.int .i64 dv) ∧ w8.drew.cell? ⟨bv, i - 1, none⟩ = some (.int .i64 dv) ∧ Below w8.heap.size w8 w8.drew := ⟨cuA, cvB, (Below.refl _ _).drew⟩
      clear IA IB gdA gdB cuA cvB k0_0 k0_1 k0_2 k0_3 k0_4 k1_0 k1_1 k1_2 k1_3 k1_4
      go_wp2
      go_region_held3 (fun X => X.cell? ⟨bu, i - 1, none⟩ = some (.int .i64 dv) ∧ X.cell? ⟨bv, i - 1, none⟩ = some (.int .i64 dv) ∧ Below w8.heap.size w8 X)
        ((first | exact S1 | assumption))
        (first
          | (go_at_call 28; with_reducible refine (er _).mono ?_; rintro e w9 ⟨rfl, hw9⟩; subst hw9))
      go_wp2
      go_ret
      exact ⟨rfl, B2.drew⟩
theorem wTaxSpreads (T : TB) (s k a f : Int) (x : Bool) (A : Option Addr) (m q : Nat) (z : Nat → Int) (w : World) (hK : Kinds w) (h : Tm w T) (hF : TFits T) (hc : cF s k a f) (hr : rowAt w A m fun i => .int .i64 (z i)) (hm : m ≤ 9223372036854775807) (hz : ∀ i, -9223372036854775808 ≤ z i ∧ z i ≤ 9223372036854775807) :
    Calls Tryd.prog 7 #[.agg #[.slice T.AS T.nS T.cS, .slice T.AC T.nC T.cC, .slice T.AK T.nK T.cK, .int .i64 T.L, .int .i64 T.W], .agg #[.int .i64 s, .int .i64 k, .int .i64 a, .int .i64 f, .bool x], .slice A m q] w fun e w' => e = .returned (.bool true) ∧ Below w.heap.size w w' := by
  have ha := hc.2.2.1.1
  have ha2 := hc.2.2.1.2
  cases g : lfitB T s k a f 1 1
  · exact tp_no T s k a f x A m q z w h hF hK hr hm ha ha2 g
  · cases x
    · by_cases h0 : m = 0
      · exact tp_zero T s k a f A m q z w h hF hK hr hm ha ha2 g h0
      · by_cases h1 : 12 < m
        · exact tp_many T s k a f A m q z w h hF hK hr hm ha ha2 g h1
        · exact tp_ok T s k a f A m q z w h hF hK hr hm ha ha2 g (by omega) (by omega)
    · exact tp_alone T s k a f A m q z w h hF hK hr hm ha ha2 g
end Go.Proofs.YtgekojbmlppmdaaDoor
