/- What the document's own Due and Year answer. -/
import Derived.Test.YtfnjhalpedccaaaDoorTaxG
import Derived.Test.YtfnjhalpedccaaaDoorTaxB
import Derived.Test.YtfnjhalpedccaaaDoorTaxR
import Derived.Test.YtfnjhalpedccaaaDoorBox
import Derived.Test.YtfnjhalpedccaaaDoorTaxS
import Derived.Deep.RegionHeld3
namespace Go.Proofs.YtfnjhalpedccaaaDoor
open Go.RowKit Go.Sort
set_option linter.unusedVariables false
set_option linter.unusedSimpArgs false

set_option maxHeartbeats 4000000 in
theorem rdue_any (T : TB) (s k a f : Int) (x : Bool) (y n d : Int) (w : World) (h : SchM w T.AS T.nS T.S) (hT : TG T) (hc : Fit3 T s k a f) (hz : fitsV T s k a f = 0) (hg : (chargeV s k a f y n d).2 = 0) :
    Calls Tryd.prog 28 #[.agg #[.slice T.AS T.nS T.cS, .slice T.AC T.nC T.cC, .slice T.AK T.nK T.cK, .int .i64 T.L, .int .i64 T.W], .agg #[.int .i64 s, .int .i64 k, .int .i64 a, .int .i64 f, .bool x], .int .i64 y, .int .i64 n, .int .i64 d] w fun e w' => e = .returned (.int .i64 (dueT T s k a f y n d).1) ∧ Below w.heap.size w w' := by
  have e1 : exactT T s k a f y n d = (refE (T.S s.toNat) k f n d (chargeV s k a f y n d).1, 0) := by unfold exactT; rw [if_neg (by simpa using hz), if_neg (by simpa using hg)]
  have e2 : dueT T s k a f y n d = (rnd (refE (T.S s.toNat) k f n d (chargeV s k a f y n d).1) 10000 T.W, 0) := by unfold dueT; rw [e1, if_neg (by simp)]
  obtain ⟨rc, r0, r1, r2, r3⟩ := chargeV_rng hg
  have bd := exactT_bd hT.ok s k a f y n d
  rw [e1] at bd
  have K1 : Bx ((w.alloc (.cells #[.slice T.AS T.nS T.cS, .slice T.AC T.nC T.cC, .slice T.AK T.nK T.cK, .int .i64 T.L, .int .i64 T.W] 26)).alloc (.cells #[.int .i64 s, .int .i64 k, .int .i64 a, .int .i64 f, .bool x] 42)) w.heap.size 26 [.slice T.AS T.nS T.cS, .slice T.AC T.nC T.cC, .slice T.AK T.nK T.cK, .int .i64 T.L, .int .i64 T.W] := (bx_new w [.slice T.AS T.nS T.cS, .slice T.AC T.nC T.cC, .slice T.AK T.nK T.cK, .int .i64 T.L, .int .i64 T.W] 26).alloc _
  have K2 : Bx ((w.alloc (.cells #[.slice T.AS T.nS T.cS, .slice T.AC T.nC T.cC, .slice T.AK T.nK T.cK, .int .i64 T.L, .int .i64 T.W] 26)).alloc (.cells #[.int .i64 s, .int .i64 k, .int .i64 a, .int .i64 f, .bool x] 42)) (w.heap.size + 1) 42 [.int .i64 s, .int .i64 k, .int .i64 a, .int .i64 f, .bool x] := bx_at _ [.int .i64 s, .int .i64 k, .int .i64 a, .int .i64 f, .bool x] 42 (by simp)
  have B : Below w.heap.size w ((w.alloc (.cells #[.slice T.AS T.nS T.cS, .slice T.AC T.nC T.cC, .slice T.AK T.nK T.cK, .int .i64 T.L, .int .i64 T.W] 26)).alloc (.cells #[.int .i64 s, .int .i64 k, .int .i64 a, .int .i64 f, .bool x] 42)) := ((Below.refl _ _).alloc (Nat.le_refl _) _).alloc (by simp) _
  have ex := fun w h => rexact_any T s k a f x y n d w h hT.ok hc hg
  have rr := fun w => rround_any (refE (T.S s.toNat) k f n d (chargeV s k a f y n d).1) T.W w bd.1 bd.2 hT.w
  have h2 := h.below (show Below w.heap.size w ((w.alloc (.cells #[.slice T.AS T.nS T.cS, .slice T.AC T.nC T.cC, .slice T.AK T.nK T.cK, .int .i64 T.L, .int .i64 T.W] 26)).alloc (.cells #[.int .i64 s, .int .i64 k, .int .i64 a, .int .i64 f, .bool x] 42)) from B)
  rw [e2]
  dsimp only at bd ⊢
  generalize refE (T.S s.toNat) k f n d (chargeV s k a f y n d).1 = v at *
  generalize rnd v 10000 T.W = r at *
  clear h hT hc hz hg e1 e2 rc r0 r1 r2 r3 bd
  have t0 := K1.cell (i := 0) rfl
  have t1 := K1.cell (i := 1) rfl
  have t2 := K1.cell (i := 2) rfl
  have t3 := K1.cell (i := 3) rfl
  have t4 := K1.cell (i := 4) rfl
  have c0 := K2.cell (i := 0) rfl
  have c1 := K2.cell (i := 1) rfl
  have c2 := K2.cell (i := 2) rfl
  have c3 := K2.cell (i := 3) rfl
  have c4 := K2.cell (i := 4) rfl
  go_enter Tryd.func28, Tryd.ntmps28
  go_wp2_with (fail)
  generalize (w.alloc (.cells #[.slice T.AS T.nS T.cS, .slice T.AC T.nC T.cC, .slice T.AK T.nK T.cK, .int .i64 T.L, .int .i64 T.W] 26)).alloc (.cells #[.int .i64 s, .int .i64 k, .int .i64 a, .int .i64 f, .bool x] 42) = w0 at *
  have S1 : w0.drew.cell? ⟨w.heap.size, 0, none⟩ = some (.slice T.AS T.nS T.cS) ∧ w0.drew.cell? ⟨w.heap.size, 1, none⟩ = some (.slice T.AC T.nC T.cC) ∧ w0.drew.cell? ⟨w.heap.size, 2, none⟩ = some (.slice T.AK T.nK T.cK) ∧ w0.drew.cell? ⟨w.heap.size, 3, none⟩ = some (.int .i64 T.L) ∧ w0.drew.cell? ⟨w.heap.size, 4, none⟩ = some (.int .i64 T.W) ∧ w0.drew.cell? ⟨w.heap.size + 1, 0, none⟩ = some (.int .i64 s) ∧ w0.drew.cell? ⟨w.heap.size + 1, 1, none⟩ = some (.int .i64 k) ∧ w0.drew.cell? ⟨w.heap.size + 1, 2, none⟩ = some (.int .i64 a) ∧ w0.drew.cell? ⟨w.heap.size + 1, 3, none⟩ = some (.int .i64 f) ∧ w0.drew.cell? ⟨w.heap.size + 1, 4, none⟩ = some (.bool x) ∧ Below w0.heap.size w0 w0.drew := ⟨t0, t1, t2, t3, t4, c0, c1, c2, c3, c4, (Below.refl _ _).drew⟩
  have step : ∀ X Y : World, Below X.heap.size X Y → (X.cell? ⟨w.heap.size, 0, none⟩ = some (.slice T.AS T.nS T.cS) ∧ X.cell? ⟨w.heap.size, 1, none⟩ = some (.slice T.AC T.nC T.cC) ∧ X.cell? ⟨w.heap.size, 2, none⟩ = some (.slice T.AK T.nK T.cK) ∧ X.cell? ⟨w.heap.size, 3, none⟩ = some (.int .i64 T.L) ∧ X.cell? ⟨w.heap.size, 4, none⟩ = some (.int .i64 T.W) ∧ X.cell? ⟨w.heap.size + 1, 0, none⟩ = some (.int .i64 s) ∧ X.cell? ⟨w.heap.size + 1, 1, none⟩ = some (.int .i64 k) ∧ X.cell? ⟨w.heap.size + 1, 2, none⟩ = some (.int .i64 a) ∧ X.cell? ⟨w.heap.size + 1, 3, none⟩ = some (.int .i64 f) ∧ X.cell? ⟨w.heap.size + 1, 4, none⟩ = some (.bool x) ∧ Below w0.heap.size w0 X) → (Y.cell? ⟨w.heap.size, 0, none⟩ = some (.slice T.AS T.nS T.cS) ∧ Y.cell? ⟨w.heap.size, 1, none⟩ = some (.slice T.AC T.nC T.cC) ∧ Y.cell? ⟨w.heap.size, 2, none⟩ = some (.slice T.AK T.nK T.cK) ∧ Y.cell? ⟨w.heap.size, 3, none⟩ = some (.int .i64 T.L) ∧ Y.cell? ⟨w.heap.size, 4, none⟩ = some (.int .i64 T.W) ∧ Y.cell? ⟨w.heap.size + 1, 0, none⟩ = some (.int .i64 s) ∧ Y.cell? ⟨w.heap.size + 1, 1, none⟩ = some (.int .i64 k) ∧ Y.cell? ⟨w.heap.size + 1, 2, none⟩ = some (.int .i64 a) ∧ Y.cell? ⟨w.heap.size + 1, 3, none⟩ = some (.int .i64 f) ∧ Y.cell? ⟨w.heap.size + 1, 4, none⟩ = some (.bool x) ∧ Below w0.heap.size w0 Y) := fun X Y hb h => ⟨cell_later hb h.1, cell_later hb h.2.1, cell_later hb h.2.2.1, cell_later hb h.2.2.2.1, cell_later hb h.2.2.2.2.1, cell_later hb h.2.2.2.2.2.1, cell_later hb h.2.2.2.2.2.2.1, cell_later hb h.2.2.2.2.2.2.2.1, cell_later hb h.2.2.2.2.2.2.2.2.1, cell_later hb h.2.2.2.2.2.2.2.2.2.1, below_step h.2.2.2.2.2.2.2.2.2.2 hb h.2.2.2.2.2.2.2.2.2.2.size⟩
  clear t0 t1 t2 t3 t4 c0 c1 c2 c3 c4
  go_region_held3 (fun X => X.cell? ⟨w.heap.size, 0, none⟩ = some (.slice T.AS T.nS T.cS) ∧ X.cell? ⟨w.heap.size, 1, none⟩ = some (.slice T.AC T.nC T.cC) ∧ X.cell? ⟨w.heap.size, 2, none⟩ = some (.slice T.AK T.nK T.cK) ∧ X.cell? ⟨w.heap.size, 3, none⟩ = some (.int .i64 T.L) ∧ X.cell? ⟨w.heap.size, 4, none⟩ = some (.int .i64 T.W) ∧ X.cell? ⟨w.heap.size + 1, 0, none⟩ = some (.int .i64 s) ∧ X.cell? ⟨w.heap.size + 1, 1, none⟩ = some (.int .i64 k) ∧ X.cell? ⟨w.heap.size + 1, 2, none⟩ = some (.int .i64 a) ∧ X.cell? ⟨w.heap.size + 1, 3, none⟩ = some (.int .i64 f) ∧ X.cell? ⟨w.heap.size + 1, 4, none⟩ = some (.bool x) ∧ Below w0.heap.size w0 X)
    ((first | exact S1 | assumption | exact step _ _ hb (by assumption)))
    (first
      | (go_at_call 49; with_reducible refine (ex _ (h2.below (by first | exact (Below.refl _ _).drew | assumption))).mono ?_; rintro e w1 ⟨rfl, hb⟩)
      | (go_at_call 48; with_reducible refine (rr _).mono ?_; rintro e w2 ⟨rfl, hw2⟩; subst hw2))
  have q : w1.cell? ⟨w.heap.size, 0, none⟩ = some (.slice T.AS T.nS T.cS) ∧ w1.cell? ⟨w.heap.size, 1, none⟩ = some (.slice T.AC T.nC T.cC) ∧ w1.cell? ⟨w.heap.size, 2, none⟩ = some (.slice T.AK T.nK T.cK) ∧ w1.cell? ⟨w.heap.size, 3, none⟩ = some (.int .i64 T.L) ∧ w1.cell? ⟨w.heap.size, 4, none⟩ = some (.int .i64 T.W) ∧ w1.cell? ⟨w.heap.size + 1, 0, none⟩ = some (.int .i64 s) ∧ w1.cell? ⟨w.heap.size + 1, 1, none⟩ = some (.int .i64 k) ∧ w1.cell? ⟨w.heap.size + 1, 2, none⟩ = some (.int .i64 a) ∧ w1.cell? ⟨w.heap.size + 1, 3, none⟩ = some (.int .i64 f) ∧ w1.cell? ⟨w.heap.size + 1, 4, none⟩ = some (.bool x) ∧ Below w0.heap.size w0 w1 := by assumption
  go_wp2
  go_ret
  exact ⟨rfl, below_step B q.2.2.2.2.2.2.2.2.2.2 B.size⟩
theorem chg0 {T : TB} {s k a f n d y : Int} (hc : Fit3 T s k a f) (h1 : 0 ≤ n) (h2 : 1 ≤ d) (h3 : n ≤ d) (h4 : d ≤ 1048576) (hy : -60000000000 ≤ y) (hy2 : y ≤ 60000000000) : (chargeV s k a f y n d).2 = 0 := by
  by_cases hk : k = 4
  · rw [charge_none (y := y) hc h1 h2 h3 h4 hy hy2 hk]
  · rw [charge_is hc h1 h2 h3 h4 hy hy2 hk]
/-- codes in a row in memory -/
def Cds (W : World) (A : Option Addr) (n : Nat) (g : Nat → St) : Prop := 0 < n → ∃ b o, A = some ⟨b, o, none⟩ ∧ ∀ i, i < n →
  W.cell? ⟨b, o + i * 5, none⟩ = some (.int .i64 (g i).s) ∧ W.cell? ⟨b, o + i * 5 + 1, none⟩ = some (.int .i64 (g i).k) ∧ W.cell? ⟨b, o + i * 5 + 2, none⟩ = some (.int .i64 (g i).a) ∧ W.cell? ⟨b, o + i * 5 + 3, none⟩ = some (.int .i64 (g i).f) ∧ W.cell? ⟨b, o + i * 5 + 4, none⟩ = some (.bool (g i).x)
theorem Cds.below {W W' : World} {A : Option Addr} {n : Nat} {g : Nat → St} (h : Cds W A n g) (hb : Below W.heap.size W W') : Cds W' A n g := fun h0 => by
  obtain ⟨b, o, hA, hc⟩ := h h0
  refine ⟨b, o, hA, fun i hi => ?_⟩
  obtain ⟨h0, h1, h2, h3, h4⟩ := hc i hi
  exact ⟨cell_later hb h0, cell_later hb h1, cell_later hb h2, cell_later hb h3, cell_later hb h4⟩
/-- the document's own: due by the end of the first i -/
def rD (nm : Int) (T : TB) (g : Nat → St) : Nat → Int
  | 0 => 0
  | i + 1 => if (g i).x = true then rD nm T g i + (dueT T (g i).s (g i).k (g i).a (g i).f (g i).y 1 nm).1 else (dueT T (g i).s (g i).k (g i).a (g i).f (tyS g (i + 1)) (min ((i : Int) + 1) nm) nm).1
def rL (nm : Int) (T : TB) (g : Nat → St) (n : Nat) : List Int := (List.range n).map fun i => rD nm T g (i + 1)
theorem rL_succ (nm : Int) (T : TB) (g : Nat → St) (n : Nat) : rL nm T g (n + 1) = rL nm T g n ++ [rD nm T g (n + 1)] := by simp [rL, List.range_succ]
theorem rL_len (nm : Int) (T : TB) (g : Nat → St) (n : Nat) : (rL nm T g n).length = n := by simp [rL]
theorem iw_get {w : World} {B : Nat} {v : Value} {l : List Int} (h : Iw w B v l) {m : Nat} (hn : l.length = m) {n : Nat} {y : Int} (hy : l[n]? = some y) : ∃ g cap, v = .slice (some ⟨g, 0, none⟩) m cap ∧ w.cell? ⟨g, n, none⟩ = some (.int .i64 y) := by
  have hlt : n < l.length := (List.getElem?_eq_some_iff.1 hy).1
  rcases h.2 with ⟨_, h0⟩ | ⟨g, cap, cur, hv, hg, hh, _⟩
  · omega
  · rw [hn] at hv
    refine ⟨g, cap, hv, ?_⟩
    have := h.cells (g := g) (by rw [hv]; rfl) n (.int .i64 y) (by simp [iv, hy])
    rwa [Go.WideShapes.add_plain, Nat.zero_add] at this
theorem rD_bd {T : TB} (hT : TG T) (nm : Int) (g : Nat → St) : ∀ i : Nat, 0 ≤ rD nm T g i ∧ rD nm T g i ≤ 100000000000 * ((i : Int) + 1)
  | 0 => by simp [rD]
  | i + 1 => by
    have ih := rD_bd hT nm g i
    unfold rD
    split
    · have := due_bd hT (g i).s (g i).k (g i).a (g i).f (g i).y 1 nm
      omega
    · have := due_bd hT (g i).s (g i).k (g i).a (g i).f (tyS g (i + 1)) (min ((i : Int) + 1) nm) nm
      omega
theorem tyS_bd {g : Nat → St} : ∀ {i : Nat}, (∀ j, j < i → -1000000000 ≤ (g j).y ∧ (g j).y ≤ 1000000000) → -1000000000 * (i : Int) ≤ tyS g i ∧ tyS g i ≤ 1000000000 * (i : Int)
  | 0, _ => by simp [tyS]
  | i + 1, h => by
    have ih := tyS_bd (g := g) (i := i) fun j hj => h j (by omega)
    have hi := h i (by omega)
    show _ ≤ tyS g i + (g i).y ∧ tyS g i + (g i).y ≤ _
    omega
set_option maxRecDepth 100000 in
set_option maxHeartbeats 8000000 in
theorem ryear_any (T : TB) (nm : Int) (A A2 : Option Addr) (n c c2 : Nat) (g : Nat → St) (w : World) (h : SchM w T.AS T.nS T.S) (hT : TG T) (hA : Cds w A n g) (hA2 : rowAt w A2 n fun i => .int .i64 (g i).y) (hg : ∀ i, i < n → Fit3 T (g i).s (g i).k (g i).a (g i).f ∧ fitsV T (g i).s (g i).k (g i).a (g i).f = 0 ∧ -1000000000 ≤ (g i).y ∧ (g i).y ≤ 1000000000) (hn : n ≤ 60) (hm : 1 ≤ nm) (hm2 : nm ≤ 60) :
    Calls Tryd.prog 11 #[.agg #[.slice T.AS T.nS T.cS, .slice T.AC T.nC T.cC, .slice T.AK T.nK T.cK, .int .i64 T.L, .int .i64 T.W], .int .i64 nm, .slice A n c, .slice A2 n c2] w fun e w' => ∃ v, e = .returned v ∧ Iw w' w.heap.size v (rL nm T g n) ∧ Below w.heap.size w w' := by
  obtain ⟨i0, hi0, hz0, hz1, hz2⟩ := info_parts info2
  have Hi := Lib.hid hi0
  have Hz := Lib.hid hz0
  have HG := Lib.hid hg
  have HT := Lib.hid hT
  have HA := Lib.hid hA
  have HA2 := Lib.hid hA2
  have N := (Below.refl w.heap.size w).alloc (Nat.le_refl _) (.cells #[.slice T.AS T.nS T.cS, .slice T.AC T.nC T.cC, .slice T.AK T.nK T.cK, .int .i64 T.L, .int .i64 T.W] 26)
  have K := bx_new w [.slice T.AS T.nS T.cS, .slice T.AC T.nC T.cC, .slice T.AK T.nK T.cK, .int .i64 T.L, .int .i64 T.W] 26
  clear hg hT hA hA2 hi0 hz0
  go_enter Tryd.func11, Tryd.ntmps11
  go_wp2_with (fail)
  generalize w.alloc (.cells #[.slice T.AS T.nS T.cS, .slice T.AC T.nC T.cC, .slice T.AK T.nK T.cK, .int .i64 T.L, .int .i64 T.W] 26) = w1 at *
  have hs1 : w.heap.size + 1 ≤ w1.heap.size := K.lt
  go_loopw [9, 10] (fun u j X => ∃ i : Nat, i ≤ n ∧ j = .int .i64 i ∧ Bx X w.heap.size 26 [.slice T.AS T.nS T.cS, .slice T.AC T.nC T.cC, .slice T.AK T.nK T.cK, .int .i64 T.L, .int .i64 T.W] ∧ Iw X (w.heap.size + 1) u (rL nm T g i) ∧ Below w.heap.size w X) (fun _ j _ => n - (intOf j).toNat)
  case atStart => exact ⟨0, Nat.zero_le _, rfl, K, World.ownsRow_nil _ _ _ _, N⟩
  case round =>
    clear K N
    obtain ⟨i, hi, rfl, K, O, B⟩ := hrel
    by_cases hlt : i < n
    · obtain ⟨b, o, rfl, hc⟩ := HA.out (by omega)
      obtain ⟨b2, o2, rfl, hc2⟩ := HA2.out (by omega)
      obtain ⟨g0, g1, g2, g3, g4⟩ := hc i hlt
      have g5 := hc2 i hlt
      dsimp only at g5
      obtain ⟨f3, fz, y0, y1⟩ := HG.out i hlt
      have d0 := cell_later B g0
      have d1 := cell_later B g1
      have d2 := cell_later B g2
      have d3 := cell_later B g3
      have d4 := cell_later B g4
      have d5 := cell_later B g5
      have rb := rD_bd HT.out nm g i
      have hs2 := K.lt
      have hc3 : i + 1 ≤ maxLen := by unfold maxLen; omega
      have hc4 : (i + 1) * 8 ≤ 140737488355328 := by omega
      have HC2 := Lib.hid hc2
      clear hc hc2
      cases hx : (g i).x
      · have BK := Lib.hid B
        have hO : ∀ W, Below wr.heap.size wr W → W.ownsRow (w.heap.size + 1) 2 1 u9 i (iv (rL nm T g i)) := fun W hb => by have := own_below O hb; unfold Iw at this; rwa [rL_len] at this
        have hob : ∀ k, u9.ownBlock = some k → w.heap.size + 1 ≤ k := fun k hk => (O.lt k hk).1
        have sb := fun q (hq : q ≤ i + 1) => tyS_bd (g := g) (i := q) fun j hj => (HG.out j (by omega)).2.2
        have sbi := sb (i + 1) (Nat.le_refl _)
        have HSB := Lib.hid sb
        clear sb
        rw [hx] at d4 g4
        have k0 := K.cell (i := 0) rfl
        have k1 := K.cell (i := 1) rfl
        have k2 := K.cell (i := 2) rfl
        have k3 := K.cell (i := 3) rfl
        have k4 := K.cell (i := 4) rfl
        have S1 : wr.drew.cell? ⟨w.heap.size, 0, none⟩ = some (.slice T.AS T.nS T.cS) ∧ wr.drew.cell? ⟨w.heap.size, 1, none⟩ = some (.slice T.AC T.nC T.cC) ∧ wr.drew.cell? ⟨w.heap.size, 2, none⟩ = some (.slice T.AK T.nK T.cK) ∧ wr.drew.cell? ⟨w.heap.size, 3, none⟩ = some (.int .i64 T.L) ∧ wr.drew.cell? ⟨w.heap.size, 4, none⟩ = some (.int .i64 T.W) ∧ wr.drew.cell? ⟨b, o + i * 5, none⟩ = some (.int .i64 (g i).s) ∧ wr.drew.cell? ⟨b, o + i * 5 + 1, none⟩ = some (.int .i64 (g i).k) ∧ wr.drew.cell? ⟨b, o + i * 5 + 2, none⟩ = some (.int .i64 (g i).a) ∧ wr.drew.cell? ⟨b, o + i * 5 + 3, none⟩ = some (.int .i64 (g i).f) ∧ wr.drew.cell? ⟨b, o + i * 5 + 4, none⟩ = some (.bool false) ∧ wr.drew.cell? ⟨b2, o2 + i, none⟩ = some (.int .i64 (g i).y) := ⟨k0, k1, k2, k3, k4, d0, d1, d2, d3, d4, d5⟩
        have step : ∀ X Y : World, Below X.heap.size X Y → (X.cell? ⟨w.heap.size, 0, none⟩ = some (.slice T.AS T.nS T.cS) ∧ X.cell? ⟨w.heap.size, 1, none⟩ = some (.slice T.AC T.nC T.cC) ∧ X.cell? ⟨w.heap.size, 2, none⟩ = some (.slice T.AK T.nK T.cK) ∧ X.cell? ⟨w.heap.size, 3, none⟩ = some (.int .i64 T.L) ∧ X.cell? ⟨w.heap.size, 4, none⟩ = some (.int .i64 T.W) ∧ X.cell? ⟨b, o + i * 5, none⟩ = some (.int .i64 (g i).s) ∧ X.cell? ⟨b, o + i * 5 + 1, none⟩ = some (.int .i64 (g i).k) ∧ X.cell? ⟨b, o + i * 5 + 2, none⟩ = some (.int .i64 (g i).a) ∧ X.cell? ⟨b, o + i * 5 + 3, none⟩ = some (.int .i64 (g i).f) ∧ X.cell? ⟨b, o + i * 5 + 4, none⟩ = some (.bool false) ∧ X.cell? ⟨b2, o2 + i, none⟩ = some (.int .i64 (g i).y)) → (Y.cell? ⟨w.heap.size, 0, none⟩ = some (.slice T.AS T.nS T.cS) ∧ Y.cell? ⟨w.heap.size, 1, none⟩ = some (.slice T.AC T.nC T.cC) ∧ Y.cell? ⟨w.heap.size, 2, none⟩ = some (.slice T.AK T.nK T.cK) ∧ Y.cell? ⟨w.heap.size, 3, none⟩ = some (.int .i64 T.L) ∧ Y.cell? ⟨w.heap.size, 4, none⟩ = some (.int .i64 T.W) ∧ Y.cell? ⟨b, o + i * 5, none⟩ = some (.int .i64 (g i).s) ∧ Y.cell? ⟨b, o + i * 5 + 1, none⟩ = some (.int .i64 (g i).k) ∧ Y.cell? ⟨b, o + i * 5 + 2, none⟩ = some (.int .i64 (g i).a) ∧ Y.cell? ⟨b, o + i * 5 + 3, none⟩ = some (.int .i64 (g i).f) ∧ Y.cell? ⟨b, o + i * 5 + 4, none⟩ = some (.bool false) ∧ Y.cell? ⟨b2, o2 + i, none⟩ = some (.int .i64 (g i).y)) := fun X Y hb h => ⟨cell_later hb h.1, cell_later hb h.2.1, cell_later hb h.2.2.1, cell_later hb h.2.2.2.1, cell_later hb h.2.2.2.2.1, cell_later hb h.2.2.2.2.2.1, cell_later hb h.2.2.2.2.2.2.1, cell_later hb h.2.2.2.2.2.2.2.1, cell_later hb h.2.2.2.2.2.2.2.2.1, cell_later hb h.2.2.2.2.2.2.2.2.2.1, cell_later hb h.2.2.2.2.2.2.2.2.2.2⟩
        have hF : ∀ X Y : World, Below wr.heap.size wr X → X.grownBy Y u9.ownBlock → Bx Y w.heap.size 26 [.slice T.AS T.nS T.cS, .slice T.AC T.nC T.cC, .slice T.AK T.nK T.cK, .int .i64 T.L, .int .i64 T.W] ∧ Below w.heap.size w Y := fun X Y hb hg => ⟨(K.below hb).of_block (hg.block _ (K.below hb).lt (fun e => by have := hob _ e.symm; omega)), (below_step B hb B.size).grown hg (by have := hb.size; omega) (fun k hk => by have := hob k hk; omega)⟩
        have S2 : ∀ X Y : World, Below wr.heap.size wr X → X.grownBy Y u9.ownBlock → (Y.cell? ⟨w.heap.size, 0, none⟩ = some (.slice T.AS T.nS T.cS) ∧ Y.cell? ⟨w.heap.size, 1, none⟩ = some (.slice T.AC T.nC T.cC) ∧ Y.cell? ⟨w.heap.size, 2, none⟩ = some (.slice T.AK T.nK T.cK) ∧ Y.cell? ⟨w.heap.size, 3, none⟩ = some (.int .i64 T.L) ∧ Y.cell? ⟨w.heap.size, 4, none⟩ = some (.int .i64 T.W) ∧ Y.cell? ⟨b, o + i * 5, none⟩ = some (.int .i64 (g i).s) ∧ Y.cell? ⟨b, o + i * 5 + 1, none⟩ = some (.int .i64 (g i).k) ∧ Y.cell? ⟨b, o + i * 5 + 2, none⟩ = some (.int .i64 (g i).a) ∧ Y.cell? ⟨b, o + i * 5 + 3, none⟩ = some (.int .i64 (g i).f) ∧ Y.cell? ⟨b, o + i * 5 + 4, none⟩ = some (.bool false) ∧ Y.cell? ⟨b2, o2 + i, none⟩ = some (.int .i64 (g i).y)) := fun X Y hb hg => by
          obtain ⟨Kq, Bq⟩ := hF X Y hb hg
          exact ⟨Kq.cell (i := 0) rfl, Kq.cell (i := 1) rfl, Kq.cell (i := 2) rfl, Kq.cell (i := 3) rfl, Kq.cell (i := 4) rfl, cell_later Bq g0, cell_later Bq g1, cell_later Bq g2, cell_later Bq g3, cell_later Bq g4, cell_later Bq g5⟩
        have hB : ∀ X : World, Below wr.heap.size wr X → w.heap.size + 1 ≤ X.heap.size := fun X hb => by have := hb.size; omega
        have hS : ∀ X : World, Below wr.heap.size wr X → SchM X T.AS T.nS T.S := fun X hb => h.below (below_step B hb B.size)
        have bl := fun X Y (h : Below wr.heap.size wr X) (hb : Below X.heap.size X Y) => below_step h hb h.size
        have hone : ∀ u : Int, ∀ q ∈ [Value.int .i64 u], q.oneCell' = true := fun u => by simp [Value.oneCell']
        have HR2 := rL_succ nm T g i
        have HRL := Lib.hid HR2
        clear HR2 K B O g0 g1 g2 g3 g4 g5 hob
        have hgap : (i + 1 ≤ nm.toNat ∧ min ((i : Int) + 1) nm = (i : Int) + 1) ∨ (nm.toNat < i + 1 ∧ min ((i : Int) + 1) nm = nm) := by omega
        rcases hgap with ⟨hc5, hmin⟩ | ⟨hc5, hmin⟩
        · have du := fun w h => rdue_any T (g i).s (g i).k (g i).a (g i).f (g i).x (tyS g (i + 1)) ((i : Int) + 1) nm w h HT.out f3 fz (chg0 f3 (by omega) hm (by omega) (by omega) (by omega) (by omega))
          have hR : rD nm T g (i + 1) = (dueT T (g i).s (g i).k (g i).a (g i).f (tyS g (i + 1)) ((i : Int) + 1) nm).1 := by show (if (g i).x = true then _ else _) = _; rw [if_neg (by simp [hx]), hmin]
          rw [hx, ← hR] at du
          have HW : Hid (rD nm T g (i + 1) = rD nm T g (i + 1)) := Lib.hid rfl
          have l5 : decide (nm < (i : Int) + 1) = false := decide_eq_false (by omega)
          clear hR f3 fz hx hmin
          generalize rD nm T g (i + 1) = v at *
          go_wp2
          go_loopw [12, 13] (fun sv j X => ∃ q : Nat, q ≤ i + 1 ∧ j = .int .i64 q ∧ sv = .int .i64 (tyS g q) ∧ X = wr) (fun _ j _ => i + 1 - (intOf j).toNat)
          case atStart => exact ⟨0, Nat.zero_le _, rfl, rfl, rfl⟩
          case round =>
            obtain ⟨q, hq, rfl, rfl, rfl⟩ := hrel
            by_cases hlq : q < i + 1
            · have e5 := cell_later BK.out (HC2.out q (by omega))
              try dsimp only at e5
              have lq : decide ((q : Int) ≤ (i : Int)) = true := decide_eq_true (by omega)
              have lqn : decide (q ≤ i) = true := decide_eq_true (by omega)
              have s1 := HSB.out q (by omega)
              have s2 := HSB.out (q + 1) (by omega)
              have hsn : wrap64 (tyS g q + (g q).y) = tyS g (q + 1) := IntWalk.wrap64_in (tyS g q + (g q).y) (by have e : tyS g (q + 1) = tyS g q + (g q).y := rfl; omega)
              clear k0 k1 k2 k3 k4 d0 d1 d2 d3 d4 d5 S1
              go_wp2
              refine ⟨⟨q + 1, by omega, by go_num, by rw [hsn], by simp⟩, ?_⟩
              simp [intOf]; omega
            · obtain rfl : q = i + 1 := by omega
              have lq : decide (((i + 1 : Nat) : Int) ≤ (i : Int)) = false := decide_eq_false (by omega)
              have lq2 : decide ((i : Int) + 1 ≤ (i : Int)) = false := decide_eq_false (by omega)
              have lqn : decide (i + 1 ≤ i) = false := decide_eq_false (by omega)
              go_wp2
              clear k0 k1 k2 k3 k4 d0 d1 d2 d3 d4 d5
              go_region_held3 (fun X => X.cell? ⟨w.heap.size, 0, none⟩ = some (.slice T.AS T.nS T.cS) ∧ X.cell? ⟨w.heap.size, 1, none⟩ = some (.slice T.AC T.nC T.cC) ∧ X.cell? ⟨w.heap.size, 2, none⟩ = some (.slice T.AK T.nK T.cK) ∧ X.cell? ⟨w.heap.size, 3, none⟩ = some (.int .i64 T.L) ∧ X.cell? ⟨w.heap.size, 4, none⟩ = some (.int .i64 T.W) ∧ X.cell? ⟨b, o + i * 5, none⟩ = some (.int .i64 (g i).s) ∧ X.cell? ⟨b, o + i * 5 + 1, none⟩ = some (.int .i64 (g i).k) ∧ X.cell? ⟨b, o + i * 5 + 2, none⟩ = some (.int .i64 (g i).a) ∧ X.cell? ⟨b, o + i * 5 + 3, none⟩ = some (.int .i64 (g i).f) ∧ X.cell? ⟨b, o + i * 5 + 4, none⟩ = some (.bool false) ∧ X.cell? ⟨b2, o2 + i, none⟩ = some (.int .i64 (g i).y))
                ((first | exact S1 | exact S9 | assumption | exact step _ _ hb (by assumption) | exact step _ _ (below_new _ _) (by assumption)))
                (first
                  | (go_at_call 28; with_reducible refine (du _ (hS _ (Below.refl _ _).drew)).mono ?_; rintro e w6 ⟨rfl, hb⟩; have hw := bl _ _ (Below.refl _ _).drew hb)
                  | (have hw := hw.alloc hw.size (.cells #[.int .i64 (v)] 2); refine step_append_lies _ (by rfl) _ _ 36 (by rfl) (w.heap.size + 1) 2 i0 (.int .i64 0) 1 8 Tryd.underlying36 Hi.out Hz.out hz1 hz2 (by rfl) (by decide) u9 i (iv (rL nm T g i)) (by rfl) (hO _ hw) ⟨_, 0, none⟩ 1 1 [.int .i64 _] (by rfl) (by rfl) (cell_one_new _ _ _) (hone _) (by decide) hc3 hc4 (hB _ hw) _ rfl ?_; intro q9 cap9 w9 hown9 hgrow hat hlt9; have S9 := S2 _ _ hw hgrow; have hb9 := hF _ _ hw hgrow))
              go_wp2
              go_roundw
              case rel => exact ⟨i + 1, hlt, by go_num, hb9.1, by
                show World.ownsRow _ _ _ _ _ (rL nm T g (i + 1)).length _
                rw [rL_len, HRL.out]
                simpa [iv] using hown9, hb9.2⟩
              case measure => first | omega | (simp [intOf]; omega)
        · have du := fun w h => rdue_any T (g i).s (g i).k (g i).a (g i).f (g i).x (tyS g (i + 1)) nm nm w h HT.out f3 fz (chg0 f3 (by omega) hm (by omega) (by omega) (by omega) (by omega))
          have hR : rD nm T g (i + 1) = (dueT T (g i).s (g i).k (g i).a (g i).f (tyS g (i + 1)) nm nm).1 := by show (if (g i).x = true then _ else _) = _; rw [if_neg (by simp [hx]), hmin]
          rw [hx, ← hR] at du
          have HW : Hid (rD nm T g (i + 1) = rD nm T g (i + 1)) := Lib.hid rfl
          have l5 : decide (nm < (i : Int) + 1) = true := decide_eq_true (by omega)
          clear hR f3 fz hx hmin
          generalize rD nm T g (i + 1) = v at *
          go_wp2
          go_loopw [12, 13] (fun sv j X => ∃ q : Nat, q ≤ i + 1 ∧ j = .int .i64 q ∧ sv = .int .i64 (tyS g q) ∧ X = wr) (fun _ j _ => i + 1 - (intOf j).toNat)
          case atStart => exact ⟨0, Nat.zero_le _, rfl, rfl, rfl⟩
          case round =>
            obtain ⟨q, hq, rfl, rfl, rfl⟩ := hrel
            by_cases hlq : q < i + 1
            · have e5 := cell_later BK.out (HC2.out q (by omega))
              try dsimp only at e5
              have lq : decide ((q : Int) ≤ (i : Int)) = true := decide_eq_true (by omega)
              have lqn : decide (q ≤ i) = true := decide_eq_true (by omega)
              have s1 := HSB.out q (by omega)
              have s2 := HSB.out (q + 1) (by omega)
              have hsn : wrap64 (tyS g q + (g q).y) = tyS g (q + 1) := IntWalk.wrap64_in (tyS g q + (g q).y) (by have e : tyS g (q + 1) = tyS g q + (g q).y := rfl; omega)
              clear k0 k1 k2 k3 k4 d0 d1 d2 d3 d4 d5 S1
              go_wp2
              refine ⟨⟨q + 1, by omega, by go_num, by rw [hsn], by simp⟩, ?_⟩
              simp [intOf]; omega
            · obtain rfl : q = i + 1 := by omega
              have lq : decide (((i + 1 : Nat) : Int) ≤ (i : Int)) = false := decide_eq_false (by omega)
              have lq2 : decide ((i : Int) + 1 ≤ (i : Int)) = false := decide_eq_false (by omega)
              have lqn : decide (i + 1 ≤ i) = false := decide_eq_false (by omega)
              go_wp2
              clear k0 k1 k2 k3 k4 d0 d1 d2 d3 d4 d5
              go_region_held3 (fun X => X.cell? ⟨w.heap.size, 0, none⟩ = some (.slice T.AS T.nS T.cS) ∧ X.cell? ⟨w.heap.size, 1, none⟩ = some (.slice T.AC T.nC T.cC) ∧ X.cell? ⟨w.heap.size, 2, none⟩ = some (.slice T.AK T.nK T.cK) ∧ X.cell? ⟨w.heap.size, 3, none⟩ = some (.int .i64 T.L) ∧ X.cell? ⟨w.heap.size, 4, none⟩ = some (.int .i64 T.W) ∧ X.cell? ⟨b, o + i * 5, none⟩ = some (.int .i64 (g i).s) ∧ X.cell? ⟨b, o + i * 5 + 1, none⟩ = some (.int .i64 (g i).k) ∧ X.cell? ⟨b, o + i * 5 + 2, none⟩ = some (.int .i64 (g i).a) ∧ X.cell? ⟨b, o + i * 5 + 3, none⟩ = some (.int .i64 (g i).f) ∧ X.cell? ⟨b, o + i * 5 + 4, none⟩ = some (.bool false) ∧ X.cell? ⟨b2, o2 + i, none⟩ = some (.int .i64 (g i).y))
                ((first | exact S1 | exact S9 | assumption | exact step _ _ hb (by assumption) | exact step _ _ (below_new _ _) (by assumption)))
                (first
                  | (go_at_call 28; with_reducible refine (du _ (hS _ (Below.refl _ _).drew)).mono ?_; rintro e w6 ⟨rfl, hb⟩; have hw := bl _ _ (Below.refl _ _).drew hb)
                  | (have hw := hw.alloc hw.size (.cells #[.int .i64 (v)] 2); refine step_append_lies _ (by rfl) _ _ 36 (by rfl) (w.heap.size + 1) 2 i0 (.int .i64 0) 1 8 Tryd.underlying36 Hi.out Hz.out hz1 hz2 (by rfl) (by decide) u9 i (iv (rL nm T g i)) (by rfl) (hO _ hw) ⟨_, 0, none⟩ 1 1 [.int .i64 _] (by rfl) (by rfl) (cell_one_new _ _ _) (hone _) (by decide) hc3 hc4 (hB _ hw) _ rfl ?_; intro q9 cap9 w9 hown9 hgrow hat hlt9; have S9 := S2 _ _ hw hgrow; have hb9 := hF _ _ hw hgrow))
              go_wp2
              go_roundw
              case rel => exact ⟨i + 1, hlt, by go_num, hb9.1, by
                show World.ownsRow _ _ _ _ _ (rL nm T g (i + 1)).length _
                rw [rL_len, HRL.out]
                simpa [iv] using hown9, hb9.2⟩
              case measure => first | omega | (simp [intOf]; omega)
      · have du := fun w h => rdue_any T (g i).s (g i).k (g i).a (g i).f (g i).x (g i).y 1 nm w h HT.out f3 fz (chg0 f3 (by omega) hm (by omega) (by omega) (by omega) (by omega))
        have vb := due_bd HT.out (g i).s (g i).k (g i).a (g i).f (g i).y 1 nm
        have hR : rD nm T g (i + 1) = rD nm T g i + (dueT T (g i).s (g i).k (g i).a (g i).f (g i).y 1 nm).1 := by show (if (g i).x = true then _ else _) = _; rw [if_pos hx]
        rw [hx] at du d4 g4
        generalize (dueT T (g i).s (g i).k (g i).a (g i).f (g i).y 1 nm).1 = v at *
        have HR := Lib.hid hR
        clear hR f3 fz hx
        have hw : wrap64 (rD nm T g i + v) = rD nm T g (i + 1) := by rw [HR.out]; exact IntWalk.wrap64_in _ (by omega)
        have hO : ∀ W, Below wr.heap.size wr W → W.ownsRow (w.heap.size + 1) 2 1 u9 i (iv (rL nm T g i)) := fun W hb => by have := own_below O hb; unfold Iw at this; rwa [rL_len] at this
        have hob : ∀ k, u9.ownBlock = some k → w.heap.size + 1 ≤ k := fun k hk => (O.lt k hk).1
        have gat : i = 0 ∨ (0 < i ∧ ∃ gg cc, u9 = .slice (some ⟨gg, 0, none⟩) i cc ∧ wr.cell? ⟨gg, i - 1, none⟩ = some (.int .i64 (rD nm T g i))) := by
          by_cases e : i = 0
          · exact .inl e
          · refine .inr ⟨by omega, iw_get O (rL_len _ _ _ _) (n := i - 1) ?_⟩
            unfold rL
            rw [List.getElem?_map, List.getElem?_range (by omega)]
            simp [show i - 1 + 1 = i by omega]
        have k0 := K.cell (i := 0) rfl
        have k1 := K.cell (i := 1) rfl
        have k2 := K.cell (i := 2) rfl
        have k3 := K.cell (i := 3) rfl
        have k4 := K.cell (i := 4) rfl
        have S1 : wr.drew.cell? ⟨w.heap.size, 0, none⟩ = some (.slice T.AS T.nS T.cS) ∧ wr.drew.cell? ⟨w.heap.size, 1, none⟩ = some (.slice T.AC T.nC T.cC) ∧ wr.drew.cell? ⟨w.heap.size, 2, none⟩ = some (.slice T.AK T.nK T.cK) ∧ wr.drew.cell? ⟨w.heap.size, 3, none⟩ = some (.int .i64 T.L) ∧ wr.drew.cell? ⟨w.heap.size, 4, none⟩ = some (.int .i64 T.W) ∧ wr.drew.cell? ⟨b, o + i * 5, none⟩ = some (.int .i64 (g i).s) ∧ wr.drew.cell? ⟨b, o + i * 5 + 1, none⟩ = some (.int .i64 (g i).k) ∧ wr.drew.cell? ⟨b, o + i * 5 + 2, none⟩ = some (.int .i64 (g i).a) ∧ wr.drew.cell? ⟨b, o + i * 5 + 3, none⟩ = some (.int .i64 (g i).f) ∧ wr.drew.cell? ⟨b, o + i * 5 + 4, none⟩ = some (.bool true) ∧ wr.drew.cell? ⟨b2, o2 + i, none⟩ = some (.int .i64 (g i).y) := ⟨k0, k1, k2, k3, k4, d0, d1, d2, d3, d4, d5⟩
        have step : ∀ X Y : World, Below X.heap.size X Y → (X.cell? ⟨w.heap.size, 0, none⟩ = some (.slice T.AS T.nS T.cS) ∧ X.cell? ⟨w.heap.size, 1, none⟩ = some (.slice T.AC T.nC T.cC) ∧ X.cell? ⟨w.heap.size, 2, none⟩ = some (.slice T.AK T.nK T.cK) ∧ X.cell? ⟨w.heap.size, 3, none⟩ = some (.int .i64 T.L) ∧ X.cell? ⟨w.heap.size, 4, none⟩ = some (.int .i64 T.W) ∧ X.cell? ⟨b, o + i * 5, none⟩ = some (.int .i64 (g i).s) ∧ X.cell? ⟨b, o + i * 5 + 1, none⟩ = some (.int .i64 (g i).k) ∧ X.cell? ⟨b, o + i * 5 + 2, none⟩ = some (.int .i64 (g i).a) ∧ X.cell? ⟨b, o + i * 5 + 3, none⟩ = some (.int .i64 (g i).f) ∧ X.cell? ⟨b, o + i * 5 + 4, none⟩ = some (.bool true) ∧ X.cell? ⟨b2, o2 + i, none⟩ = some (.int .i64 (g i).y)) → (Y.cell? ⟨w.heap.size, 0, none⟩ = some (.slice T.AS T.nS T.cS) ∧ Y.cell? ⟨w.heap.size, 1, none⟩ = some (.slice T.AC T.nC T.cC) ∧ Y.cell? ⟨w.heap.size, 2, none⟩ = some (.slice T.AK T.nK T.cK) ∧ Y.cell? ⟨w.heap.size, 3, none⟩ = some (.int .i64 T.L) ∧ Y.cell? ⟨w.heap.size, 4, none⟩ = some (.int .i64 T.W) ∧ Y.cell? ⟨b, o + i * 5, none⟩ = some (.int .i64 (g i).s) ∧ Y.cell? ⟨b, o + i * 5 + 1, none⟩ = some (.int .i64 (g i).k) ∧ Y.cell? ⟨b, o + i * 5 + 2, none⟩ = some (.int .i64 (g i).a) ∧ Y.cell? ⟨b, o + i * 5 + 3, none⟩ = some (.int .i64 (g i).f) ∧ Y.cell? ⟨b, o + i * 5 + 4, none⟩ = some (.bool true) ∧ Y.cell? ⟨b2, o2 + i, none⟩ = some (.int .i64 (g i).y)) := fun X Y hb h => ⟨cell_later hb h.1, cell_later hb h.2.1, cell_later hb h.2.2.1, cell_later hb h.2.2.2.1, cell_later hb h.2.2.2.2.1, cell_later hb h.2.2.2.2.2.1, cell_later hb h.2.2.2.2.2.2.1, cell_later hb h.2.2.2.2.2.2.2.1, cell_later hb h.2.2.2.2.2.2.2.2.1, cell_later hb h.2.2.2.2.2.2.2.2.2.1, cell_later hb h.2.2.2.2.2.2.2.2.2.2⟩
        have hF : ∀ X Y : World, Below wr.heap.size wr X → X.grownBy Y u9.ownBlock → Bx Y w.heap.size 26 [.slice T.AS T.nS T.cS, .slice T.AC T.nC T.cC, .slice T.AK T.nK T.cK, .int .i64 T.L, .int .i64 T.W] ∧ Below w.heap.size w Y := fun X Y hb hg => ⟨(K.below hb).of_block (hg.block _ (K.below hb).lt (fun e => by have := hob _ e.symm; omega)), (below_step B hb B.size).grown hg (by have := hb.size; omega) (fun k hk => by have := hob k hk; omega)⟩
        have S2 : ∀ X Y : World, Below wr.heap.size wr X → X.grownBy Y u9.ownBlock → (Y.cell? ⟨w.heap.size, 0, none⟩ = some (.slice T.AS T.nS T.cS) ∧ Y.cell? ⟨w.heap.size, 1, none⟩ = some (.slice T.AC T.nC T.cC) ∧ Y.cell? ⟨w.heap.size, 2, none⟩ = some (.slice T.AK T.nK T.cK) ∧ Y.cell? ⟨w.heap.size, 3, none⟩ = some (.int .i64 T.L) ∧ Y.cell? ⟨w.heap.size, 4, none⟩ = some (.int .i64 T.W) ∧ Y.cell? ⟨b, o + i * 5, none⟩ = some (.int .i64 (g i).s) ∧ Y.cell? ⟨b, o + i * 5 + 1, none⟩ = some (.int .i64 (g i).k) ∧ Y.cell? ⟨b, o + i * 5 + 2, none⟩ = some (.int .i64 (g i).a) ∧ Y.cell? ⟨b, o + i * 5 + 3, none⟩ = some (.int .i64 (g i).f) ∧ Y.cell? ⟨b, o + i * 5 + 4, none⟩ = some (.bool true) ∧ Y.cell? ⟨b2, o2 + i, none⟩ = some (.int .i64 (g i).y)) := fun X Y hb hg => by
          obtain ⟨Kq, Bq⟩ := hF X Y hb hg
          exact ⟨Kq.cell (i := 0) rfl, Kq.cell (i := 1) rfl, Kq.cell (i := 2) rfl, Kq.cell (i := 3) rfl, Kq.cell (i := 4) rfl, cell_later Bq g0, cell_later Bq g1, cell_later Bq g2, cell_later Bq g3, cell_later Bq g4, cell_later Bq g5⟩
        have hB : ∀ X : World, Below wr.heap.size wr X → w.heap.size + 1 ≤ X.heap.size := fun X hb => by have := hb.size; omega
        have hS : ∀ X : World, Below wr.heap.size wr X → SchM X T.AS T.nS T.S := fun X hb => h.below (below_step B hb B.size)
        have bl := fun X Y (h : Below wr.heap.size wr X) (hb : Below X.heap.size X Y) => below_step h hb h.size
        have hone : ∀ u : Int, ∀ q ∈ [Value.int .i64 u], q.oneCell' = true := fun u => by simp [Value.oneCell']
        have HR2 := rL_succ nm T g i
        have HRL := Lib.hid HR2
        clear HR2 K B O g0 g1 g2 g3 g4 g5 hob
        rcases gat with hz | ⟨hpos, gg, cc, rfl, hgc⟩
        · have l0 : decide ((0 : Int) < (i : Int)) = false := decide_eq_false (by omega)
          have l0n : decide (0 < i) = false := decide_eq_false (by omega)
          have hw2 : rD nm T g (i + 1) = v := by rw [HR.out]; subst hz; show (0 : Int) + v = v; omega
          have HWV : Hid (IntKind.i64.wrap v = rD nm T g (i + 1)) := Lib.hid (by rw [hw2]; exact IntWalk.i64_in v (by omega))
          clear hw2 hz
          go_wp2
          clear k0 k1 k2 k3 k4 d0 d1 d2 d3 d4 d5
          go_region_held3 (fun X => X.cell? ⟨w.heap.size, 0, none⟩ = some (.slice T.AS T.nS T.cS) ∧ X.cell? ⟨w.heap.size, 1, none⟩ = some (.slice T.AC T.nC T.cC) ∧ X.cell? ⟨w.heap.size, 2, none⟩ = some (.slice T.AK T.nK T.cK) ∧ X.cell? ⟨w.heap.size, 3, none⟩ = some (.int .i64 T.L) ∧ X.cell? ⟨w.heap.size, 4, none⟩ = some (.int .i64 T.W) ∧ X.cell? ⟨b, o + i * 5, none⟩ = some (.int .i64 (g i).s) ∧ X.cell? ⟨b, o + i * 5 + 1, none⟩ = some (.int .i64 (g i).k) ∧ X.cell? ⟨b, o + i * 5 + 2, none⟩ = some (.int .i64 (g i).a) ∧ X.cell? ⟨b, o + i * 5 + 3, none⟩ = some (.int .i64 (g i).f) ∧ X.cell? ⟨b, o + i * 5 + 4, none⟩ = some (.bool true) ∧ X.cell? ⟨b2, o2 + i, none⟩ = some (.int .i64 (g i).y))
            ((first | exact S1 | exact S9 | assumption | exact step _ _ hb (by assumption) | exact step _ _ (below_new _ _) (by assumption)))
            (first
              | (go_at_call 28; with_reducible refine (du _ (hS _ (Below.refl _ _).drew)).mono ?_; rintro e w6 ⟨rfl, hb⟩; have hw := bl _ _ (Below.refl _ _).drew hb)
              | (have hw := hw.alloc hw.size (.cells #[.int .i64 (IntKind.i64.wrap v)] 2); refine step_append_lies _ (by rfl) _ _ 36 (by rfl) (w.heap.size + 1) 2 i0 (.int .i64 0) 1 8 Tryd.underlying36 Hi.out Hz.out hz1 hz2 (by rfl) (by decide) u9 i (iv (rL nm T g i)) (by rfl) (hO _ hw) ⟨_, 0, none⟩ 1 1 [.int .i64 _] (by rfl) (by rfl) (cell_one_new _ _ _) (hone _) (by decide) hc3 hc4 (hB _ hw) _ rfl ?_; intro q9 cap9 w9 hown9 hgrow hat hlt9; have S9 := S2 _ _ hw hgrow; have hb9 := hF _ _ hw hgrow))
          go_wp2
          go_roundw
          case rel => exact ⟨i + 1, hlt, by go_num, hb9.1, by
            show World.ownsRow _ _ _ _ _ (rL nm T g (i + 1)).length _
            rw [rL_len, HRL.out]
            rw [HWV.out] at hown9
            simpa [iv] using hown9, hb9.2⟩
          case measure => first | omega | (simp [intOf]; omega)
        · have hi1 : (1 : Int) ≤ (i : Int) := by omega
          have hi2 : (i : Int) - 1 < (i : Int) := by omega
          have hi0 : (0 : Int) ≤ (i : Int) - 1 := by omega
          have l0 : decide ((0 : Int) < (i : Int)) = true := decide_eq_true (by omega)
          have l0n : decide (0 < i) = true := decide_eq_true (by omega)
          have HWV : Hid (IntKind.i64.wrap (rD nm T g i + v) = rD nm T g (i + 1)) := Lib.hid (by rw [HR.out]; exact IntWalk.i64_in _ (by omega))
          generalize rD nm T g i = r0 at *
          generalize rD nm T g (i + 1) = r1 at *
          go_wp2
          clear k0 k1 k2 k3 k4 d0 d1 d2 d3 d4 d5
          go_region_held3 (fun X => X.cell? ⟨w.heap.size, 0, none⟩ = some (.slice T.AS T.nS T.cS) ∧ X.cell? ⟨w.heap.size, 1, none⟩ = some (.slice T.AC T.nC T.cC) ∧ X.cell? ⟨w.heap.size, 2, none⟩ = some (.slice T.AK T.nK T.cK) ∧ X.cell? ⟨w.heap.size, 3, none⟩ = some (.int .i64 T.L) ∧ X.cell? ⟨w.heap.size, 4, none⟩ = some (.int .i64 T.W) ∧ X.cell? ⟨b, o + i * 5, none⟩ = some (.int .i64 (g i).s) ∧ X.cell? ⟨b, o + i * 5 + 1, none⟩ = some (.int .i64 (g i).k) ∧ X.cell? ⟨b, o + i * 5 + 2, none⟩ = some (.int .i64 (g i).a) ∧ X.cell? ⟨b, o + i * 5 + 3, none⟩ = some (.int .i64 (g i).f) ∧ X.cell? ⟨b, o + i * 5 + 4, none⟩ = some (.bool true) ∧ X.cell? ⟨b2, o2 + i, none⟩ = some (.int .i64 (g i).y))
            ((first | exact S1 | exact S9 | assumption | exact step _ _ hb (by assumption) | exact step _ _ (below_new _ _) (by assumption)))
            (first
              | (go_at_call 28; with_reducible refine (du _ (hS _ (Below.refl _ _).drew)).mono ?_; rintro e w6 ⟨rfl, hb⟩; have hw := bl _ _ (Below.refl _ _).drew hb)
              | (have hw := hw.alloc hw.size (.cells #[.int .i64 (IntKind.i64.wrap (r0 + v))] 2); refine step_append_lies _ (by rfl) _ _ 36 (by rfl) (w.heap.size + 1) 2 i0 (.int .i64 0) 1 8 Tryd.underlying36 Hi.out Hz.out hz1 hz2 (by rfl) (by decide) (.slice (some ⟨gg, 0, none⟩) i cc) i (iv (rL nm T g i)) (by rfl) (hO _ hw) ⟨_, 0, none⟩ 1 1 [.int .i64 _] (by rfl) (by rfl) (cell_one_new _ _ _) (hone _) (by decide) hc3 hc4 (hB _ hw) _ rfl ?_; intro q9 cap9 w9 hown9 hgrow hat hlt9; have S9 := S2 _ _ hw hgrow; have hb9 := hF _ _ hw hgrow))
          go_wp2
          go_roundw
          case rel => exact ⟨i + 1, hlt, by go_num, hb9.1, by
            show World.ownsRow _ _ _ _ _ (rL nm T g (i + 1)).length _
            rw [rL_len, HRL.out]
            rw [HWV.out] at hown9
            simpa [iv] using hown9, hb9.2⟩
          case measure => first | omega | (simp [intOf]; omega)
    · obtain rfl : i = n := by omega
      go_wp2
      go_ret
      exact ⟨_, rfl, own_mono_i O (by omega), B⟩
end Go.Proofs.YtfnjhalpedccaaaDoor
