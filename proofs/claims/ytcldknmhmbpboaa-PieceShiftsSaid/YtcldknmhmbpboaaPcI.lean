/- What stretches answers of two functions: where they are cut, and how both go from there. -/
import Derived.Test.YtcldknmhmbpboaaPcH
import Derived.Deep.RegionHeld3
import Derived.Deep.CutBlock
import Derived.Deep.CutRange
namespace Go.Proofs.Ytcldknmhmbpboaa
open Go.RowKit Go.Sort
set_option linter.unusedVariables false
set_option linter.unusedSimpArgs false

/-- the cells of a stretch -/
def stC (f g : Lf) (k : Nat) : List Value :=
  [.int .i64 (Lf.cut f g k), .int .i64 (Lf.cut f g (k + 1) - 1), .int .i64 (Lf.cut f g k), .int .i64 (f.val (Lf.cut f g k)), .int .i64 (f.R (f.idx (Lf.cut f g k))), .int .i64 (Lf.cut f g k), .int .i64 (g.val (Lf.cut f g k)), .int .i64 (g.R (g.idx (Lf.cut f g k)))]
def stL (f g : Lf) : Nat → List Value
  | 0 => []
  | n + 1 => stL f g n ++ stC f g n
theorem stL_len (f g : Lf) (n : Nat) : (stL f g n).length = n * 8 := by
  induction n with
  | zero => rfl
  | succ n ih => simp [stL, stC, ih]; omega
theorem stL_get (f g : Lf) {n i j : Nat} (hi : i < n) (hj : j < 8) : (stL f g n)[i * 8 + j]? = (stC f g i)[j]? := by
  induction n with
  | zero => omega
  | succ n ih =>
    show (stL f g n ++ _)[i * 8 + j]? = _
    by_cases h : i < n
    · rw [List.getElem?_append_left (by rw [stL_len]; omega)]; exact ih h
    · obtain rfl : i = n := by omega
      rw [List.getElem?_append_right (by rw [stL_len]; omega), stL_len, show i * 8 + j - i * 8 = j by omega]
theorem infoSt : (Try.prog.info? 60).map (fun i => (i.zero, i.size, i.bytes)) = some (some (.agg #[.int .i64 0, .int .i64 0, .int .i64 0, .int .i64 0, .int .i64 0, .int .i64 0, .int .i64 0, .int .i64 0]), 8, 64) := by kernel_rfl
theorem cells_at8 (w : World) (l : List Value) (t : TypeId) {n : Nat} (hn : w.heap.size = n) : ∀ j u, l[j]? = some u → (w.alloc (.cells l.toArray t)).cell? ((⟨n, 0, none⟩ : Addr).add j) = some u := bx_add (bx_at w l t hn)
theorem bx_bel {Y V : World} {l : List Value} {t : TypeId} (h : Below (Y.alloc (.cells l.toArray t)).heap.size (Y.alloc (.cells l.toArray t)) V) : Bx V Y.heap.size t l := (bx_new Y l t).below h
theorem bx_beld {Y V : World} {l : List Value} {t : TypeId} (h : Below (Y.alloc (.cells l.toArray t)).drew.heap.size (Y.alloc (.cells l.toArray t)).drew V) : Bx V Y.heap.size t l := (show Bx (Y.alloc (.cells l.toArray t)).drew Y.heap.size t l from bx_new Y l t).below h
/-- how stretches ends -/
def StP (f g : Lf) (w : World) (e : Ending) (w' : World) : Prop :=
  ∃ A m c, e = .returned (.slice A m c) ∧ w'.ownsRow w.heap.size 60 8 (.slice A m c) m (stL f g m) ∧ (∀ j, j < m → Lf.cut f g j ≤ 10000000000) ∧ Lf.cut f g m = 10000000001 ∧ m + 1 ≤ f.n + g.n ∧ Below w.heap.size w w'
theorem meas_cut {a e : Int} (h1 : a ≤ e) (h2 : e ≤ 10000000000) : (10000000001 - intOf (.int .i64 (e + 1))).toNat < (10000000001 - intOf (.int .i64 a)).toNat := by
  simp [intOf]; omega
set_option maxHeartbeats 4000000 in
set_option maxRecDepth 100000 in
theorem stretches_any (A B : Option Addr) (c d : Nat) (f g : Lf) (w : World) (h : Lm w A f) (h2 : Lm w B g) (hf : f.OK) (hg : g.OK) :
    Calls Try.prog 31 #[.slice A f.n c, .slice B g.n d] w (StP f g w) := by
  obtain ⟨i0', hi0, hz0, hz1, hz2⟩ := info_parts infoSt
  have Hi := Lib.hid hi0
  have Hz := Lib.hid hz0
  clear hi0 hz0
  have hself := Below.refl w.heap.size w
  have hown : w.ownsRow w.heap.size 60 8 (.slice none 0 0) 0 (stL f g 0) := ⟨rfl, .inl ⟨rfl, rfl⟩⟩
  have H := Lib.hid (And.intro h h2)
  have HF := Lib.hid (And.intro hf hg)
  clear h h2 hf hg
  go_enter Try.func31, Try.ntmps31
  go_wp2
  go_loopw [5, 6] (fun s5 s6 W => ∃ k AA cc, s5 = .slice AA k cc ∧ s6 = .int .i64 (Lf.cut f g k) ∧ W.ownsRow w.heap.size 60 8 (.slice AA k cc) k (stL f g k) ∧ (∀ j, j < k → Lf.cut f g j ≤ 10000000000) ∧ Below w.heap.size w W) (fun _ s6 _ => (10000000001 - intOf s6).toNat)
  case atStart => exact ⟨0, none, 0, rfl, rfl, hown, fun j hj => absurd hj (Nat.not_lt_zero j), hself⟩
  case round =>
    clear hown
    obtain ⟨k, AA, cc, rfl, rfl, hO, hk, hb⟩ := hrel
    have hc0 := Lf.cut_bd HF.out.1.toOrd HF.out.2.toOrd hk
    by_cases hlt : Lf.cut f g k ≤ 10000000000
    · obtain ⟨e1, e2, e3, e4⟩ := Lf.ce_bd HF.out.1.toOrd HF.out.2.toOrd hc0.1 hlt
      obtain ⟨p1, p2, p3, p4⟩ := HF.out.1.toOrd.idx_bd hc0.1 hlt
      obtain ⟨q1, q2, q3, q4⟩ := HF.out.2.toOrd.idx_bd hc0.1 hlt
      have d1 : decide (Lf.cut f g k ≤ 10000000000) = true := decide_eq_true hlt
      have n1 := HF.out.1.n2
      have n2 := HF.out.2.n2
      have cF := fun W hh => find_any A c f (Lf.cut f g k) W hh HF.out.1.toOrd (by omega)
      have cG := fun W hh => find_any B d g (Lf.cut f g k) W hh HF.out.2.toOrd (by omega)
      go_wp2_with (fail)
      refine (cF _ (H.out.1.below hb)).mono ?_
      rintro e w1 ⟨rfl, hb1⟩
      have B1 := below_step hb hb1 hb.size
      go_wp2_with (fail)
      refine (cG _ (H.out.2.below B1)).mono ?_
      rintro e w2 ⟨rfl, hb2⟩
      have B2 := below_step B1 hb2 B1.size
      replace hO := own_below (own_below hO hb1) hb2
      have X0 := H.out.1.below B2
      have Y0 := H.out.2.below B2
      obtain ⟨fb, fo, hfA, x0, x1, x2⟩ := lm_at X0 p1
      obtain ⟨gb, go, hgB, y0, y1, y2⟩ := lm_at Y0 q1
      subst hfA hgB
      have hfi := HF.out.1.fb _ p1
      have hgi := HF.out.2.fb _ q1
      have hfr := HF.out.1.rb _ p1
      have hgr := HF.out.2.rb _ q1
      have hfv := HF.out.1.vb _ p1
      have hgv := HF.out.2.vb _ q1
      have hpf := Lf.prod_bd (d := Lf.cut f g k - f.F (f.idx (Lf.cut f g k))) (r := f.R (f.idx (Lf.cut f g k))) (by omega) (by omega) (by omega) (by omega)
      have hpg := Lf.prod_bd (d := Lf.cut f g k - g.F (g.idx (Lf.cut f g k))) (r := g.R (g.idx (Lf.cut f g k))) (by omega) (by omega) (by omega) (by omega)
      have cS1 := fun W => since_any (f.F (f.idx (Lf.cut f g k))) (f.V (f.idx (Lf.cut f g k))) (f.R (f.idx (Lf.cut f g k))) (Lf.cut f g k) W (by omega) (by omega) (by omega)
      have cS2 := fun W => since_any (g.F (g.idx (Lf.cut f g k))) (g.V (g.idx (Lf.cut f g k))) (g.R (g.idx (Lf.cut f g k))) (Lf.cut f g k) W (by omega) (by omega) (by omega)
      rw [show f.V (f.idx (Lf.cut f g k)) + (Lf.cut f g k - f.F (f.idx (Lf.cut f g k))) * f.R (f.idx (Lf.cut f g k)) = f.val (Lf.cut f g k) from p4.symm] at cS1
      rw [show g.V (g.idx (Lf.cut f g k)) + (Lf.cut f g k - g.F (g.idx (Lf.cut f g k))) * g.R (g.idx (Lf.cut f g k)) = g.val (Lf.cut f g k) from q4.symm] at cS2
      have hce : Lf.ce f g (Lf.cut f g k) = min (f.lst (f.idx (Lf.cut f g k))) (g.lst (g.idx (Lf.cut f g k))) := rfl
      have hcs := Lf.cut_succ f g k
      have cL1 : ∀ X, Below w2.heap.size w2 X → Calls Try.prog 29 #[.slice (some ⟨fb, fo, none⟩) f.n c, .int .i64 (f.idx (Lf.cut f g k) : Int)] X fun e w' => e = .returned (.int .i64 (f.lst (f.idx (Lf.cut f g k)))) ∧ Below X.heap.size X w' := fun X hX => last_any _ c f _ X (X0.below hX) p1 (by omega) HF.out.1.fb
      have cL2 : ∀ X, Below w2.heap.size w2 X → Calls Try.prog 29 #[.slice (some ⟨gb, go, none⟩) g.n d, .int .i64 (g.idx (Lf.cut f g k) : Int)] X fun e w' => e = .returned (.int .i64 (g.lst (g.idx (Lf.cut f g k)))) ∧ Below X.heap.size X w' := fun X hX => last_any _ d g _ X (Y0.below hX) q1 (by omega) HF.out.2.fb
      have j0 : (f.idx (Lf.cut f g k) : Int) < (f.n : Int) := by omega
      have j1 : (g.idx (Lf.cut f g k) : Int) < (g.n : Int) := by omega
      have HSZ := Lib.hid (And.intro n1 n2)
      have HC := Lib.hid (And.intro hc0 (And.intro hlt (And.intro e1 e2)))
      have HST := Lib.hid (show stC f g k = [.int .i64 (Lf.cut f g k), .int .i64 (Lf.cut f g (k + 1) - 1), .int .i64 (Lf.cut f g k), .int .i64 (f.val (Lf.cut f g k)), .int .i64 (f.R (f.idx (Lf.cut f g k))), .int .i64 (Lf.cut f g k), .int .i64 (g.val (Lf.cut f g k)), .int .i64 (g.R (g.idx (Lf.cut f g k)))] from rfl)
      rw [hcs, show Lf.ce f g (Lf.cut f g k) + 1 - 1 = Lf.ce f g (Lf.cut f g k) by omega] at HST
      have HCS := Lib.hid hcs
      have HKK := Lib.hid hk
      have hmin := hce.symm
      clear e1 e2 e3 e4 p2 p3 p4 q2 q3 q4 hfi hgi hfr hgr hfv hgv hpf hpg n1 n2 cF cG hcs hce hc0 hlt X0 Y0 hb1 hb2 B1 hb hk
      have HP1 := Lib.hid p1
      have HQ1 := Lib.hid q1
      clear p1 q1
      generalize f.lst (f.idx (Lf.cut f g k)) = l1 at *
      generalize g.lst (g.idx (Lf.cut f g k)) = l2 at *
      generalize Lf.ce f g (Lf.cut f g k) = ec at *
      generalize f.val (Lf.cut f g k) = v1 at *
      generalize g.val (Lf.cut f g k) = v2 at *
      generalize f.R (f.idx (Lf.cut f g k)) = r1 at *
      generalize g.R (g.idx (Lf.cut f g k)) = r2 at *
      generalize f.F (f.idx (Lf.cut f g k)) = a1 at *
      generalize g.F (g.idx (Lf.cut f g k)) = a2 at *
      generalize f.V (f.idx (Lf.cut f g k)) = b1 at *
      generalize g.V (g.idx (Lf.cut f g k)) = b2 at *
      generalize f.idx (Lf.cut f g k) = i1 at *
      generalize g.idx (Lf.cut f g k) = i2 at *
      generalize hca : Lf.cut f g k = ca at *
      have HCA := Lib.hid hca
      clear hca
      go_upto_region 5 with fail
      go_cut [9] from 9 to 45 (fun s9 wx => ∃ q, s9 = .pointer (some ⟨q, 0, none⟩) ∧ Bx wx q 60 [.int .i64 ca, .int .i64 ec, .int .i64 ca, .int .i64 v1, .int .i64 r1, .int .i64 ca, .int .i64 v2, .int .i64 r2] ∧ Below w2.heap.size w2 wx ∧ w2.heap.size ≤ q)
      case first =>
        have S0 : w2.cell? ⟨fb, fo + i1 * 3, none⟩ = some (.int .i64 a1) ∧ w2.cell? ⟨fb, fo + i1 * 3 + 1, none⟩ = some (.int .i64 b1) ∧ w2.cell? ⟨fb, fo + i1 * 3 + 2, none⟩ = some (.int .i64 r1) ∧ w2.cell? ⟨gb, go + i2 * 3, none⟩ = some (.int .i64 a2) ∧ w2.cell? ⟨gb, go + i2 * 3 + 1, none⟩ = some (.int .i64 b2) ∧ w2.cell? ⟨gb, go + i2 * 3 + 2, none⟩ = some (.int .i64 r2) ∧ Below w2.heap.size w2 w2 := ⟨x0, x1, x2, y0, y1, y2, Below.refl _ _⟩
        have S1 : w2.drew.cell? ⟨fb, fo + i1 * 3, none⟩ = some (.int .i64 a1) ∧ w2.drew.cell? ⟨fb, fo + i1 * 3 + 1, none⟩ = some (.int .i64 b1) ∧ w2.drew.cell? ⟨fb, fo + i1 * 3 + 2, none⟩ = some (.int .i64 r1) ∧ w2.drew.cell? ⟨gb, go + i2 * 3, none⟩ = some (.int .i64 a2) ∧ w2.drew.cell? ⟨gb, go + i2 * 3 + 1, none⟩ = some (.int .i64 b2) ∧ w2.drew.cell? ⟨gb, go + i2 * 3 + 2, none⟩ = some (.int .i64 r2) ∧ Below w2.heap.size w2 w2.drew := ⟨x0, x1, x2, y0, y1, y2, (Below.refl _ _).drew⟩
        have step : ∀ U V : World, Below U.heap.size U V → (U.cell? ⟨fb, fo + i1 * 3, none⟩ = some (.int .i64 a1) ∧ U.cell? ⟨fb, fo + i1 * 3 + 1, none⟩ = some (.int .i64 b1) ∧ U.cell? ⟨fb, fo + i1 * 3 + 2, none⟩ = some (.int .i64 r1) ∧ U.cell? ⟨gb, go + i2 * 3, none⟩ = some (.int .i64 a2) ∧ U.cell? ⟨gb, go + i2 * 3 + 1, none⟩ = some (.int .i64 b2) ∧ U.cell? ⟨gb, go + i2 * 3 + 2, none⟩ = some (.int .i64 r2) ∧ Below w2.heap.size w2 U) → (V.cell? ⟨fb, fo + i1 * 3, none⟩ = some (.int .i64 a1) ∧ V.cell? ⟨fb, fo + i1 * 3 + 1, none⟩ = some (.int .i64 b1) ∧ V.cell? ⟨fb, fo + i1 * 3 + 2, none⟩ = some (.int .i64 r1) ∧ V.cell? ⟨gb, go + i2 * 3, none⟩ = some (.int .i64 a2) ∧ V.cell? ⟨gb, go + i2 * 3 + 1, none⟩ = some (.int .i64 b2) ∧ V.cell? ⟨gb, go + i2 * 3 + 2, none⟩ = some (.int .i64 r2) ∧ Below w2.heap.size w2 V) := fun U V hb h => ⟨cell_later hb h.1, cell_later hb h.2.1, cell_later hb h.2.2.1, cell_later hb h.2.2.2.1, cell_later hb h.2.2.2.2.1, cell_later hb h.2.2.2.2.2.1, below_step h.2.2.2.2.2.2 hb h.2.2.2.2.2.2.size⟩
        have S2 := step w2 (w2.alloc (.cells #[.int .i64 0, .int .i64 0, .int .i64 0, .int .i64 0, .int .i64 0, .int .i64 0, .int .i64 0, .int .i64 0] 60)).drew ((below_new _ _).drew) S0
        have stp8 : ∀ X : World, (X.cell? ⟨fb, fo + i1 * 3, none⟩ = some (.int .i64 a1) ∧ X.cell? ⟨fb, fo + i1 * 3 + 1, none⟩ = some (.int .i64 b1) ∧ X.cell? ⟨fb, fo + i1 * 3 + 2, none⟩ = some (.int .i64 r1) ∧ X.cell? ⟨gb, go + i2 * 3, none⟩ = some (.int .i64 a2) ∧ X.cell? ⟨gb, go + i2 * 3 + 1, none⟩ = some (.int .i64 b2) ∧ X.cell? ⟨gb, go + i2 * 3 + 2, none⟩ = some (.int .i64 r2) ∧ Below w2.heap.size w2 X) → ∀ q, w2.heap.size ≤ q → ∀ u0 u1 u2 u3 u4 u5 u6 u7 Z, Z = (((((((X.setCell ⟨q, 0, none⟩ u0).setCell ⟨q, 1, none⟩ u1).setCell ⟨q, 2, none⟩ u2).setCell ⟨q, 3, none⟩ u3).setCell ⟨q, 4, none⟩ u4).setCell ⟨q, 5, none⟩ u5).setCell ⟨q, 6, none⟩ u6).setCell ⟨q, 7, none⟩ u7 → Z.cell? ⟨fb, fo + i1 * 3, none⟩ = some (.int .i64 a1) ∧ Z.cell? ⟨fb, fo + i1 * 3 + 1, none⟩ = some (.int .i64 b1) ∧ Z.cell? ⟨fb, fo + i1 * 3 + 2, none⟩ = some (.int .i64 r1) ∧ Z.cell? ⟨gb, go + i2 * 3, none⟩ = some (.int .i64 a2) ∧ Z.cell? ⟨gb, go + i2 * 3 + 1, none⟩ = some (.int .i64 b2) ∧ Z.cell? ⟨gb, go + i2 * 3 + 2, none⟩ = some (.int .i64 r2) ∧ Below w2.heap.size w2 Z := fun X h q hq u0 u1 u2 u3 u4 u5 u6 u7 Z hZ => by
          subst hZ
          have hfb := World.block_lt_of_cell? _ _ x0
          have hgb := World.block_lt_of_cell? _ _ y0
          have n1 : q ≠ fb := by simp only at hfb; omega
          have n2 : q ≠ gb := by simp only at hgb; omega
          have B8 := h.2.2.2.2.2.2
          have B9 := (((((((B8.setCell (p := ⟨q, 0, none⟩) hq u0).setCell (p := ⟨q, 1, none⟩) hq u1).setCell (p := ⟨q, 2, none⟩) hq u2).setCell (p := ⟨q, 3, none⟩) hq u3).setCell (p := ⟨q, 4, none⟩) hq u4).setCell (p := ⟨q, 5, none⟩) hq u5).setCell (p := ⟨q, 6, none⟩) hq u6).setCell (p := ⟨q, 7, none⟩) hq u7
          exact ⟨cell_later B9 x0, cell_later B9 x1, cell_later B9 x2, cell_later B9 y0, cell_later B9 y1, cell_later B9 y2, B9⟩
        have aL1 : ∀ X, (X.cell? ⟨fb, fo + i1 * 3, none⟩ = some (.int .i64 a1) ∧ X.cell? ⟨fb, fo + i1 * 3 + 1, none⟩ = some (.int .i64 b1) ∧ X.cell? ⟨fb, fo + i1 * 3 + 2, none⟩ = some (.int .i64 r1) ∧ X.cell? ⟨gb, go + i2 * 3, none⟩ = some (.int .i64 a2) ∧ X.cell? ⟨gb, go + i2 * 3 + 1, none⟩ = some (.int .i64 b2) ∧ X.cell? ⟨gb, go + i2 * 3 + 2, none⟩ = some (.int .i64 r2) ∧ Below w2.heap.size w2 X) → Calls Try.prog 29 #[.slice (some ⟨fb, fo, none⟩) f.n c, .int .i64 (i1 : Int)] X fun e w' => e = .returned (.int .i64 l1) ∧ Below X.heap.size X w' ∧ w'.cell? ⟨fb, fo + i1 * 3, none⟩ = some (.int .i64 a1) ∧ w'.cell? ⟨fb, fo + i1 * 3 + 1, none⟩ = some (.int .i64 b1) ∧ w'.cell? ⟨fb, fo + i1 * 3 + 2, none⟩ = some (.int .i64 r1) ∧ w'.cell? ⟨gb, go + i2 * 3, none⟩ = some (.int .i64 a2) ∧ w'.cell? ⟨gb, go + i2 * 3 + 1, none⟩ = some (.int .i64 b2) ∧ w'.cell? ⟨gb, go + i2 * 3 + 2, none⟩ = some (.int .i64 r2) ∧ Below w2.heap.size w2 w' := fun X h => (cL1 X h.2.2.2.2.2.2).mono fun e w' hh => ⟨hh.1, hh.2, step X w' hh.2 h⟩
        have aL2 : ∀ X, (X.cell? ⟨fb, fo + i1 * 3, none⟩ = some (.int .i64 a1) ∧ X.cell? ⟨fb, fo + i1 * 3 + 1, none⟩ = some (.int .i64 b1) ∧ X.cell? ⟨fb, fo + i1 * 3 + 2, none⟩ = some (.int .i64 r1) ∧ X.cell? ⟨gb, go + i2 * 3, none⟩ = some (.int .i64 a2) ∧ X.cell? ⟨gb, go + i2 * 3 + 1, none⟩ = some (.int .i64 b2) ∧ X.cell? ⟨gb, go + i2 * 3 + 2, none⟩ = some (.int .i64 r2) ∧ Below w2.heap.size w2 X) → Calls Try.prog 29 #[.slice (some ⟨gb, go, none⟩) g.n d, .int .i64 (i2 : Int)] X fun e w' => e = .returned (.int .i64 l2) ∧ Below X.heap.size X w' ∧ w'.cell? ⟨fb, fo + i1 * 3, none⟩ = some (.int .i64 a1) ∧ w'.cell? ⟨fb, fo + i1 * 3 + 1, none⟩ = some (.int .i64 b1) ∧ w'.cell? ⟨fb, fo + i1 * 3 + 2, none⟩ = some (.int .i64 r1) ∧ w'.cell? ⟨gb, go + i2 * 3, none⟩ = some (.int .i64 a2) ∧ w'.cell? ⟨gb, go + i2 * 3 + 1, none⟩ = some (.int .i64 b2) ∧ w'.cell? ⟨gb, go + i2 * 3 + 2, none⟩ = some (.int .i64 r2) ∧ Below w2.heap.size w2 w' := fun X h => (cL2 X h.2.2.2.2.2.2).mono fun e w' hh => ⟨hh.1, hh.2, step X w' hh.2 h⟩
        have aS1 : ∀ X, (X.cell? ⟨fb, fo + i1 * 3, none⟩ = some (.int .i64 a1) ∧ X.cell? ⟨fb, fo + i1 * 3 + 1, none⟩ = some (.int .i64 b1) ∧ X.cell? ⟨fb, fo + i1 * 3 + 2, none⟩ = some (.int .i64 r1) ∧ X.cell? ⟨gb, go + i2 * 3, none⟩ = some (.int .i64 a2) ∧ X.cell? ⟨gb, go + i2 * 3 + 1, none⟩ = some (.int .i64 b2) ∧ X.cell? ⟨gb, go + i2 * 3 + 2, none⟩ = some (.int .i64 r2) ∧ Below w2.heap.size w2 X) → Calls Try.prog 35 #[.agg #[.int .i64 a1, .int .i64 b1, .int .i64 r1], .int .i64 ca] X fun e w' => e = .returned (.agg #[.int .i64 ca, .int .i64 v1, .int .i64 r1]) ∧ Below X.heap.size X w' ∧ w'.cell? ⟨fb, fo + i1 * 3, none⟩ = some (.int .i64 a1) ∧ w'.cell? ⟨fb, fo + i1 * 3 + 1, none⟩ = some (.int .i64 b1) ∧ w'.cell? ⟨fb, fo + i1 * 3 + 2, none⟩ = some (.int .i64 r1) ∧ w'.cell? ⟨gb, go + i2 * 3, none⟩ = some (.int .i64 a2) ∧ w'.cell? ⟨gb, go + i2 * 3 + 1, none⟩ = some (.int .i64 b2) ∧ w'.cell? ⟨gb, go + i2 * 3 + 2, none⟩ = some (.int .i64 r2) ∧ Below w2.heap.size w2 w' := fun X h => (cS1 X).mono fun e w' hh => ⟨hh.1, hh.2, step X w' hh.2 h⟩
        have aS2 : ∀ X, (X.cell? ⟨fb, fo + i1 * 3, none⟩ = some (.int .i64 a1) ∧ X.cell? ⟨fb, fo + i1 * 3 + 1, none⟩ = some (.int .i64 b1) ∧ X.cell? ⟨fb, fo + i1 * 3 + 2, none⟩ = some (.int .i64 r1) ∧ X.cell? ⟨gb, go + i2 * 3, none⟩ = some (.int .i64 a2) ∧ X.cell? ⟨gb, go + i2 * 3 + 1, none⟩ = some (.int .i64 b2) ∧ X.cell? ⟨gb, go + i2 * 3 + 2, none⟩ = some (.int .i64 r2) ∧ Below w2.heap.size w2 X) → Calls Try.prog 35 #[.agg #[.int .i64 a2, .int .i64 b2, .int .i64 r2], .int .i64 ca] X fun e w' => e = .returned (.agg #[.int .i64 ca, .int .i64 v2, .int .i64 r2]) ∧ Below X.heap.size X w' ∧ w'.cell? ⟨fb, fo + i1 * 3, none⟩ = some (.int .i64 a1) ∧ w'.cell? ⟨fb, fo + i1 * 3 + 1, none⟩ = some (.int .i64 b1) ∧ w'.cell? ⟨fb, fo + i1 * 3 + 2, none⟩ = some (.int .i64 r1) ∧ w'.cell? ⟨gb, go + i2 * 3, none⟩ = some (.int .i64 a2) ∧ w'.cell? ⟨gb, go + i2 * 3 + 1, none⟩ = some (.int .i64 b2) ∧ w'.cell? ⟨gb, go + i2 * 3 + 2, none⟩ = some (.int .i64 r2) ∧ Below w2.heap.size w2 w' := fun X h => (cS2 X).mono fun e w' hh => ⟨hh.1, hh.2, step X w' hh.2 h⟩
        clear cL1 cL2 cS1 cS2 x0 x1 x2 y0 y1 y2
        go_region_held3 (fun X => X.cell? ⟨fb, fo + i1 * 3, none⟩ = some (.int .i64 a1) ∧ X.cell? ⟨fb, fo + i1 * 3 + 1, none⟩ = some (.int .i64 b1) ∧ X.cell? ⟨fb, fo + i1 * 3 + 2, none⟩ = some (.int .i64 r1) ∧ X.cell? ⟨gb, go + i2 * 3, none⟩ = some (.int .i64 a2) ∧ X.cell? ⟨gb, go + i2 * 3 + 1, none⟩ = some (.int .i64 b2) ∧ X.cell? ⟨gb, go + i2 * 3 + 2, none⟩ = some (.int .i64 r2) ∧ Below w2.heap.size w2 X)
          ((first | (with_reducible assumption) | (with_reducible exact S0) | (with_reducible exact S1) | (with_reducible exact S2) | ((with_reducible refine stp8 _ ?_ _ hq _ _ _ _ _ _ _ _ _ rfl); with_reducible assumption) | ((with_reducible refine step _ _ (below_new _ _) ?_); with_reducible assumption)))
          (first
            | (go_at_call 29; (with_reducible refine (aL1 _ ?_).mono ?_); assumption; (first | (have SP := SW.2.2.2.2.2.2.size) | (have SP := S0.2.2.2.2.2.2.size)); rintro e wk ⟨rfl, hb, SW⟩; (first | (have ZB := ZB.below hb) | (have ZB := bx_bel (l := [.int .i64 0, .int .i64 0, .int .i64 0, .int .i64 0, .int .i64 0, .int .i64 0, .int .i64 0, .int .i64 0]) hb; have hq := SP) | (have ZB := bx_beld (l := [.int .i64 0, .int .i64 0, .int .i64 0, .int .i64 0, .int .i64 0, .int .i64 0, .int .i64 0, .int .i64 0]) hb; have hq := SP) | skip); (first | (have z0 := ZB.cell (i := 0) rfl; have z1 := ZB.cell (i := 1) rfl; have z2 := ZB.cell (i := 2) rfl; have z3 := ZB.cell (i := 3) rfl; have z4 := ZB.cell (i := 4) rfl; have z5 := ZB.cell (i := 5) rfl; have z6 := ZB.cell (i := 6) rfl; have z7 := ZB.cell (i := 7) rfl; have y0 := ZB.fr 0; have y1 := ZB.fr 1; have y2 := ZB.fr 2; have y3 := ZB.fr 3; have y4 := ZB.fr 4; have y5 := ZB.fr 5; have y6 := ZB.fr 6; have y7 := ZB.fr 7) | skip))
            | (go_at_call 29; (with_reducible refine (aL2 _ ?_).mono ?_); assumption; (first | (have SP := SW.2.2.2.2.2.2.size) | (have SP := S0.2.2.2.2.2.2.size)); rintro e wk ⟨rfl, hb, SW⟩; (first | (have ZB := ZB.below hb) | (have ZB := bx_bel (l := [.int .i64 0, .int .i64 0, .int .i64 0, .int .i64 0, .int .i64 0, .int .i64 0, .int .i64 0, .int .i64 0]) hb; have hq := SP) | (have ZB := bx_beld (l := [.int .i64 0, .int .i64 0, .int .i64 0, .int .i64 0, .int .i64 0, .int .i64 0, .int .i64 0, .int .i64 0]) hb; have hq := SP) | skip); (first | (have z0 := ZB.cell (i := 0) rfl; have z1 := ZB.cell (i := 1) rfl; have z2 := ZB.cell (i := 2) rfl; have z3 := ZB.cell (i := 3) rfl; have z4 := ZB.cell (i := 4) rfl; have z5 := ZB.cell (i := 5) rfl; have z6 := ZB.cell (i := 6) rfl; have z7 := ZB.cell (i := 7) rfl; have y0 := ZB.fr 0; have y1 := ZB.fr 1; have y2 := ZB.fr 2; have y3 := ZB.fr 3; have y4 := ZB.fr 4; have y5 := ZB.fr 5; have y6 := ZB.fr 6; have y7 := ZB.fr 7) | skip))
            | (go_at_call 35; (with_reducible refine (aS1 _ ?_).mono ?_); assumption; (first | (have SP := SW.2.2.2.2.2.2.size) | (have SP := S0.2.2.2.2.2.2.size)); rintro e wk ⟨rfl, hb, SW⟩; (first | (have ZB := ZB.below hb) | (have ZB := bx_bel (l := [.int .i64 0, .int .i64 0, .int .i64 0, .int .i64 0, .int .i64 0, .int .i64 0, .int .i64 0, .int .i64 0]) hb; have hq := SP) | (have ZB := bx_beld (l := [.int .i64 0, .int .i64 0, .int .i64 0, .int .i64 0, .int .i64 0, .int .i64 0, .int .i64 0, .int .i64 0]) hb; have hq := SP) | skip); (first | (have z0 := ZB.cell (i := 0) rfl; have z1 := ZB.cell (i := 1) rfl; have z2 := ZB.cell (i := 2) rfl; have z3 := ZB.cell (i := 3) rfl; have z4 := ZB.cell (i := 4) rfl; have z5 := ZB.cell (i := 5) rfl; have z6 := ZB.cell (i := 6) rfl; have z7 := ZB.cell (i := 7) rfl; have y0 := ZB.fr 0; have y1 := ZB.fr 1; have y2 := ZB.fr 2; have y3 := ZB.fr 3; have y4 := ZB.fr 4; have y5 := ZB.fr 5; have y6 := ZB.fr 6; have y7 := ZB.fr 7) | skip))
            | (go_at_call 35; (with_reducible refine (aS2 _ ?_).mono ?_); assumption; (first | (have SP := SW.2.2.2.2.2.2.size) | (have SP := S0.2.2.2.2.2.2.size)); rintro e wk ⟨rfl, hb, SW⟩; (first | (have ZB := ZB.below hb) | (have ZB := bx_bel (l := [.int .i64 0, .int .i64 0, .int .i64 0, .int .i64 0, .int .i64 0, .int .i64 0, .int .i64 0, .int .i64 0]) hb; have hq := SP) | (have ZB := bx_beld (l := [.int .i64 0, .int .i64 0, .int .i64 0, .int .i64 0, .int .i64 0, .int .i64 0, .int .i64 0, .int .i64 0]) hb; have hq := SP) | skip); (first | (have z0 := ZB.cell (i := 0) rfl; have z1 := ZB.cell (i := 1) rfl; have z2 := ZB.cell (i := 2) rfl; have z3 := ZB.cell (i := 3) rfl; have z4 := ZB.cell (i := 4) rfl; have z5 := ZB.cell (i := 5) rfl; have z6 := ZB.cell (i := 6) rfl; have z7 := ZB.cell (i := 7) rfl; have y0 := ZB.fr 0; have y1 := ZB.fr 1; have y2 := ZB.fr 2; have y3 := ZB.fr 3; have y4 := ZB.fr 4; have y5 := ZB.fr 5; have y6 := ZB.fr 6; have y7 := ZB.fr 7) | skip)))
        all_goals
          rename_i hH
          go_wp2_with fail
          go_meet
          case rel =>
            have BF := hH.2.2.2.2.2.2
            first
              | exact ⟨_, rfl, ((((((((ZB.set 0 _).set 1 _).set 2 _).set 3 _).set 4 _).set 5 _).set 6 _).set 7 _), BF, hq⟩
              | exact ⟨_, rfl, bx_new _ [.int .i64 ca, .int .i64 ec, .int .i64 ca, .int .i64 v1, .int .i64 r1, .int .i64 ca, .int .i64 v2, .int .i64 r2] _, BF, SW.2.2.2.2.2.2.size⟩
              | (trace_state; sorry)
      case rest =>
        obtain ⟨q, rfl, KQ, BQ, hqz⟩ := hcut
        clear cL1 cL2 cS1 cS2 x0 x1 x2 y0 y1 y2 hmin
        have hO2 := own_below hO BQ
        have B3 := below_step B2 BQ B2.size
        have NX := below_new wc (.cells #[.int .i64 ca, .int .i64 ec, .int .i64 ca, .int .i64 v1, .int .i64 r1, .int .i64 ca, .int .i64 v2, .int .i64 r2] 60)
        have own9 := own_below hO2 NX
        have b9 := below_step B3 NX B3.size
        have hk0 := KQ.cell (i := 0) rfl
        have hk1 := KQ.cell (i := 1) rfl
        have hk2 := KQ.cell (i := 2) rfl
        have hk3 := KQ.cell (i := 3) rfl
        have hk4 := KQ.cell (i := 4) rfl
        have hk5 := KQ.cell (i := 5) rfl
        have hk6 := KQ.cell (i := 6) rfl
        have hk7 := KQ.cell (i := 7) rfl
        have hone : ∀ u ∈ ([.int .i64 ca, .int .i64 ec, .int .i64 ca, .int .i64 v1, .int .i64 r1, .int .i64 ca, .int .i64 v2, .int .i64 r2] : List Value), u.oneCell' = true := by simp [Value.oneCell']
        have hkn : k + 1 ≤ f.n + g.n := Lf.cut_few HF.out.1.toOrd HF.out.2.toOrd HKK.out
        have hkb : k + 1 ≤ 512 := by have := HSZ.out; omega
        have hc3 : Hid (k + 1 ≤ maxLen) := Lib.hid (by unfold maxLen; omega)
        have hc4 : Hid ((k + 1) * 64 ≤ 140737488355328) := Lib.hid (by omega)
        have w1' : IntKind.i64.wrap (ec + 1) = ec + 1 := IntWalk.i64_in _ (by have := HC.out; omega)
        have hqk : some q ≠ (Value.slice AA k cc).ownBlock := fun e => by
          have := (hO.lt q e.symm).2
          omega
        clear hO hO2 BQ B2 hkn hkb d1 j0 j1 KQ
        go_wp2_with (refine wpList_append_lies _ rfl (.tmp 39) (.tmp 41) 57 rfl w.heap.size 60 i0' (.agg #[.int .i64 0, .int .i64 0, .int .i64 0, .int .i64 0, .int .i64 0, .int .i64 0, .int .i64 0, .int .i64 0]) 8 64 Try.underlying57 Hi.out Hz.out hz1 hz2 (by rfl) (by decide) _ k (stL f g k) (by rfl) own9 ⟨_, 0, none⟩ 1 1 [.int .i64 ca, .int .i64 ec, .int .i64 ca, .int .i64 v1, .int .i64 r1, .int .i64 ca, .int .i64 v2, .int .i64 r2] (by rfl) (by rfl) (cells_at8 _ [.int .i64 ca, .int .i64 ec, .int .i64 ca, .int .i64 v1, .int .i64 r1, .int .i64 ca, .int .i64 v2, .int .i64 r2] _ rfl) hone (by decide) hc3.out hc4.out b9.size _ rfl ?_; intro g9 cap9 w9 hown9 hgrow hat hlt9; have hk9 := hgrow.cell (cell_later NX hk1) hqk)
        have B9 := b9.grown hgrow b9.size (fun j hj => (own9.lt j hj).1)
        rw [← HST.out] at hown9
        go_round
        case rel => exact ⟨k + 1, _, _, rfl, by rw [HCS.out], hown9, fun j hj => (by
          by_cases e : j = k
          · rw [e, HCA.out]; exact HC.out.2.1
          · exact HKK.out j (by omega)), B9⟩
        case measure => (try rw [HCA.out]); exact meas_cut HC.out.2.2.1 HC.out.2.2.2
    · have hkn := Lf.cut_few HF.out.1.toOrd HF.out.2.toOrd hk
      have he : Lf.cut f g k = 10000000001 := by omega
      have d1 : decide (Lf.cut f g k ≤ 10000000000) = false := decide_eq_false hlt
      have HR : StP f g w (.returned (.slice AA k cc)) wr := ⟨AA, k, cc, rfl, hO, hk, he, hkn, hb⟩
      clear hO hb hk hkn he hlt hc0
      go_wp2
      go_ret
      exact HR
end Go.Proofs.Ytcldknmhmbpboaa
