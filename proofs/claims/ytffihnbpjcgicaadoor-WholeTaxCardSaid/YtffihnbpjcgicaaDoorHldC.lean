/- What hold.Year answers, of periods wherever they lie. -/
import Derived.Test.YtffihnbpjcgicaaDoorHldB
import Derived.Test.YtffihnbpjcgicaaDoorTaxS
import Derived.Laws.AppendOwn
import Derived.OwnWalk
import Derived.Deep.OwnRows
import Derived.Deep.RegionWith
import Derived.Deep.RegionLaw
import Derived.Deep.AppendLies
import Derived.Sort.Walk0
namespace Go.Proofs.YtffihnbpjcgicaaDoor.Hd
open Go.RowKit Go.Sort
set_option linter.unusedVariables false
set_option linter.unusedSimpArgs false

section
theorem own_other {w : World} {B p : Nat} {e : TypeId} {size n : Nat} {v : Value} {xs : List Value} (h : w.ownsRow B e size v n xs) (hp : p < B) (j : Nat) (x : Value) : (w.setCell ⟨p, j, none⟩ x).ownsRow B e size v n xs := by
  obtain ⟨hl, h | ⟨g, cap, cur, hv, hg, hh, h1, h2, h3, h4⟩⟩ := h
  · exact ⟨hl, .inl h⟩
  · exact ⟨hl, .inr ⟨g, cap, cur, hv, hg, (Go.Deep.blk_setCell_other _ _ _ _ (by show g ≠ p; omega)).trans hh, h1, h2, h3, h4⟩⟩
theorem own_mono {w : World} {B B' : Nat} {e : TypeId} {size n : Nat} {v : Value} {xs : List Value} (h : w.ownsRow B e size v n xs) (hB : B' ≤ B) : w.ownsRow B' e size v n xs := by
  obtain ⟨hl, h | ⟨g, cap, cur, hv, hg, hh, h1, h2, h3, h4⟩⟩ := h
  · exact ⟨hl, .inl h⟩
  · exact ⟨hl, .inr ⟨g, cap, cur, hv, Nat.le_trans hB hg, hh, h1, h2, h3, h4⟩⟩
end
theorem cell_one_at (w : World) (x : Value) (t : TypeId) {n : Nat} (hn : w.heap.size = n) : ∀ j u, [x][j]? = some u → (w.alloc (.cells #[x] t)).cell? ((⟨n, 0, none⟩ : Addr).add j) = some u := by
  subst hn; exact cell_one_new w x t
theorem infoI64 : (Tryd.prog.info? 2).map (fun i => (i.zero, i.size, i.bytes)) = some (some (.int .i64 0), 1, 8) := by kernel_rfl
def ints (l : List Int) : List Value := l.map (Value.int .i64)
theorem ints_app (l : List Int) (x : Int) : ints (l ++ [x]) = ints l ++ [.int .i64 x] := by simp [ints]
/-- numbers in a row of the call's own -/
def Ri (w : World) (B : Nat) (v : Value) (l : List Int) : Prop := w.ownsRow B 2 1 v l.length (ints l)
theorem ri_push {w : World} {B n : Nat} {v : Value} {l : List Int} {y : Int} (hn : l.length = n) (h : w.ownsRow B 2 1 v (n + 1) (ints l ++ [.int .i64 y])) : Ri w B v (l ++ [y]) := by
  subst hn
  unfold Ri
  rw [List.length_append, ints_app]
  exact h
/-- periods in memory -/
def Pys (W : World) (A : Option Addr) (n : Nat) (f : Nat → Py) : Prop := 0 < n → ∃ b o, A = some ⟨b, o, none⟩ ∧ ∀ i, i < n →
  W.cell? ⟨b, o + i * 3, none⟩ = some (.int .i64 (f i).c) ∧ W.cell? ⟨b, o + i * 3 + 1, none⟩ = some (.int .i64 (f i).D) ∧ W.cell? ⟨b, o + i * 3 + 2, none⟩ = some (.bool (f i).b)
theorem Pys.below {W W' : World} {A : Option Addr} {n : Nat} {f : Nat → Py} (h : Pys W A n f) (hb : Below W.heap.size W W') : Pys W' A n f := fun h0 => by
  obtain ⟨b, o, hA, hc⟩ := h h0
  exact ⟨b, o, hA, fun i hi => ⟨cell_later hb (hc i hi).1, cell_later hb (hc i hi).2.1, cell_later hb (hc i hi).2.2⟩⟩

section
variable (a1 a2 a3 : Option Addr) (n1 n2 n3 c1 c2 c3 : Nat)
/-- what a year's walk holds of memory -/
def Yh (X w : World) (L R : Int) (f : Nat → Py) (i : Nat) (v : Value) : Prop :=
  Bx X w.heap.size 71 [.slice a1 n1 c1, .slice a2 n2 c2, .slice a3 n3 c3, .int .i64 L, .int .i64 R] ∧ Bx X (w.heap.size + 1) 93 [.int .i64 0, .int .i64 0] ∧
  Bx X (w.heap.size + 1 + 1) 93 [.int .i64 (yrS L f i).1, .int .i64 (yrS L f i).2] ∧ Ri X (w.heap.size + 1 + 1 + 1) v (yrL L f i) ∧ Below w.heap.size w X
/-- what hold.Year answers -/
def YrP (w w' : World) (L : Int) (f : Nat → Py) (n : Nat) (e : Ending) : Prop :=
  (firstE (yrE L f) n = 0 → ∃ v, e = .returned (.tuple #[v, .agg #[.int .i64 (yrS L f n).1, .int .i64 (yrS L f n).2], .int .i64 0]) ∧ Ri w' w.heap.size v (yrL L f n)) ∧
  (firstE (yrE L f) n ≠ 0 → e = .returned (.tuple #[.slice none 0 0, .agg #[.int .i64 0, .int .i64 0], .int .i64 (firstE (yrE L f) n)])) ∧ Below w.heap.size w w'
set_option maxHeartbeats 4000000 in
theorem year_any (L R : Int) (A : Option Addr) (n c : Nat) (f : Nat → Py) (w : World) (h : Pys w A n f) (hn : n ≤ 1000000) :
    Calls Tryd.prog 34 #[.agg #[.slice a1 n1 c1, .slice a2 n2 c2, .slice a3 n3 c3, .int .i64 L, .int .i64 R], .slice A n c] w fun e w' => YrP w w' L f n e := by
  obtain ⟨i0, hi0, hz0, hz1, hz2⟩ := info_parts infoI64
  have Q0 : Bx (((w.alloc (.cells #[.slice a1 n1 c1, .slice a2 n2 c2, .slice a3 n3 c3, .int .i64 L, .int .i64 R] 71)).alloc (.cells #[.int .i64 0, .int .i64 0] 93)).alloc (.cells #[.int .i64 0, .int .i64 0] 93)) w.heap.size 71 [.slice a1 n1 c1, .slice a2 n2 c2, .slice a3 n3 c3, .int .i64 L, .int .i64 R] := ((bx_new w [.slice a1 n1 c1, .slice a2 n2 c2, .slice a3 n3 c3, .int .i64 L, .int .i64 R] 71).alloc _).alloc _
  have Q1 : Bx (((w.alloc (.cells #[.slice a1 n1 c1, .slice a2 n2 c2, .slice a3 n3 c3, .int .i64 L, .int .i64 R] 71)).alloc (.cells #[.int .i64 0, .int .i64 0] 93)).alloc (.cells #[.int .i64 0, .int .i64 0] 93)) (w.heap.size + 1) 93 [.int .i64 0, .int .i64 0] := Bx.alloc (bx_at _ [.int .i64 0, .int .i64 0] 93 (by simp)) _
  have Q2 : Bx (((w.alloc (.cells #[.slice a1 n1 c1, .slice a2 n2 c2, .slice a3 n3 c3, .int .i64 L, .int .i64 R] 71)).alloc (.cells #[.int .i64 0, .int .i64 0] 93)).alloc (.cells #[.int .i64 0, .int .i64 0] 93)) (w.heap.size + 1 + 1) 93 [.int .i64 0, .int .i64 0] := bx_at _ [.int .i64 0, .int .i64 0] 93 (by simp)
  have B0 : Below w.heap.size w (((w.alloc (.cells #[.slice a1 n1 c1, .slice a2 n2 c2, .slice a3 n3 c3, .int .i64 L, .int .i64 R] 71)).alloc (.cells #[.int .i64 0, .int .i64 0] 93)).alloc (.cells #[.int .i64 0, .int .i64 0] 93)) := ((below_new _ _).alloc (by simp) _).alloc (by simp; omega) _
  go_enter Tryd.func34, Tryd.ntmps34
  go_wp2
  go_loopw [7, 17] (fun v k X => ∃ i : Nat, i ≤ n ∧ k = .int .i64 i ∧ Yh a1 a2 a3 n1 n2 n3 c1 c2 c3 X w L R f i v ∧ firstE (yrE L f) i = 0) (fun _ k _ => n - (intOf k).toNat)
  case atStart => exact ⟨0, Nat.zero_le _, rfl, ⟨Q0, Q1, Q2, World.ownsRow_nil _ _ _ _, B0⟩, rfl⟩
  case round =>
    clear Q0 Q1 Q2 B0
    obtain ⟨i, hi, rfl, ⟨Q0, Q1, Q2, hown, hb⟩, h0⟩ := hrel
    by_cases hlt : i < n
    · obtain ⟨b, o, rfl, hc⟩ := h (by omega)
      obtain ⟨g0, g1, g2⟩ := hc i hlt
      have d0 := cell_later hb g0
      have d1 := cell_later hb g1
      have d2 := cell_later hb g2
      clear hc g0 g1 g2 h
      have Qp := bx_new wr [.int .i64 (f i).c, .int .i64 (f i).D, .bool (f i).b] 91
      have Np := below_new wr (.cells #[.int .i64 (f i).c, .int .i64 (f i).D, .bool (f i).b] 91)
      have P0 := Q0.below Np
      have P1 := Q1.below Np
      have P2 := Q2.below Np
      have ownp := own_below hown Np
      have Bp := below_step hb Np hb.size
      by_cases hE : yrE L f i = 0
      · have HSN := Lib.hid (yrS_succ L f i)
        have HLN := Lib.hid (yrL_succ L f i)
        have hF1 : Hid (firstE (yrE L f) (i + 1) = 0) := Lib.hid (first_succ h0 hE)
        have kc := fun w => step_yes a1 a2 a3 n1 n2 n3 c1 c2 c3 L R (yrS L f i).1 (yrS L f i).2 (f i).c (f i).D (f i).b w hE
        have hlen := yrL_len L f i
        rw [show stepH L (yrS L f i).1 (f i).c (f i).D (f i).b = yrH L f i from rfl] at kc
        clear hE h0
        generalize (f i).c = fc at *
        generalize (f i).D = fD at *
        generalize (f i).b = fb at *
        generalize yrH L f i = x at *
        generalize yrS L f i = st at *
        generalize yrL L f i = ls at *
        obtain ⟨sW, sS⟩ := st
        dsimp only at *
        generalize hu : sW + x = u at *
        generalize hv : fD - sW - x = v at *
        clear hu hv
        have x0 := P0.cell (i := 0) rfl
        have x1 := P0.cell (i := 1) rfl
        have x2 := P0.cell (i := 2) rfl
        have x3 := P0.cell (i := 3) rfl
        have x4 := P0.cell (i := 4) rfl
        have s0 := P2.cell (i := 0) rfl
        have s1 := P2.cell (i := 1) rfl
        have p0 := Qp.cell (i := 0) rfl
        have p1 := Qp.cell (i := 1) rfl
        have p2 := Qp.cell (i := 2) rfl
        go_wp2_with (fail)
        generalize wr.alloc (.cells #[.int .i64 fc, .int .i64 fD, .bool fb] 91) = w1 at *
        with_reducible refine (kc _).mono ?_
        rintro e w2 ⟨rfl, hb2⟩
        have B2 := below_step Bp hb2 Bp.size
        have R0 := P0.below hb2
        have R1 := P1.below hb2
        have R2 := P2.below hb2
        have own2 := own_below ownp hb2
        have N3 := below_new w2 (.cells #[.int .i64 u, .int .i64 v] 93)
        have B3 := below_step B2 N3 B2.size
        have T3 := bx_new w2 [.int .i64 u, .int .i64 v] 93
        have U0 := R0.below N3
        have U1 := R1.below N3
        have U2 := R2.below N3
        have own3 := own_below own2 N3
        have hob : ∀ k, u7.ownBlock = some k → w.heap.size + 1 + 1 + 1 ≤ k ∧ k < w2.heap.size := fun k hk => ⟨(own2.lt k hk).1, (own2.lt k hk).2⟩
        have hl2 := R2.lt
        go_wp2_with (fail)
        clear P0 P1 P2 R0 R1 R2 own2 ownp Q0 Q1 Q2 hown hb d0 d1 d2 x0 x1 x2 x3 x4 s0 s1 p0 p1 p2 Qp Np Bp hb2 B2 N3 kc
        generalize hw3 : w2.alloc (.cells #[.int .i64 u, .int .i64 v] 93) = w3 at *
        have hsz3 : w3.heap.size = w2.heap.size + 1 := by rw [← hw3]; simp
        clear hw3
        have hO : ∀ W, Below w3.heap.size w3 W → W.ownsRow (w.heap.size + 1 + 1 + 1) 2 1 u7 i (ints ls) := fun W h => by have := own_below own3 h; unfold Ri at this; rwa [hlen] at this
        have hone : ∀ u ∈ [Value.int .i64 x], u.oneCell' = true := by simp [Value.oneCell']
        have hc3 : i + 1 ≤ maxLen := by unfold maxLen; omega
        have hc4 : (i + 1) * 8 ≤ 140737488355328 := by omega
        have hB : ∀ W, Below w3.heap.size w3 W → w.heap.size + 1 + 1 + 1 ≤ W.heap.size := fun W h => by have := h.size; omega
        have hF : ∀ W w9, Below w3.heap.size w3 W → W.grownBy w9 u7.ownBlock → Bx w9 w2.heap.size 93 [.int .i64 u, .int .i64 v] ∧ Bx w9 w.heap.size 71 [.slice a1 n1 c1, .slice a2 n2 c2, .slice a3 n3 c3, .int .i64 L, .int .i64 R] ∧ Bx w9 (w.heap.size + 1) 93 [.int .i64 0, .int .i64 0] ∧ Bx w9 (w.heap.size + 1 + 1) 93 [.int .i64 sW, .int .i64 sS] ∧ Below w.heap.size w w9 := fun W w9 hb hg => by
          have hs := hb.size
          have far : ∀ p, p < w3.heap.size → (p < w.heap.size + 1 + 1 + 1 ∨ w2.heap.size ≤ p) → w9.heap[p]? = W.heap[p]? := fun p hp hq => hg.block p (by omega) (fun e => by have := hob p e.symm; omega)
          exact ⟨(T3.below hb).of_block (far _ (by omega) (by omega)), (U0.below hb).of_block (far _ (by omega) (by omega)), (U1.below hb).of_block (far _ (by omega) (by omega)), (U2.below hb).of_block (far _ (by omega) (by omega)), (below_step B3 hb B3.size).grown hg (by omega) (fun k hk => by have := (hob k hk).1; omega)⟩
        have X0 := T3.cell (i := 0) rfl
        have X1 := T3.cell (i := 1) rfl
        go_region_law (refine step_append_lies _ (by rfl) (.tmp 38) (.tmp 40) 73 (by rfl) (w.heap.size + 1 + 1 + 1) 2 i0 (.int .i64 0) 1 8 Tryd.underlying73 hi0 hz0 hz1 hz2 (by rfl) (by decide) u7 i (ints ls) (by rfl) (hO _ (by first | exact Below.alloc (Below.refl _ _) (Nat.le_refl _) _ | exact ((Below.refl _ _).drew).alloc (Nat.le_refl _) _ | exact ((Below.refl _ _).alloc (Nat.le_refl _) _).drew)) ⟨w2.heap.size + 1, 0, none⟩ 1 1 [.int .i64 x] (by rfl) (by rfl) (cell_one_at _ _ _ hsz3) hone (by decide) hc3 hc4 (hB _ (by first | exact Below.alloc (Below.refl _ _) (Nat.le_refl _) _ | exact ((Below.refl _ _).drew).alloc (Nat.le_refl _) _ | exact ((Below.refl _ _).alloc (Nat.le_refl _) _).drew)) _ rfl ?_; intro g9 cap9 w9 hown9 hgrow hat hlt9; obtain ⟨V3, V0, V1, V2, VB⟩ := hF _ _ (by first | exact Below.alloc (Below.refl _ _) (Nat.le_refl _) _ | exact ((Below.refl _ _).drew).alloc (Nat.le_refl _) _ | exact ((Below.refl _ _).alloc (Nat.le_refl _) _).drew) hgrow; have y0 := V3.cell (i := 0) rfl; have y1 := V3.cell (i := 1) rfl; have y2 := V2.cell (i := 0) rfl; have y3 := V2.cell (i := 1) rfl; have y4 := V2.fr 0; have y5 := V2.fr 1)
        all_goals
          have Z := (V2.set 0 (.int .i64 u)).set 1 (.int .i64 v)
          have Z0 := (V0.other (q := w.heap.size + 1 + 1) (by omega) 0 (.int .i64 u)).other (q := w.heap.size + 1 + 1) (by omega) 1 (.int .i64 v)
          have Z1 := (V1.other (q := w.heap.size + 1 + 1) (by omega) 0 (.int .i64 u)).other (q := w.heap.size + 1 + 1) (by omega) 1 (.int .i64 v)
          have ZO := own_other (own_other hown9 (show w.heap.size + 1 + 1 < w.heap.size + 1 + 1 + 1 by omega) 0 (.int .i64 u)) (show w.heap.size + 1 + 1 < w.heap.size + 1 + 1 + 1 by omega) 1 (.int .i64 v)
          have ZB := (VB.setCell (p := ⟨w.heap.size + 1 + 1, 0, none⟩) (by show w.heap.size ≤ w.heap.size + 1 + 1; omega) (.int .i64 u)).setCell (p := ⟨w.heap.size + 1 + 1, 1, none⟩) (by show w.heap.size ≤ w.heap.size + 1 + 1; omega) (.int .i64 v)
          clear X0 X1 y0 y1 y2 y3 y4 y5 V0 V1 V2 V3 VB hown9 hgrow hF hB hO
          generalize (w9.setCell ⟨w.heap.size + 1 + 1, 0, none⟩ (.int .i64 u)).setCell ⟨w.heap.size + 1 + 1, 1, none⟩ (.int .i64 v) = wz at *
          go_wp2
          go_roundw
          case rel => exact ⟨i + 1, hlt, by go_num, ⟨Z0, Z1, by rw [HSN.out]; exact Z, by rw [HLN.out]; exact ri_push hlen ZO, ZB⟩, hF1.out⟩
          case measure => first | omega | (simp [intOf]; omega)
      · have hF1 : Hid (firstE (yrE L f) n = yrE L f i) := Lib.hid (first_stop hlt h0 hE)
        have kc := fun w => step_err a1 a2 a3 n1 n2 n3 c1 c2 c3 L R (yrS L f i).1 (yrS L f i).2 (f i).c (f i).D (f i).b w hE
        rw [show stepE L (yrS L f i).1 (yrS L f i).2 (f i).c (f i).D = yrE L f i from rfl] at kc
        have hE1 : (yrE L f i != 0) = true := by simpa using hE
        have HE := Lib.hid hE
        clear hE h0 hown ownp
        generalize (f i).c = fc at *
        generalize (f i).D = fD at *
        generalize (f i).b = fb at *
        generalize yrE L f i = E at *
        generalize yrS L f i = st at *
        obtain ⟨sW, sS⟩ := st
        dsimp only at *
        have x0 := P0.cell (i := 0) rfl
        have x1 := P0.cell (i := 1) rfl
        have x2 := P0.cell (i := 2) rfl
        have x3 := P0.cell (i := 3) rfl
        have x4 := P0.cell (i := 4) rfl
        have s0 := P2.cell (i := 0) rfl
        have s1 := P2.cell (i := 1) rfl
        have p0 := Qp.cell (i := 0) rfl
        have p1 := Qp.cell (i := 1) rfl
        have p2 := Qp.cell (i := 2) rfl
        go_wp2_with (fail)
        generalize wr.alloc (.cells #[.int .i64 fc, .int .i64 fD, .bool fb] 91) = w1 at *
        with_reducible refine (kc _).mono ?_
        rintro e w2 ⟨rfl, hb2⟩
        have B2 := below_step Bp hb2 Bp.size
        have R1 := P1.below hb2
        have N3 := below_new w2 (.cells #[.int .i64 sW, .int .i64 sS] 93)
        have B3 := below_step B2 N3 B2.size
        have U1 := R1.below N3
        clear P0 P1 P2 R1 Q0 Q1 Q2 hb d0 d1 d2 x0 x1 x2 x3 x4 s0 s1 p0 p1 p2 Qp Np Bp hb2 B2 N3 kc
        have z0 := U1.cell (i := 0) rfl
        have z1 := U1.cell (i := 1) rfl
        have z2 := U1.fr 0
        have z3 := U1.fr 1
        go_wp2
        generalize w2.alloc (.cells #[.int .i64 sW, .int .i64 sS] 93) = w3 at *
        have Z := (U1.set 0 (.int .i64 0)).set 1 (.int .i64 0)
        have ZB := (B3.setCell (p := ⟨w.heap.size + 1, 0, none⟩) (by show w.heap.size ≤ w.heap.size + 1; omega) (.int .i64 0)).setCell (p := ⟨w.heap.size + 1, 1, none⟩) (by show w.heap.size ≤ w.heap.size + 1; omega) (.int .i64 0)
        generalize (w3.setCell ⟨w.heap.size + 1, 0, none⟩ (.int .i64 0)).setCell ⟨w.heap.size + 1, 1, none⟩ (.int .i64 0) = wz at *
        have q0 := Z.cell (i := 0) rfl
        have q1 := Z.cell (i := 1) rfl
        refine bodyPost_ret (v := .tuple #[.slice none 0 0, .agg #[.int .i64 0, .int .i64 0], .int .i64 E]) (by simp [results, Tryd.results34, go_sem, q0, q1]) rfl ?_
        exact ⟨fun h => absurd (hF1.out.symm.trans h) HE.out, fun _ => by rw [hF1.out], ZB⟩
    · obtain rfl : i = n := by omega
      have H0 := Lib.hid h0
      clear h0
      have hoo := own_other (own_other hown (show w.heap.size + 1 < w.heap.size + 1 + 1 + 1 by omega) 0 (.int .i64 (yrS L f i).1)) (show w.heap.size + 1 < w.heap.size + 1 + 1 + 1 by omega) 1 (.int .i64 (yrS L f i).2)
      clear hown h
      generalize hls : yrL L f i = ls at *
      generalize hst : yrS L f i = st at *
      have HLS := Lib.hid hls
      have HST := Lib.hid hst
      clear hls hst
      obtain ⟨sW, sS⟩ := st
      dsimp only at *
      have s0 := Q2.cell (i := 0) rfl
      have s1 := Q2.cell (i := 1) rfl
      have z0 := Q1.cell (i := 0) rfl
      have z1 := Q1.cell (i := 1) rfl
      have z2 := Q1.fr 0
      have z3 := Q1.fr 1
      go_wp2
      go_region
      go_wp2
      have Z := (Q1.set 0 (.int .i64 sW)).set 1 (.int .i64 sS)
      have ZB := (hb.setCell (p := ⟨w.heap.size + 1, 0, none⟩) (by show w.heap.size ≤ w.heap.size + 1; omega) (.int .i64 sW)).setCell (p := ⟨w.heap.size + 1, 1, none⟩) (by show w.heap.size ≤ w.heap.size + 1; omega) (.int .i64 sS)
      generalize (wr.setCell ⟨w.heap.size + 1, 0, none⟩ (.int .i64 sW)).setCell ⟨w.heap.size + 1, 1, none⟩ (.int .i64 sS) = wz at *
      have q0 := Z.cell (i := 0) rfl
      have q1 := Z.cell (i := 1) rfl
      refine bodyPost_ret (v := .tuple #[u7, .agg #[.int .i64 sW, .int .i64 sS], .int .i64 0]) (by simp [results, Tryd.results34, go_sem, q0, q1]) rfl ?_
      exact ⟨fun h => ⟨u7, by rw [HST.out], by rw [HLS.out]; exact own_mono (own_below hoo (below_drewN (Below.refl _ _) 1)) (show w.heap.size ≤ w.heap.size + 1 + 1 + 1 by omega)⟩, fun h => absurd H0.out h, ZB.drew⟩
end
end Go.Proofs.YtffihnbpjcgicaaDoor.Hd
