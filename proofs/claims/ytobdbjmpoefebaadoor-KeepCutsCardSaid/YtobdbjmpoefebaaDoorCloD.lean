/- table.Clone: a table with new rows, of the same values. -/
import Derived.Test.YtobdbjmpoefebaaDoorCloG
namespace Go.Proofs.YtobdbjmpoefebaaDoor
open Go.RowKit Go.Sort
set_option linter.unusedVariables false
theorem one_sch (S : Nat → SB) (n : Nat) : ∀ i, i < n → ∀ v, v ∈ (fun i => [Value.slice (S i).A (S i).n (S i).c]) i → v.oneCell' = true := by
  intro i _ v hv; simp at hv; subst hv; rfl
def at3 (W : World) (g i : Nat) : Value := (W.cell? ⟨g, i, none⟩).getD undef
/-- the box of the table, a row of the call's own, the caller's memory -/
def MSw (b B g i n c : Nat) (k : Nat) (tr : TypeId) (fv : Nat → Value) (w W : World) : Prop := RowF W b 26 5 fv ∧ (∃ xs, W.ownsRow B tr k (.slice (some ⟨g, 0, none⟩) n c) n xs) ∧ Below b w W ∧ b < B ∧ i < n * k
theorem MSw.step {b B g i n c k : Nat} {tr : TypeId} {fv : Nat → Value} {w W W' : World} (h : MSw b B g i n c k tr fv w W) (hb : Below W.heap.size W W') : MSw b B g i n c k tr fv w W' := by
  obtain ⟨h1, ⟨xs, h2⟩, h3, h4, h5⟩ := h
  exact ⟨h1.below hb, ⟨xs, own_below h2 hb⟩, below_step h3 hb (Nat.le_of_lt h1.lt), h4, h5⟩
theorem MSw.store {b B g i n c k : Nat} {tr : TypeId} {fv : Nat → Value} {w W : World} (h : MSw b B g i n c k tr fv w W) (u : Value) : MSw b B g i n c k tr fv w (W.setCell ⟨g, i, none⟩ u) := by
  obtain ⟨h1, ⟨xs, h2⟩, h3, h4, h5⟩ := h
  have hg := (own_frozen h2 0).1
  exact ⟨h1.other (by show b ≠ g; omega) u, ⟨_, own_set h2 i u⟩, h3.setCell (by show b ≤ g; omega) u, h4, h5⟩
/-- what a loop's body reads and writes -/
def SS (b B g i n c : Nat) (k : Nat) (tr : TypeId) (fv : Nat → Value) (w W : World) (j : Nat) : Prop :=
  W.cell? ⟨b, j, none⟩ = some (fv j) ∧ W.cell? ⟨g, i, none⟩ = some (at3 W g i) ∧ W.frozen? ⟨g, i, none⟩ = false ∧ MSw b B g i n c k tr fv w W
theorem SS.of {b B g i n c k j : Nat} {tr : TypeId} {fv : Nat → Value} {w W : World} (h : MSw b B g i n c k tr fv w W) (hj : j < 5) : SS b B g i n c k tr fv w W j := by
  obtain ⟨h1, ⟨xs, h2⟩, h3, h4, h5⟩ := id h
  obtain ⟨u, hu⟩ : ∃ u, xs[i]? = some u := ⟨_, List.getElem?_eq_getElem (by rw [h2.1]; exact h5)⟩
  have hc := own_cell h2 hu
  exact ⟨h1.cell hj, by unfold at3; rw [hc]; rfl, (own_frozen h2 i).2.2, h⟩
theorem SS.first {b B g i n c k : Nat} {tr : TypeId} {fv : Nat → Value} {w W : World} (j : Nat) {x : Value} (hx : fv j = x) (hj : j < 5) (h : MSw b B g i n c k tr fv w W) :
    W.cell? ⟨b, j, none⟩ = some x ∧ W.cell? ⟨g, i, none⟩ = some (at3 W g i) ∧ W.frozen? ⟨g, i, none⟩ = false ∧ Below b w W ∧ MSw b B g i n c k tr fv w W := by
  obtain ⟨a1, a2, a3, a4⟩ := SS.of h hj
  exact ⟨hx ▸ a1, a2, a3, h.2.2.1, h⟩
theorem SS.step {b B g i n c k : Nat} {tr : TypeId} {fv : Nat → Value} {w W W' : World} (j : Nat) {x : Value} (hx : fv j = x) (hj : j < 5) (hb : Below W.heap.size W W')
    (h : W.cell? ⟨b, j, none⟩ = some x ∧ W.cell? ⟨g, i, none⟩ = some (at3 W g i) ∧ W.frozen? ⟨g, i, none⟩ = false ∧ Below b w W ∧ MSw b B g i n c k tr fv w W) :
    W'.cell? ⟨b, j, none⟩ = some x ∧ W'.cell? ⟨g, i, none⟩ = some (at3 W' g i) ∧ W'.frozen? ⟨g, i, none⟩ = false ∧ Below b w W' ∧ MSw b B g i n c k tr fv w W' := SS.first j hx hj (h.2.2.2.2.step hb)
theorem SS.store {b B g i n c k : Nat} {tr : TypeId} {fv : Nat → Value} {w W : World} (j : Nat) {x : Value} (hx : fv j = x) (hj : j < 5) (u : Value)
    (h : W.cell? ⟨b, j, none⟩ = some x ∧ W.cell? ⟨g, i, none⟩ = some (at3 W g i) ∧ W.frozen? ⟨g, i, none⟩ = false ∧ Below b w W ∧ MSw b B g i n c k tr fv w W) :
    (W.setCell ⟨g, i, none⟩ u).cell? ⟨b, j, none⟩ = some x ∧ (W.setCell ⟨g, i, none⟩ u).cell? ⟨g, i, none⟩ = some (at3 (W.setCell ⟨g, i, none⟩ u) g i) ∧ (W.setCell ⟨g, i, none⟩ u).frozen? ⟨g, i, none⟩ = false ∧ Below b w (W.setCell ⟨g, i, none⟩ u) ∧ MSw b B g i n c k tr fv w (W.setCell ⟨g, i, none⟩ u) := SS.first j hx hj (h.2.2.2.2.store u)
theorem sch_at {w : World} {A : Option Addr} {n i : Nat} {S : Nat → SB} (h : SchM w A n S) (hi : i < n) : Bds w (S i).A (S i).n (S i).F (S i).R (S i).E := by
  obtain ⟨b, o, _, hc⟩ := h (by omega)
  exact (hc i hi).2
def conG (c : CB) : List Value := [.string c.N, .int .i64 c.B, .slice c.b.A c.b.n c.b.c, .int .i64 c.P, .int .i64 c.Y, .int .i64 c.W]
theorem con_row {w : World} {A : Option Addr} {n : Nat} {C : Nat → CB} (h : ConM w A n C) : RowG w A n 6 (fun i => conG (C i)) := fun hn => by
  obtain ⟨p, o, e, hc⟩ := h hn
  refine ⟨p, o, e, fun i hi j hj => ?_⟩
  obtain ⟨c0, c1, c2, c3, c4, c5, _⟩ := hc i hi
  rcases (show j = 0 ∨ j = 1 ∨ j = 2 ∨ j = 3 ∨ j = 4 ∨ j = 5 by omega) with rfl | rfl | rfl | rfl | rfl | rfl
  · exact c0
  · exact c1
  · exact c2
  · exact c3
  · exact c4
  · exact c5
theorem one_con (C : Nat → CB) (n : Nat) : ∀ i, i < n → ∀ v, v ∈ conG (C i) → v.oneCell' = true := by
  intro i _ v hv
  simp [conG] at hv
  rcases hv with rfl | rfl | rfl | rfl | rfl | rfl <;> rfl
theorem kin_row {w : World} {A : Option Addr} {n : Nat} {K : Nat → KB} (h : KinM w A n K) : RowG w A n 4 (fun i => kinG (K i)) := fun hn => by
  obtain ⟨p, o, e, hc⟩ := h hn
  refine ⟨p, o, e, fun i hi j hj => ?_⟩
  obtain ⟨c0, c1, c2, c3⟩ := hc i hi
  rcases (show j = 0 ∨ j = 1 ∨ j = 2 ∨ j = 3 by omega) with rfl | rfl | rfl | rfl
  · exact c0
  · exact c1
  · exact c2
  · exact c3
theorem one_kin (K : Nat → KB) (n : Nat) : ∀ i, i < n → ∀ v, v ∈ kinG (K i) → v.oneCell' = true := by
  intro i _ v hv
  simp [kinG] at hv
  rcases hv with rfl | rfl | rfl | rfl <;> rfl
def six (a b c d e f : Value) : Nat → Value
  | 0 => a | 1 => b | 2 => c | 3 => d | 4 => e | _ => f
theorem six_new (W : World) (a b c d e f : Value) (t : TypeId) : RowF (W.alloc (.cells #[a, b, c, d, e, f] t)) W.heap.size t 6 (six a b c d e f) := by
  refine ⟨#[a, b, c, d, e, f], by show (W.heap.push _)[W.heap.size]? = _; simp, by simp, fun q hq => ?_⟩
  rcases (show q = 0 ∨ q = 1 ∨ q = 2 ∨ q = 3 ∨ q = 4 ∨ q = 5 by omega) with rfl | rfl | rfl | rfl | rfl | rfl <;> rfl
theorem con_at {w : World} {A : Option Addr} {n i : Nat} {C : Nat → CB} (h : ConM w A n C) (hi : i < n) : Bds w (C i).b.A (C i).b.n (C i).b.F (C i).b.R (C i).b.E := by
  obtain ⟨b, o, _, hc⟩ := h (by omega)
  exact (hc i hi).2.2.2.2.2.2
theorem own_some {W : World} {B : Nat} {e : TypeId} {k n c : Nat} {A : Option Addr} {xs : List Value} (h : W.ownsRow B e k (.slice A n c) n xs) (hn : 0 < n) : ∃ g, A = some ⟨g, 0, none⟩ := by
  obtain ⟨hl, ⟨h0, h1⟩ | ⟨g, cap, cur, hv, _⟩⟩ := h
  · omega
  · injection hv with hA _ _
    exact ⟨g, hA⟩
/-- what Clone hands back: a table with new rows -/
def CloP (T : TB) (w : World) (e : Ending) (w' : World) : Prop :=
  ∃ AS cS AC cC AK cK Bc Bk, e = .returned (.agg #[.slice AS T.nS cS, .slice AC T.nC cC, .slice AK T.nK cK, .int .i64 T.L, .int .i64 T.W]) ∧ w.heap.size + 2 ≤ Bc ∧ Bc ≤ Bk ∧
    SchU w' (w.heap.size + 2) Bc AS cS T.nS T.S ∧ ConU w' Bc Bk AC cC T.nC T.C ∧ OwU w' Bk w'.heap.size 53 4 (.slice AK T.nK cK) T.nK ((List.range T.nK).flatMap (fun i => kinG (T.K i))) ∧ Below w.heap.size w w'
set_option maxRecDepth 100000 in
set_option maxHeartbeats 4000000 in
theorem clone_any (T : TB) (w : World) (h : Tm w T) (hs : T.nS ≤ 1000) (hc : T.nC ≤ 1000) (hk : T.nK ≤ 1000) (hAS : T.AS = none → T.cS = 0) (hAC : T.AC = none → T.cC = 0) (hAK : T.AK = none → T.cK = 0)
    (hCn : ∀ i, i < T.nC → ((T.C i).b.n ≤ 100000 ∧ ((T.C i).b.A = none → (T.C i).b.c = 0)) ∧ (T.C i).N.size ≤ 281474976710656)
    (hSn : ∀ i, i < T.nS → (T.S i).n ≤ 100000 ∧ ((T.S i).A = none → (T.S i).c = 0)) (hKn : ∀ i, i < T.nK → (T.K i).N.size ≤ 281474976710656) :
    Calls Tryd.prog 18 #[T.v] w (CloP T w) := by
  obtain ⟨AS, nS, cS', AC, nC, cC, AK, nK, cK, L, R, S, C, K⟩ := T
  dsimp only at hs hc hk hAS hAC hAK hSn hCn hKn
  have F0 := five_new w (.slice AS nS cS') (.slice AC nC cC) (.slice AK nK cK) (.int .i64 L) (.int .i64 R) 26
  have N0 := below_new w (.cells #[.slice AS nS cS', .slice AC nC cC, .slice AK nK cK, .int .i64 L, .int .i64 R] 26)
  have N1 := below_new (w.alloc (.cells #[.slice AS nS cS', .slice AC nC cC, .slice AK nK cK, .int .i64 L, .int .i64 R] 26)) (.cells #[.slice none 0 0, .slice none 0 0, .slice none 0 0, .int .i64 0, .int .i64 0] 26)
  have a0 := F0.cell (q := 0) (by omega)
  have hsz1 : (w.alloc (.cells #[.slice AS nS cS', .slice AC nC cC, .slice AK nK cK, .int .i64 L, .int .i64 R] 26)).heap.size = w.heap.size + 1 := by simp
  have G1 := five_new (w.alloc (.cells #[.slice AS nS cS', .slice AC nC cC, .slice AK nK cK, .int .i64 L, .int .i64 R] 26)) (.slice none 0 0) (.slice none 0 0) (.slice none 0 0) (.int .i64 0) (.int .i64 0) 26
  rw [hsz1] at G1
  clear hsz1
  have F1 := F0.below N1
  have B1 := below_step N0 N1 N0.size
  have h1 := h.below B1
  have cS := fun W (hh : SchM W AS nS S) => clone_schemes AS nS cS' W _ (fun _ => rfl) (sch_row hh) (one_sch S nS) (by omega) hAS
  have cK' := fun W (hh : KinM W AK nK K) => clone_kinds AK nK cK W _ (fun _ => rfl) (kin_row hh) (one_kin K nK) (by omega) hAK
  have cC' := fun W (hh : ConM W AC nC C) => clone_contribs AC nC cC W _ (fun _ => rfl) (con_row hh) (one_con C nC) (by omega) hAC
  show Calls Tryd.prog 18 #[.agg #[.slice AS nS cS', .slice AC nC cC, .slice AK nK cK, .int .i64 L, .int .i64 R]] w _
  go_enter Tryd.func18, Tryd.ntmps18
  go_wp2_with (fail)
  refine (cS _ h1.1).mono ?_
  clear F0 N0 N1 a0
  have hsz : ((w.alloc (.cells #[.slice AS nS cS', .slice AC nC cC, .slice AK nK cK, .int .i64 L, .int .i64 R] 26)).alloc (.cells #[.slice none 0 0, .slice none 0 0, .slice none 0 0, .int .i64 0, .int .i64 0] 26)).heap.size = w.heap.size + 2 := by simp
  generalize hw1 : (w.alloc (.cells #[.slice AS nS cS', .slice AC nC cC, .slice AK nK cK, .int .i64 L, .int .i64 R] 26)).alloc (.cells #[.slice none 0 0, .slice none 0 0, .slice none 0 0, .int .i64 0, .int .i64 0] 26) = w1 at *
  clear hw1
  rintro e w2 ⟨v, rfl, ho, hb⟩
  obtain ⟨A2, c2, rfl⟩ := own_slice ho
  have F2 := F1.below hb
  have G2 := G1.below hb
  have f0 := F2.frozen
  have d0 : w2.cell? ⟨w.heap.size, 0, none⟩ = some (.slice AS nS cS') := F2.cell (q := 0) (by omega)
  have B2 := below_step B1 hb B1.size
  have F3 := F2.set 0 (.slice A2 nS c2)
  have G3 := G2.other (a := ⟨w.heap.size, 0, none⟩) (by show w.heap.size + 1 ≠ w.heap.size; omega) (.slice A2 nS c2)
  have B3 := B2.setCell (p := ⟨w.heap.size, 0, none⟩) (Nat.le_refl _) (.slice A2 nS c2)
  rw [hsz] at ho
  have ho := own_other ho (p := w.heap.size) (by omega) 0 (.slice A2 nS c2)
  clear F1 B1 h1 F2 B2 G1 G2
  have d1 : (w2.setCell ⟨w.heap.size, 0, none⟩ (.slice A2 nS c2)).cell? ⟨w.heap.size, 0, none⟩ = some (.slice A2 nS c2) := F3.cell (q := 0) (by omega)
  have z3 : w.heap.size + 2 ≤ (w2.setCell ⟨w.heap.size, 0, none⟩ (.slice A2 nS c2)).heap.size := by rw [← hsz]; simpa using hb.size
  go_wp2
  generalize w2.setCell ⟨w.heap.size, 0, none⟩ (.slice A2 nS c2) = w3 at *
  clear d0 d1 f0 hb
  have F4 : RowF w3 w.heap.size 26 5 (five (.slice A2 nS c2) (.slice AC nC cC) (.slice AK nK cK) (.int .i64 L) (.int .i64 R)) := F3.congr (fun q hq => by
    rcases (show q = 0 ∨ q = 1 ∨ q = 2 ∨ q = 3 ∨ q = 4 by omega) with rfl | rfl | rfl | rfl | rfl <;> rfl)
  clear F3
  have C0 : nS = 0 ∧ w3.ownsRow (w.heap.size + 2) 78 1 (.slice A2 nS c2) nS [] ∨ ∃ g, A2 = some ⟨g, 0, none⟩ ∧ SchC w3 (w.heap.size + 2) g c2 nS S 0 := by
    rcases Nat.eq_zero_or_pos nS with e | e
    · refine .inl ⟨e, ?_⟩
      subst e
      simpa using ho
    · obtain ⟨m, rfl⟩ : ∃ m, nS = m + 1 := ⟨nS - 1, by omega⟩
      obtain ⟨g, cap, e2, _⟩ := rowF_of ho
      injection e2 with e3 _ e4
      subst e3
      refine .inr ⟨g, rfl, fun _ => undef, ?_, fun q hq => absurd hq (Nat.not_lt_zero _)⟩
      have e5 : (List.range (m + 1)).flatMap (fun i => [Value.slice (S i).A (S i).n (S i).c]) = (List.range (m + 1)).map (sw S (fun _ => undef) 0) := by
        simp [sw, ← List.map_eq_flatMap]
      rw [e5] at ho
      exact ho
  clear ho
  go_loopw [16] (fun v W => ∃ i : Nat, i ≤ nS ∧ v = .int .i64 i ∧ RowF W w.heap.size 26 5 (five (.slice A2 nS c2) (.slice AC nC cC) (.slice AK nK cK) (.int .i64 L) (.int .i64 R)) ∧ RowF W (w.heap.size + 1) 26 5 (five (.slice none 0 0) (.slice none 0 0) (.slice none 0 0) (.int .i64 0) (.int .i64 0)) ∧ w.heap.size + 2 ≤ W.heap.size ∧ Below w.heap.size w W ∧ (nS = 0 ∧ W.ownsRow (w.heap.size + 2) 78 1 (.slice A2 nS c2) nS [] ∨ ∃ g, A2 = some ⟨g, 0, none⟩ ∧ SchC W (w.heap.size + 2) g c2 nS S i)) (fun v _ => nS - (intOf v).toNat)
  case atStart => exact ⟨0, Nat.zero_le _, rfl, F4, G3, z3, B3, C0⟩
  case round =>
    obtain ⟨i, hi, rfl, R1, G1, Z1, Bw, hC⟩ := hrel
    clear F4 B3 C0 z3
    by_cases hlt : i < nS
    · rcases hC with ⟨e0, _⟩ | ⟨g, rfl, hC⟩
      · omega
      have hbd := sch_at h.1 hlt
      have cB := fun W (hW : Below w.heap.size w W) => clone_b (S i) W (hbd.below hW) (hSn i hlt).1 (hSn i hlt).2
      have M0 : MSw w.heap.size (w.heap.size + 2) g i nS c2 1 78 (five (.slice (some ⟨g, 0, none⟩) nS c2) (.slice AC nC cC) (.slice AK nK cK) (.int .i64 L) (.int .i64 R)) w wr := by
        obtain ⟨nu, x1, x2⟩ := hC
        exact ⟨R1, ⟨_, x1⟩, Bw, by omega, by omega⟩
      have M0 : MSw w.heap.size (w.heap.size + 2) g i nS c2 1 78 (five (.slice (some ⟨g, 0, none⟩) nS c2) (.slice AC nC cC) (.slice AK nK cK) (.int .i64 L) (.int .i64 R)) w wr.drew := M0.step (below_drewN (Below.refl _ _) 1)
      have Bw0 : Below w.heap.size w wr.drew := M0.2.2.1
      have c0 := hC.cell hlt
      have b0 : wr.cell? ⟨w.heap.size, 0, none⟩ = some (.slice (some ⟨g, 0, none⟩) nS c2) := R1.cell (q := 0) (by omega)
      have hlt2 : (i : Int) < (nS : Int) := by omega
      go_wp2
      go_region_held3 (fun W => W.cell? ⟨w.heap.size, 0, none⟩ = some (.slice (some ⟨g, 0, none⟩) nS c2) ∧ W.cell? ⟨g, i, none⟩ = some (at3 W g i) ∧ W.frozen? ⟨g, i, none⟩ = false ∧ Below w.heap.size w W ∧ MSw w.heap.size (w.heap.size + 2) g i nS c2 1 78 (five (.slice (some ⟨g, 0, none⟩) nS c2) (.slice AC nC cC) (.slice AK nK cK) (.int .i64 L) (.int .i64 R)) w W)
        ((first | exact SS.first 0 (by rfl) (by omega) M0 | exact SS.step 0 (by rfl) (by omega) hb (by assumption) | (refine SS.store 0 (by rfl) (by omega) _ ?_; assumption) | (trace_state; sorry)))
        (first | (go_at_call 46; refine (cB _ (by assumption)).mono ?_; rintro e w4 ⟨A4, c4, rfl, ho4, hb⟩))
      have Hb : Below wr.heap.size wr w4 := below_step (below_drewN (Below.refl _ _) 1) hb (Nat.le_refl _)
      have hg := hC.frozen 0
      have C5 := (hC.below Hb).set hlt (u := .slice A4 (S i).n c4) (own_mono ho4 (show g + 1 ≤ wr.heap.size by omega))
      have R5 := (R1.below Hb).other (a := ⟨g, i, none⟩) (by show w.heap.size ≠ g; omega) (.slice A4 (S i).n c4)
      have G5 := (G1.below Hb).other (a := ⟨g, i, none⟩) (by show w.heap.size + 1 ≠ g; omega) (.slice A4 (S i).n c4)
      have B5 := (below_step Bw Hb (Nat.le_of_lt R1.lt)).setCell (p := ⟨g, i, none⟩) (by show w.heap.size ≤ g; omega) (.slice A4 (S i).n c4)
      have Z5 : w.heap.size + 2 ≤ (w4.setCell ⟨g, i, none⟩ (.slice A4 (S i).n c4)).heap.size := by have := Hb.size; simp; omega
      clear ho4 hb Hb hg
      generalize w4.setCell ⟨g, i, none⟩ (.slice A4 (S i).n c4) = w5 at *
      go_wp2
      go_roundw
      case rel => exact ⟨i + 1, by omega, by go_num, R5, G5, Z5, B5, .inr ⟨g, rfl, C5⟩⟩
      case measure => first | omega | (simp [intOf]; omega)
    · obtain rfl : i = nS := by omega
      have b1 : wr.cell? ⟨w.heap.size, 1, none⟩ = some (.slice AC nC cC) := R1.cell (q := 1) (by omega)
      have SU : SchU wr (w.heap.size + 2) wr.heap.size A2 c2 i S := by
        rcases hC with ⟨e0, ho⟩ | ⟨g, rfl, hC⟩
        · subst e0
          exact SchU.none ho
        · exact SchU.of hC (hC.frozen 0).1
      clear hC ho cS
      go_wp2_with (fail)
      refine (cC' _ (h.below Bw).2.1).mono ?_
      rintro e w4 ⟨v, rfl, ho4, hb⟩
      obtain ⟨A5, c5, rfl⟩ := own_slice ho4
      have R2 := R1.below hb
      have f1 := R2.frozen 1
      have d1 : w4.cell? ⟨w.heap.size, 1, none⟩ = some (.slice AC nC cC) := R2.cell (q := 1) (by omega)
      have R3 := R2.set 1 (.slice A5 nC c5)
      have G3' := (G1.below hb).other (a := ⟨w.heap.size, 1, none⟩) (by show w.heap.size + 1 ≠ w.heap.size; omega) (.slice A5 nC c5)
      have d2 : (w4.setCell ⟨w.heap.size, 1, none⟩ (.slice A5 nC c5)).cell? ⟨w.heap.size, 1, none⟩ = some (.slice A5 nC c5) := R3.cell (q := 1) (by omega)
      have B4 := (below_step Bw hb (Nat.le_of_lt R1.lt)).setCell (p := ⟨w.heap.size, 1, none⟩) (Nat.le_refl _) (.slice A5 nC c5)
      have SU4 := (SU.kept (Nat.le_refl _) hb).other (p := w.heap.size) (by omega) 1 (.slice A5 nC c5)
      have ho5 := own_other ho4 (p := w.heap.size) (by omega) 1 (.slice A5 nC c5)
      have z4 : wr.heap.size ≤ (w4.setCell ⟨w.heap.size, 1, none⟩ (.slice A5 nC c5)).heap.size := by have := hb.size; simpa using this
      go_wp2
      generalize w4.setCell ⟨w.heap.size, 1, none⟩ (.slice A5 nC c5) = w5 at *
      clear d1 d2 f1 R2 ho4 hb b1 SU R1 Bw cC'
      have R5 : RowF w5 w.heap.size 26 5 (five (.slice A2 i c2) (.slice A5 nC c5) (.slice AK nK cK) (.int .i64 L) (.int .i64 R)) := R3.congr (fun q hq => by
        rcases (show q = 0 ∨ q = 1 ∨ q = 2 ∨ q = 3 ∨ q = 4 by omega) with rfl | rfl | rfl | rfl | rfl <;> rfl)
      clear R3
      generalize wr.heap.size = Bc at *
      have C0 : nC = 0 ∧ w5.ownsRow Bc 80 6 (.slice A5 nC c5) nC [] ∨ ∃ g, A5 = some ⟨g, 0, none⟩ ∧ ConC w5 Bc g c5 nC C 0 := by
        rcases Nat.eq_zero_or_pos nC with e | e
        · refine .inl ⟨e, ?_⟩
          subst e
          simpa using ho5
        · obtain ⟨m, rfl⟩ : ∃ m, nC = m + 1 := ⟨nC - 1, by omega⟩
          obtain ⟨g, cap, e2, _⟩ := rowF_of ho5
          injection e2 with e3 _ e4
          subst e3
          refine .inr ⟨g, rfl, fun _ => undef, ?_, fun q hq => absurd hq (Nat.not_lt_zero _)⟩
          have e5 : (fun i => conG (C i)) = cw C (fun _ => undef) 0 := by
            funext q
            unfold conG cw
            simp
          rw [e5] at ho5
          exact ho5
      clear ho5
      go_loopw [35] (fun v W => ∃ j : Nat, j ≤ nC ∧ v = .int .i64 j ∧ Below Bc w5 W ∧ (nC = 0 ∧ W.ownsRow Bc 80 6 (.slice A5 nC c5) nC [] ∨ ∃ g, A5 = some ⟨g, 0, none⟩ ∧ ConC W Bc g c5 nC C j)) (fun v _ => nC - (intOf v).toNat)
      case atStart => exact ⟨0, Nat.zero_le _, rfl, Below.refl _ _, C0⟩
      case round =>
        obtain ⟨j, hj, rfl, Bw, hC⟩ := hrel
        clear C0
        by_cases hlt : j < nC
        · rcases hC with ⟨e0, _⟩ | ⟨g, rfl, hC⟩
          · omega
          have cs := hC.cells hlt
          have q0 : wr.cell? ⟨g, j * 6, none⟩ = some (.string (C j).N) := cs 0 (by omega)
          have q1 : wr.cell? ⟨g, j * 6 + 1, none⟩ = some (.int .i64 (C j).B) := cs 1 (by omega)
          have q2 : wr.cell? ⟨g, j * 6 + 2, none⟩ = some (.slice (C j).b.A (C j).b.n (C j).b.c) := cs 2 (by omega)
          have q3 : wr.cell? ⟨g, j * 6 + 3, none⟩ = some (.int .i64 (C j).P) := cs 3 (by omega)
          have q4 : wr.cell? ⟨g, j * 6 + 4, none⟩ = some (.int .i64 (C j).Y) := cs 4 (by omega)
          have q5 : wr.cell? ⟨g, j * 6 + 5, none⟩ = some (.int .i64 (C j).W) := cs 5 (by omega)
          have hlt2 : (j : Int) < (nC : Int) := by omega
          clear cs
          have cl := fun W => strclone_any (C j).N W (hCn j hlt).2
          have hbd := con_at h.2.1 hlt
          have cB := fun W (hW : Below w.heap.size w W) => clone_b (C j).b W (hbd.below hW) (hCn j hlt).1.1 (hCn j hlt).1.2
          have R0 := six_new wr (.string (C j).N) (.int .i64 (C j).B) (.slice (C j).b.A (C j).b.n (C j).b.c) (.int .i64 (C j).P) (.int .i64 (C j).Y) (.int .i64 (C j).W) 80
          have Bn := below_new wr (.cells #[.string (C j).N, .int .i64 (C j).B, .slice (C j).b.A (C j).b.n (C j).b.c, .int .i64 (C j).P, .int .i64 (C j).Y, .int .i64 (C j).W] 80)
          have Bt := B4.trans (Bw.mono (show w.heap.size ≤ Bc by omega))
          have hle : w.heap.size ≤ wr.heap.size := Bt.size
          go_wp2
          generalize wr.alloc (.cells #[.string (C j).N, .int .i64 (C j).B, .slice (C j).b.A (C j).b.n (C j).b.c, .int .i64 (C j).P, .int .i64 (C j).Y, .int .i64 (C j).W] 80) = w6 at *
          have B6 := below_step Bt Bn hle
          have Rd : RowF w6.drew wr.heap.size _ 6 _ := R0.of_block rfl
          have Bd : Below w.heap.size w w6.drew := below_drewN B6 1
          have e0 : w6.cell? ⟨wr.heap.size, 0, none⟩ = some (.string (C j).N) := R0.cell (q := 0) (by omega)
          have e2 : w6.cell? ⟨wr.heap.size, 2, none⟩ = some (.slice (C j).b.A (C j).b.n (C j).b.c) := R0.cell (q := 2) (by omega)
          have e0' : w6.drew.cell? ⟨wr.heap.size, 0, none⟩ = some (.string (C j).N) := Rd.cell (q := 0) (by omega)
          have e2' : w6.drew.cell? ⟨wr.heap.size, 2, none⟩ = some (.slice (C j).b.A (C j).b.n (C j).b.c) := Rd.cell (q := 2) (by omega)
          go_region_with (first
            | (go_at_call 48; refine (cl _).mono ?_; rintro e w7 ⟨rfl, hb7⟩; have R7 := Rd.below hb7; have B7 := below_step Bd hb7 Bd.size; have m0 : w7.cell? ⟨wr.heap.size, 0, none⟩ = some (.string (C j).N) := R7.cell (q := 0) (by omega); have m2 : w7.cell? ⟨wr.heap.size, 2, none⟩ = some (.slice (C j).b.A (C j).b.n (C j).b.c) := R7.cell (q := 2) (by omega))
            | (go_at_call 46; refine (cB _ B7).mono ?_; rintro e w8 ⟨A8, c8, rfl, ho8, hb8⟩; have R8 := R7.below hb8; have B8 := below_step B7 hb8 B7.size; have fr := R8.frozen; have n0 : w8.cell? ⟨wr.heap.size, 0, none⟩ = some (.string (C j).N) := R8.cell (q := 0) (by omega); have R9 := R8.set 0 (.string (C j).N); have fr9 := R9.frozen; have n2 : (w8.setCell ⟨wr.heap.size, 0, none⟩ (.string (C j).N)).cell? ⟨wr.heap.size, 2, none⟩ = some (.slice (C j).b.A (C j).b.n (C j).b.c) := R9.cell (q := 2) (by omega)))
          all_goals
            have R10 := R9.set 2 (.slice A8 (C j).b.n c8)
            have Bx : Below wr.heap.size wr w8 := below_step (below_step (below_drewN Bn 1) hb7 (Nat.le_of_lt Rd.lt)) hb8 (Nat.le_of_lt R7.lt)
            have Bf := (Bx.setCell (p := ⟨wr.heap.size, 0, none⟩) (Nat.le_refl _) (.string (C j).N)).setCell (p := ⟨wr.heap.size, 2, none⟩) (Nat.le_refl _) (.slice A8 (C j).b.n c8)
            have hg := hC.frozen 0
            have Cf := hC.below Bf
            have lt7 := R7.lt
            have ho9 := own_other (own_other ho8 lt7 0 (.string (C j).N)) lt7 2 (.slice A8 (C j).b.n c8)
            have ho10 := own_mono ho9 (show g + 1 ≤ w7.heap.size by omega)
            have Rt : RowF wr w.heap.size 26 5 _ := R5.of_block (Bw.block _ (by omega))
            have Rf := Rt.below Bf
            have Bg := below_step Bw Bf (by omega)
            generalize (w8.setCell ⟨wr.heap.size, 0, none⟩ (.string (C j).N)).setCell ⟨wr.heap.size, 2, none⟩ (.slice A8 (C j).b.n c8) = w9 at *
            have t1 : w9.cell? ⟨w.heap.size, 1, none⟩ = some (.slice (some ⟨g, 0, none⟩) nC c5) := Rf.cell (q := 1) (by omega)
            have x0 : w9.cell? ⟨wr.heap.size, 0, none⟩ = some (.string (C j).N) := R10.cell (q := 0) (by omega)
            have x1 : w9.cell? ⟨wr.heap.size, 1, none⟩ = some (.int .i64 (C j).B) := R10.cell (q := 1) (by omega)
            have x2 : w9.cell? ⟨wr.heap.size, 2, none⟩ = some (.slice A8 (C j).b.n c8) := R10.cell (q := 2) (by omega)
            have x3 : w9.cell? ⟨wr.heap.size, 3, none⟩ = some (.int .i64 (C j).P) := R10.cell (q := 3) (by omega)
            have x4 : w9.cell? ⟨wr.heap.size, 4, none⟩ = some (.int .i64 (C j).Y) := R10.cell (q := 4) (by omega)
            have x5 : w9.cell? ⟨wr.heap.size, 5, none⟩ = some (.int .i64 (C j).W) := R10.cell (q := 5) (by omega)
            have y := Cf.cells hlt
            have y0 : w9.cell? ⟨g, j * 6, none⟩ = some (.string (C j).N) := y 0 (by omega)
            have y1 : w9.cell? ⟨g, j * 6 + 1, none⟩ = some (.int .i64 (C j).B) := y 1 (by omega)
            have y2 : w9.cell? ⟨g, j * 6 + 2, none⟩ = some (.slice (C j).b.A (C j).b.n (C j).b.c) := y 2 (by omega)
            have y3 : w9.cell? ⟨g, j * 6 + 3, none⟩ = some (.int .i64 (C j).P) := y 3 (by omega)
            have y4 : w9.cell? ⟨g, j * 6 + 4, none⟩ = some (.int .i64 (C j).Y) := y 4 (by omega)
            have y5 : w9.cell? ⟨g, j * 6 + 5, none⟩ = some (.int .i64 (C j).W) := y 5 (by omega)
            have fz := fun q => (Cf.frozen q).2.2
            have Cn := Cf.set hlt ho10
            have hgB : Bc ≤ g := hg.1
            have Bn2 := (((((Bg.setCell (p := ⟨g, j * 6, none⟩) hgB (.string (C j).N)).setCell (p := ⟨g, j * 6 + 1, none⟩) hgB (.int .i64 (C j).B)).setCell (p := ⟨g, j * 6 + 2, none⟩) hgB (.slice A8 (C j).b.n c8)).setCell (p := ⟨g, j * 6 + 3, none⟩) hgB (.int .i64 (C j).P)).setCell (p := ⟨g, j * 6 + 4, none⟩) hgB (.int .i64 (C j).Y)).setCell (p := ⟨g, j * 6 + 5, none⟩) hgB (.int .i64 (C j).W)
            clear y R10 Bx Bf ho8 ho9 ho10 R9 R8 R7 R0 Rd hb7 hb8 m0 m2 n0 n2 fr fr9 e0 e2 e0' e2' q0 q1 q2 q3 q4 q5 B6 B7 B8 Bd Bt Bn Cf cl cB
            go_wp2
            exact ⟨⟨j + 1, by omega, by go_num, Bn2, .inr ⟨g, rfl, Cn⟩⟩, by first | omega | (simp [intOf]; omega)⟩
        · obtain rfl : j = nC := by omega
          have CU : ConU wr Bc wr.heap.size A5 c5 j C := by
            rcases hC with ⟨e0, ho⟩ | ⟨g, rfl, hC⟩
            · subst e0; exact ConU.none ho
            · exact ConU.of hC (hC.frozen 0).1
          have SU6 := SU4.kept (Nat.le_refl _) Bw
          have Rt : RowF wr w.heap.size 26 5 _ := R5.of_block (Bw.block _ (by omega))
          have Gt : RowF wr (w.heap.size + 1) 26 5 _ := G3'.of_block (Bw.block _ (by omega))
          have Bt := B4.trans (Bw.mono (show w.heap.size ≤ Bc by omega))
          have hBk : Bc ≤ wr.heap.size := by have := Bw.size; omega
          have b2 : wr.cell? ⟨w.heap.size, 2, none⟩ = some (.slice AK nK cK) := Rt.cell (q := 2) (by omega)
          clear hC SU4 R5 G3' B4 Bw z4
          go_wp2_with (fail)
          refine (cK' _ (h.below Bt).2.2).mono ?_
          rintro e w7 ⟨v, rfl, ho7, hb⟩
          obtain ⟨A8, c8, rfl⟩ := own_slice ho7
          have R2 := Rt.below hb
          have f2 := R2.frozen 2
          have d1 : w7.cell? ⟨w.heap.size, 2, none⟩ = some (.slice AK nK cK) := R2.cell (q := 2) (by omega)
          have R3 := R2.set 2 (.slice A8 nK c8)
          have G3 := (Gt.below hb).other (a := ⟨w.heap.size, 2, none⟩) (by show w.heap.size + 1 ≠ w.heap.size; omega) (.slice A8 nK c8)
          have d2 : (w7.setCell ⟨w.heap.size, 2, none⟩ (.slice A8 nK c8)).cell? ⟨w.heap.size, 2, none⟩ = some (.slice A8 nK c8) := R3.cell (q := 2) (by omega)
          have B8 := (below_step Bt hb (by omega)).setCell (p := ⟨w.heap.size, 2, none⟩) (Nat.le_refl _) (.slice A8 nK c8)
          have CU8 := (CU.kept (Nat.le_refl _) hb).other (p := w.heap.size) (by omega) 2 (.slice A8 nK c8)
          have SU8 := (SU6.kept hBk hb).other (p := w.heap.size) (by omega) 2 (.slice A8 nK c8)
          have ho8 := own_other ho7 (p := w.heap.size) (by omega) 2 (.slice A8 nK c8)
          have z8 : wr.heap.size ≤ (w7.setCell ⟨w.heap.size, 2, none⟩ (.slice A8 nK c8)).heap.size := by have := hb.size; simpa using this
          go_wp2
          generalize w7.setCell ⟨w.heap.size, 2, none⟩ (.slice A8 nK c8) = w8 at *
          have R8 : RowF w8 w.heap.size 26 5 (five (.slice A2 i c2) (.slice A5 j c5) (.slice A8 nK c8) (.int .i64 L) (.int .i64 R)) := R3.congr (fun q hq => by
            rcases (show q = 0 ∨ q = 1 ∨ q = 2 ∨ q = 3 ∨ q = 4 by omega) with rfl | rfl | rfl | rfl | rfl <;> rfl)
          clear R3 d1 d2 f2 R2 ho7 hb b2 CU SU6 Rt Gt Bt cK'
          generalize wr.heap.size = Bk at *
          go_loopw [61] (fun v W => ∃ q : Nat, q ≤ nK ∧ v = .int .i64 q ∧ Below Bk w8 W ∧ W.ownsRow Bk 53 4 (.slice A8 nK c8) nK ((List.range nK).flatMap (fun i => kinG (K i)))) (fun v _ => nK - (intOf v).toNat)
          case atStart => exact ⟨0, Nat.zero_le _, rfl, Below.refl _ _, ho8⟩
          case round =>
            obtain ⟨q, hq, rfl, Bw, hO⟩ := hrel
            by_cases hlt : q < nK
            · obtain ⟨g, rfl⟩ := own_some hO (by omega)
              have cs := kin_cells hO hlt
              have q0 : wr.cell? ⟨g, q * 4, none⟩ = some (.string (K q).N) := cs 0 (by omega)
              have q1 : wr.cell? ⟨g, q * 4 + 1, none⟩ = some (.int .i64 (K q).c) := cs 1 (by omega)
              have q2 : wr.cell? ⟨g, q * 4 + 2, none⟩ = some (.int .i64 (K q).t) := cs 2 (by omega)
              have q3 : wr.cell? ⟨g, q * 4 + 3, none⟩ = some (.int .i64 (K q).s) := cs 3 (by omega)
              have hlt2 : (q : Int) < (nK : Int) := by omega
              have ok := fun W => ownkind_any (K q).N (K q).c (K q).t (K q).s W (hKn q hlt)
              have hfg := own_frozen hO 0
              clear cs
              have Q0 := quad_new wr (.string (K q).N) (.int .i64 (K q).c) (.int .i64 (K q).t) (.int .i64 (K q).s) 53
              have Bn := below_new wr (.cells #[.string (K q).N, .int .i64 (K q).c, .int .i64 (K q).t, .int .i64 (K q).s] 53)
              have Rt : RowF wr w.heap.size 26 5 _ := R8.of_block (Bw.block _ (by omega))
              go_wp2
              generalize wr.alloc (.cells #[.string (K q).N, .int .i64 (K q).c, .int .i64 (K q).t, .int .i64 (K q).s] 53) = w9 at *
              have R9 := Rt.below Bn
              have O9 := own_below hO Bn
              have Bd : Below w9.heap.size w9 w9.drew := below_drewN (Below.refl _ _) 1
              have R9d := R9.below Bd
              have Q9d := Q0.below Bd
              have e2 : w9.cell? ⟨w.heap.size, 2, none⟩ = some (.slice (some ⟨g, 0, none⟩) nK c8) := R9.cell (q := 2) (by omega)
              have e2' : w9.drew.cell? ⟨w.heap.size, 2, none⟩ = some (.slice (some ⟨g, 0, none⟩) nK c8) := R9d.cell (q := 2) (by omega)
              have k0 : w9.drew.cell? ⟨wr.heap.size, 0, none⟩ = some (.string (K q).N) := Q9d.cell (q := 0) (by omega)
              have k1 : w9.drew.cell? ⟨wr.heap.size, 1, none⟩ = some (.int .i64 (K q).c) := Q9d.cell (q := 1) (by omega)
              have k2 : w9.drew.cell? ⟨wr.heap.size, 2, none⟩ = some (.int .i64 (K q).t) := Q9d.cell (q := 2) (by omega)
              have k3 : w9.drew.cell? ⟨wr.heap.size, 3, none⟩ = some (.int .i64 (K q).s) := Q9d.cell (q := 3) (by omega)
              have l0 : w9.cell? ⟨wr.heap.size, 0, none⟩ = some (.string (K q).N) := Q0.cell (q := 0) (by omega)
              have l1 : w9.cell? ⟨wr.heap.size, 1, none⟩ = some (.int .i64 (K q).c) := Q0.cell (q := 1) (by omega)
              have l2 : w9.cell? ⟨wr.heap.size, 2, none⟩ = some (.int .i64 (K q).t) := Q0.cell (q := 2) (by omega)
              have l3 : w9.cell? ⟨wr.heap.size, 3, none⟩ = some (.int .i64 (K q).s) := Q0.cell (q := 3) (by omega)
              have Od := own_below O9 Bd
              have Bnd := below_step Bn Bd Bn.size
              go_region_with (first
                | (go_at_call 50; refine (ok _).mono ?_; rintro e w10 ⟨rfl, hb10⟩; have R10 := R9d.below hb10; have m2 : w10.cell? ⟨w.heap.size, 2, none⟩ = some (.slice (some ⟨g, 0, none⟩) nK c8) := R10.cell (q := 2) (by omega); have O10 := own_below Od hb10; have c10 := kin_cells O10 hlt; have n0 : w10.cell? ⟨g, q * 4, none⟩ = some (.string (K q).N) := c10 0 (by omega); have n1 : w10.cell? ⟨g, q * 4 + 1, none⟩ = some (.int .i64 (K q).c) := c10 1 (by omega); have n2 : w10.cell? ⟨g, q * 4 + 2, none⟩ = some (.int .i64 (K q).t) := c10 2 (by omega); have n3 : w10.cell? ⟨g, q * 4 + 3, none⟩ = some (.int .i64 (K q).s) := c10 3 (by omega); have fz := fun z => (own_frozen O10 z).2.2; clear c10))
              all_goals
                have Bx : Below wr.heap.size wr w10 := below_step Bnd hb10 Bnd.size
                have Bg := below_step Bw Bx (by omega)
                have Of := kin_set O10 hlt
                have hgB : Bk ≤ g := hfg.1
                have Bf := (((Bg.setCell (p := ⟨g, q * 4, none⟩) hgB (.string (K q).N)).setCell (p := ⟨g, q * 4 + 1, none⟩) hgB (.int .i64 (K q).c)).setCell (p := ⟨g, q * 4 + 2, none⟩) hgB (.int .i64 (K q).t)).setCell (p := ⟨g, q * 4 + 3, none⟩) hgB (.int .i64 (K q).s)
                clear R10 O10 O9 Od Bnd R9d Q9d k0 k1 k2 k3 l0 l1 l2 l3 e2 e2' Bd ok Bx Bg
                go_wp2
                exact ⟨⟨q + 1, by omega, by go_num, Bf, Of⟩, by first | omega | (simp [intOf]; omega)⟩
            · obtain rfl : q = nK := by omega
              have Rt : RowF wr w.heap.size 26 5 _ := R8.of_block (Bw.block _ (by omega))
              have Gt : RowF wr (w.heap.size + 1) 26 5 _ := G3.of_block (Bw.block _ (by omega))
              have SU9 := SU8.kept hBk Bw
              have CU9 := CU8.kept (Nat.le_refl _) Bw
              have BB := B8.trans (Bw.mono (show w.heap.size ≤ Bk by omega))
              clear R8 G3 SU8 CU8 B8 Bw z8
              have b0 : wr.cell? ⟨w.heap.size, 0, none⟩ = some (.slice A2 i c2) := Rt.cell (q := 0) (by omega)
              have b1 : wr.cell? ⟨w.heap.size, 1, none⟩ = some (.slice A5 j c5) := Rt.cell (q := 1) (by omega)
              have b2 : wr.cell? ⟨w.heap.size, 2, none⟩ = some (.slice A8 q c8) := Rt.cell (q := 2) (by omega)
              have b3 : wr.cell? ⟨w.heap.size, 3, none⟩ = some (.int .i64 L) := Rt.cell (q := 3) (by omega)
              have b4 : wr.cell? ⟨w.heap.size, 4, none⟩ = some (.int .i64 R) := Rt.cell (q := 4) (by omega)
              have z0 : wr.cell? ⟨w.heap.size + 1, 0, none⟩ = some (.slice none 0 0) := Gt.cell (q := 0) (by omega)
              have z1 : wr.cell? ⟨w.heap.size + 1, 1, none⟩ = some (.slice none 0 0) := Gt.cell (q := 1) (by omega)
              have z2 : wr.cell? ⟨w.heap.size + 1, 2, none⟩ = some (.slice none 0 0) := Gt.cell (q := 2) (by omega)
              have z3 : wr.cell? ⟨w.heap.size + 1, 3, none⟩ = some (.int .i64 0) := Gt.cell (q := 3) (by omega)
              have z4 : wr.cell? ⟨w.heap.size + 1, 4, none⟩ = some (.int .i64 0) := Gt.cell (q := 4) (by omega)
              have fz := Gt.frozen
              have rf := (((((Gt.set 0 (.slice A2 i c2)).set 1 (.slice A5 j c5)).set 2 (.slice A8 q c8)).set 3 (.int .i64 L)).set 4 (.int .i64 R))
              have su := (((((SU9.other (p := w.heap.size + 1) (by omega) 0 (.slice A2 i c2)).other (p := w.heap.size + 1) (by omega) 1 (.slice A5 j c5)).other (p := w.heap.size + 1) (by omega) 2 (.slice A8 q c8)).other (p := w.heap.size + 1) (by omega) 3 (.int .i64 L)).other (p := w.heap.size + 1) (by omega) 4 (.int .i64 R))
              have cu := (((((CU9.other (p := w.heap.size + 1) (by omega) 0 (.slice A2 i c2)).other (p := w.heap.size + 1) (by omega) 1 (.slice A5 j c5)).other (p := w.heap.size + 1) (by omega) 2 (.slice A8 q c8)).other (p := w.heap.size + 1) (by omega) 3 (.int .i64 L)).other (p := w.heap.size + 1) (by omega) 4 (.int .i64 R))
              have oo := (own_other (own_other (own_other (own_other (own_other hO (p := w.heap.size + 1) (by omega) 0 (.slice A2 i c2)) (p := w.heap.size + 1) (by omega) 1 (.slice A5 j c5)) (p := w.heap.size + 1) (by omega) 2 (.slice A8 q c8)) (p := w.heap.size + 1) (by omega) 3 (.int .i64 L)) (p := w.heap.size + 1) (by omega) 4 (.int .i64 R))
              have bb := (((((BB.setCell (p := ⟨w.heap.size + 1, 0, none⟩) (show w.heap.size ≤ w.heap.size + 1 by omega) (.slice A2 i c2)).setCell (p := ⟨w.heap.size + 1, 1, none⟩) (show w.heap.size ≤ w.heap.size + 1 by omega) (.slice A5 j c5)).setCell (p := ⟨w.heap.size + 1, 2, none⟩) (show w.heap.size ≤ w.heap.size + 1 by omega) (.slice A8 q c8)).setCell (p := ⟨w.heap.size + 1, 3, none⟩) (show w.heap.size ≤ w.heap.size + 1 by omega) (.int .i64 L)).setCell (p := ⟨w.heap.size + 1, 4, none⟩) (show w.heap.size ≤ w.heap.size + 1 by omega) (.int .i64 R))
              go_wp2
              generalize (((((wr.setCell ⟨w.heap.size + 1, 0, none⟩ (.slice A2 i c2)).setCell ⟨w.heap.size + 1, 1, none⟩ (.slice A5 j c5)).setCell ⟨w.heap.size + 1, 2, none⟩ (.slice A8 q c8)).setCell ⟨w.heap.size + 1, 3, none⟩ (.int .i64 L)).setCell ⟨w.heap.size + 1, 4, none⟩ (.int .i64 R)) = w9 at *
              have y0 : w9.cell? ⟨w.heap.size + 1, 0, none⟩ = some (.slice A2 i c2) := rf.cell (q := 0) (by omega)
              have y1 : w9.cell? ⟨w.heap.size + 1, 1, none⟩ = some (.slice A5 j c5) := rf.cell (q := 1) (by omega)
              have y2 : w9.cell? ⟨w.heap.size + 1, 2, none⟩ = some (.slice A8 q c8) := rf.cell (q := 2) (by omega)
              have y3 : w9.cell? ⟨w.heap.size + 1, 3, none⟩ = some (.int .i64 L) := rf.cell (q := 3) (by omega)
              have y4 : w9.cell? ⟨w.heap.size + 1, 4, none⟩ = some (.int .i64 R) := rf.cell (q := 4) (by omega)
              refine bodyPost_ret (v := .agg #[.slice A2 i c2, .slice A5 j c5, .slice A8 q c8, .int .i64 L, .int .i64 R]) (by simp [results, Tryd.results18, go_sem, y0, y1, y2, y3, y4]) rfl ?_
              exact ⟨A2, c2, A5, c5, A8, c8, Bc, Bk, rfl, Z1, hBk, su, cu, OwU.of oo, bb⟩
end Go.Proofs.YtobdbjmpoefebaaDoor
