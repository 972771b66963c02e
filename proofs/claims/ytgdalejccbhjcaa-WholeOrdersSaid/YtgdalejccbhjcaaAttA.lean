/- What attach.Serve answers of orders that may be: one by one, each before the next. -/
import Derived.Test.YtgdalejccbhjcaaOrdA
import Derived.Deep.QuietTactic
import Derived.ScopeJumps
import Derived.OwnWalk
import Derived.Maps.AppendAt
import Derived.BigQuiet
namespace Go.Proofs.Ytgdalejccbhjcaa
open Go.RowKit Go.Sort
set_option linter.unusedVariables false
set_option linter.unusedSimpArgs false

theorem jump_mono {l : Nat} {J J' : Act → World → Prop} {Q : Exit → Act → World → Prop} (h : ∀ a w, J a w → J' a w) (e : Exit) (a : Act) (w : World) (k : Exit.jump l J Q e a w) : Exit.jump l J' Q e a w := by
  cases e <;> first | exact k | exact ⟨k.1, h _ _ k.2⟩
/-- a scope whose first way comes to the label itself -/
theorem scope_jumps {P : Program} {a : Act} {w : World} {Q : Exit → Act → World → Prop} {c rest : Code} (l : Nat) (J : Act → World → Prop) (μ : Act → World → Nat) (hf : findLabel c l = some (.seq .skip rest))
    (pass : ∀ a w, J a w → rest.wp P (Exit.jump l (fun a' w' => J a' w' ∧ μ a' w' < μ a w) Q) a w)
    (first : (∀ a w, J a w → rest.wp P (Exit.jump l J Q) a w) → c.wp P (Exit.jump l J Q) a w) : (Code.scope c).wp P Q a w :=
  wp_scope_jumps l J μ hf (first fun a w h => wp_mono (pass a w h) (jump_mono fun _ _ k => k.1)) fun a w h => wp_seq (wp_skip (pass a w h))

def Tkn.v (x : Tkn) : Value := .agg #[.int .i64 x.o, .int .i64 x.b, .int .i64 x.r, .int .i64 x.d, .int .i64 x.t, .int .i64 x.c]
def tkn0 : Tkn := ⟨0, 0, 0, 0, 0, 0⟩
/-- what an order comes to, if no more than so much may be taken -/
def Sta.svX (s : Sta) (n m : Int) : Tkn := ⟨s.id, s.ar, s.ordX n, s.dueX n, leI (s.dueX n) m, s.dueX n - leI (s.dueX n) m⟩
theorem infoTk : (Try.prog.info? 43).map (fun i => (i.zero, i.size, i.bytes)) = some (some (.agg #[.int .i64 0, .int .i64 0, .int .i64 0, .int .i64 0, .int .i64 0, .int .i64 0]), 6, 48) := by kernel_rfl
set_option maxHeartbeats 4000000 in
theorem asv_no (s : Sta) (n m : Int) (w : World) (h : s.OK) (hb : s.dueB n = false) :
    Calls Try.prog 25 #[s.v, .int .i64 n, .int .i64 m] w fun e w' => e = .returned (.tuple #[tkn0.v, .int .i64 10]) ∧ Below w.heap.size w w' := by
  have K := (bx_new w s.cs 31).alloc (.cells #[.int .i64 0, .int .i64 0, .int .i64 0, .int .i64 0, .int .i64 0, .int .i64 0] 43)
  have K2 := bx_at (w.alloc (.cells s.cs.toArray 31)) [.int .i64 0, .int .i64 0, .int .i64 0, .int .i64 0, .int .i64 0, .int .i64 0] 43 (n := w.heap.size + 1) (by simp)
  have B1 := (below_new w (.cells s.cs.toArray 31)).alloc (by simp) (.cells #[.int .i64 0, .int .i64 0, .int .i64 0, .int .i64 0, .int .i64 0, .int .i64 0] 43)
  have hp : w.heap.size ≤ w.heap.size + 1 := by omega
  by_cases hs : n ≤ 100000000000 ∧ s.ordB n = true
  · have cO := fun W => ordered_any s n W h hs.1 true hs.2
    have ho := h.ord_bd hs.1
    have hnum := h.nums
    have hX : s.dueX n = s.ordX n + s.ar := rfl
    have hD : (s.ordB n && decide (s.dueX n ≤ 100000000000)) = false := hb
    rw [hs.2, Bool.true_and, decide_eq_false_iff_not] at hD
    have cA := fun W => add_bad (s.ordX n) s.ar W (by rw [amtB_mk_no (x := s.ordX n + s.ar) (.inr (by omega))]; simp)
    simp only [if_true] at cO
    unfold Sta.v at cO ⊢
    unfold Sta.cs at K K2 B1
    generalize s.ordX n = X at *
    clear hX hD hb hs hnum h ho
    generalize s.id = i at *
    generalize s.pr = p at *
    generalize s.am = a at *
    generalize s.rt = r at *
    generalize s.tot = t at *
    generalize s.tk = k at *
    generalize s.ar = q at *
    have k0 := K.cell (i := 0) rfl
    have k1 := K.cell (i := 1) rfl
    have k2 := K.cell (i := 2) rfl
    have k3 := K.cell (i := 3) rfl
    have k4 := K.cell (i := 4) rfl
    have k5 := K.cell (i := 5) rfl
    have k6 := K.cell (i := 6) rfl
    go_enter Try.func25, Try.ntmps25
    go_wp2_with (fail)
    with_reducible refine (cO _).mono ?_
    rintro e w1 ⟨rfl, NB⟩
    replace K := K.below NB
    replace K2 := K2.below NB
    have B2 := below_step B1 NB B1.size
    clear k0 k1 k2 k3 k4 k5 k6 cO B1 NB
    have k6 := K.cell (i := 6) rfl
    go_wp2_with (fail)
    with_reducible refine (cA _).mono ?_
    rintro e w2 ⟨rfl, NB⟩
    replace K2 := K2.below NB
    have B3 := below_step B2 NB B2.size
    clear k6 K cA B2 NB
    have f0 := K2.fr 0
    have y0 := K2.cell (i := 0) rfl
    have f1 := K2.fr 1
    have y1 := K2.cell (i := 1) rfl
    have f2 := K2.fr 2
    have y2 := K2.cell (i := 2) rfl
    have f3 := K2.fr 3
    have y3 := K2.cell (i := 3) rfl
    have f4 := K2.fr 4
    have y4 := K2.cell (i := 4) rfl
    have f5 := K2.fr 5
    have y5 := K2.cell (i := 5) rfl
    have Z := ((((((K2.set 0 (.int .i64 0)).set 1 (.int .i64 0)).set 2 (.int .i64 0)).set 3 (.int .i64 0)).set 4 (.int .i64 0)).set 5 (.int .i64 0))
    have z0 := Z.cell (i := 0) rfl
    have z1 := Z.cell (i := 1) rfl
    have z2 := Z.cell (i := 2) rfl
    have z3 := Z.cell (i := 3) rfl
    have z4 := Z.cell (i := 4) rfl
    have z5 := Z.cell (i := 5) rfl
    clear Z K2
    go_wp2
    exact bodyPost_ret (v := .tuple #[.agg #[.int .i64 0, .int .i64 0, .int .i64 0, .int .i64 0, .int .i64 0, .int .i64 0], .int .i64 10]) (by simp [results, Try.results25, go_sem, z0, z1, z2, z3, z4, z5]) rfl ⟨rfl, ((((((B3.setCell (p := ⟨w.heap.size + 1, 0, none⟩) hp _).setCell (p := ⟨w.heap.size + 1, 1, none⟩) hp _).setCell (p := ⟨w.heap.size + 1, 2, none⟩) hp _).setCell (p := ⟨w.heap.size + 1, 3, none⟩) hp _).setCell (p := ⟨w.heap.size + 1, 4, none⟩) hp _).setCell (p := ⟨w.heap.size + 1, 5, none⟩) hp _)⟩
  · have cO : ∀ W, Calls Try.prog 39 #[s.v, .int .i64 n] W fun e w' => e = .returned (.tuple #[.int .i64 0, .int .i64 10]) ∧ Below W.heap.size W w' := fun W => by
      by_cases hn : n ≤ 100000000000
      · have hf : s.ordB n = false := by
          cases hq : s.ordB n
          · rfl
          · exact absurd ⟨hn, hq⟩ hs
        have := ordered_any s n W h hn false hf
        simpa only [if_neg Bool.false_ne_true] using this
      · exact ordered_far s n W h (by omega)
    unfold Sta.v at cO ⊢
    unfold Sta.cs at K K2 B1
    clear hb hs h
    generalize s.id = i at *
    generalize s.pr = p at *
    generalize s.am = a at *
    generalize s.rt = r at *
    generalize s.tot = t at *
    generalize s.tk = k at *
    generalize s.ar = q at *
    have k0 := K.cell (i := 0) rfl
    have k1 := K.cell (i := 1) rfl
    have k2 := K.cell (i := 2) rfl
    have k3 := K.cell (i := 3) rfl
    have k4 := K.cell (i := 4) rfl
    have k5 := K.cell (i := 5) rfl
    have k6 := K.cell (i := 6) rfl
    go_enter Try.func25, Try.ntmps25
    go_wp2_with (fail)
    with_reducible refine (cO _).mono ?_
    rintro e w1 ⟨rfl, NB⟩
    replace K2 := K2.below NB
    have B3 := below_step B1 NB B1.size
    clear k0 k1 k2 k3 k4 k5 k6 cO B1 NB K
    have f0 := K2.fr 0
    have y0 := K2.cell (i := 0) rfl
    have f1 := K2.fr 1
    have y1 := K2.cell (i := 1) rfl
    have f2 := K2.fr 2
    have y2 := K2.cell (i := 2) rfl
    have f3 := K2.fr 3
    have y3 := K2.cell (i := 3) rfl
    have f4 := K2.fr 4
    have y4 := K2.cell (i := 4) rfl
    have f5 := K2.fr 5
    have y5 := K2.cell (i := 5) rfl
    have Z := ((((((K2.set 0 (.int .i64 0)).set 1 (.int .i64 0)).set 2 (.int .i64 0)).set 3 (.int .i64 0)).set 4 (.int .i64 0)).set 5 (.int .i64 0))
    have z0 := Z.cell (i := 0) rfl
    have z1 := Z.cell (i := 1) rfl
    have z2 := Z.cell (i := 2) rfl
    have z3 := Z.cell (i := 3) rfl
    have z4 := Z.cell (i := 4) rfl
    have z5 := Z.cell (i := 5) rfl
    clear Z K2
    go_wp2
    exact bodyPost_ret (v := .tuple #[.agg #[.int .i64 0, .int .i64 0, .int .i64 0, .int .i64 0, .int .i64 0, .int .i64 0], .int .i64 10]) (by simp [results, Try.results25, go_sem, z0, z1, z2, z3, z4, z5]) rfl ⟨rfl, ((((((B3.setCell (p := ⟨w.heap.size + 1, 0, none⟩) hp _).setCell (p := ⟨w.heap.size + 1, 1, none⟩) hp _).setCell (p := ⟨w.heap.size + 1, 2, none⟩) hp _).setCell (p := ⟨w.heap.size + 1, 3, none⟩) hp _).setCell (p := ⟨w.heap.size + 1, 4, none⟩) hp _).setCell (p := ⟨w.heap.size + 1, 5, none⟩) hp _)⟩
set_option maxHeartbeats 4000000 in
theorem asv_ok (s : Sta) (n m : Int) (w : World) (h : s.OK) (hb : s.dueB n = true) (hm : 0 ≤ m ∧ m ≤ 100000000000) :
    Calls Try.prog 25 #[s.v, .int .i64 n, .int .i64 m] w fun e w' => e = .returned (.tuple #[(s.svX n m).v, .int .i64 0]) ∧ Below w.heap.size w w' := by
  have K := (bx_new w s.cs 31).alloc (.cells #[.int .i64 0, .int .i64 0, .int .i64 0, .int .i64 0, .int .i64 0, .int .i64 0] 43)
  have K2 := bx_at (w.alloc (.cells s.cs.toArray 31)) [.int .i64 0, .int .i64 0, .int .i64 0, .int .i64 0, .int .i64 0, .int .i64 0] 43 (n := w.heap.size + 1) (by simp)
  have B1 := (below_new w (.cells s.cs.toArray 31)).alloc (by simp) (.cells #[.int .i64 0, .int .i64 0, .int .i64 0, .int .i64 0, .int .i64 0, .int .i64 0] 43)
  have hp : w.heap.size ≤ w.heap.size + 1 := by omega
  obtain ⟨d1, d2, d3⟩ := dueB_yes hb
  have hob : s.ordB n = true := by
    have hD : (s.ordB n && decide (s.dueX n ≤ 100000000000)) = true := hb
    exact (Bool.and_eq_true_iff.1 hD).1
  have cO := fun W => ordered_any s n W h d1 true hob
  have ho := h.ord_bd d1
  have hnum := h.nums
  have hX : s.dueX n = s.ordX n + s.ar := rfl
  have cA := fun W => add_ok (s.ordX n) s.ar W (by rw [amtB_mk (by omega) (by omega), amtB_mk (by omega) (by omega)]; rfl) (amtB_mk (by omega) (by omega))
  have cM := fun W => least_any (s.dueX n) m W
  rw [show (if s.dueX n ≤ m then s.dueX n else m) = leI (s.dueX n) m from rfl] at cM
  have hL : -100000000000 ≤ leI (s.dueX n) m ∧ leI (s.dueX n) m ≤ 100000000000 := by unfold leI; split <;> omega
  rw [← hX] at cA
  simp only [if_true] at cO
  have hD0 : 0 ≤ s.dueX n := by omega
  unfold Sta.v at cO ⊢
  unfold Sta.cs at K K2 B1
  unfold Tkn.v Sta.svX
  generalize leI (s.dueX n) m = L at *
  generalize s.dueX n = D at *
  generalize s.ordX n = X at *
  clear hX hob hb hnum h ho d1 d2
  generalize s.id = i at *
  generalize s.pr = p at *
  generalize s.am = a at *
  generalize s.rt = r at *
  generalize s.tot = t at *
  generalize s.tk = k at *
  generalize s.ar = q at *
  have k0 := K.cell (i := 0) rfl
  have k1 := K.cell (i := 1) rfl
  have k2 := K.cell (i := 2) rfl
  have k3 := K.cell (i := 3) rfl
  have k4 := K.cell (i := 4) rfl
  have k5 := K.cell (i := 5) rfl
  have k6 := K.cell (i := 6) rfl
  go_enter Try.func25, Try.ntmps25
  go_wp2_with (fail)
  with_reducible refine (cO _).mono ?_
  rintro e w1 ⟨rfl, NB⟩
  replace K := K.below NB
  replace K2 := K2.below NB
  have B2 := below_step B1 NB B1.size
  clear k0 k1 k2 k3 k4 k5 k6 cO B1 NB
  have k6 := K.cell (i := 6) rfl
  go_wp2_with (fail)
  with_reducible refine (cA _).mono ?_
  rintro e w2 ⟨rfl, NB⟩
  replace K := K.below NB
  replace K2 := K2.below NB
  have B3 := below_step B2 NB B2.size
  clear k6 cA B2 NB
  go_wp2_with (fail)
  with_reducible refine (cM _).mono ?_
  rintro e w3 ⟨rfl, rfl⟩
  have k0 := K.cell (i := 0) rfl
  have k6 := K.cell (i := 6) rfl
  clear cM
  have f0 := K2.fr 0
  have y0 := K2.cell (i := 0) rfl
  have f1 := K2.fr 1
  have y1 := K2.cell (i := 1) rfl
  have f2 := K2.fr 2
  have y2 := K2.cell (i := 2) rfl
  have f3 := K2.fr 3
  have y3 := K2.cell (i := 3) rfl
  have f4 := K2.fr 4
  have y4 := K2.cell (i := 4) rfl
  have f5 := K2.fr 5
  have y5 := K2.cell (i := 5) rfl
  have Z := ((((((K2.set 0 (.int .i64 i)).set 1 (.int .i64 q)).set 2 (.int .i64 X)).set 3 (.int .i64 D)).set 4 (.int .i64 L)).set 5 (.int .i64 (D - L)))
  have z0 := Z.cell (i := 0) rfl
  have z1 := Z.cell (i := 1) rfl
  have z2 := Z.cell (i := 2) rfl
  have z3 := Z.cell (i := 3) rfl
  have z4 := Z.cell (i := 4) rfl
  have z5 := Z.cell (i := 5) rfl
  clear Z K2
  go_wp2
  exact bodyPost_ret (v := .tuple #[.agg #[.int .i64 i, .int .i64 q, .int .i64 X, .int .i64 D, .int .i64 L, .int .i64 (D - L)], .int .i64 0]) (by simp [results, Try.results25, go_sem, z0, z1, z2, z3, z4, z5]) rfl ⟨rfl, ((((((B3.setCell (p := ⟨w.heap.size + 1, 0, none⟩) hp _).setCell (p := ⟨w.heap.size + 1, 1, none⟩) hp _).setCell (p := ⟨w.heap.size + 1, 2, none⟩) hp _).setCell (p := ⟨w.heap.size + 1, 3, none⟩) hp _).setCell (p := ⟨w.heap.size + 1, 4, none⟩) hp _).setCell (p := ⟨w.heap.size + 1, 5, none⟩) hp _)⟩
def SvJ (w : World) (g : Nat → Sta) (net prot r0 : Int) (A : Option Addr) (N c : Nat) (x : Act) (W : World) : Prop :=
  ∃ (k : Nat) (lf rm : Int) (v : Value) (u3 u4 u5 u13 u14 u15 u16 u17 u18 u19 u20 u21 u22 u23 u24 u25 u26 u27 u28 u29 u30 u31 u32 u33 u34 u35 u36 u37 u38 u39 u40 u41 u42 u43 u44 u45 u46 u47 u48 u49 u50 u51 u52 u53 u54 u55 u56 u57 u58 u59 : Value), x = { tmps := #[.int .i64 net, .int .i64 prot, .slice A N c, u3, u4, u5, .slice none 0 0, .int .i64 0, .int .i64 0, v, .int .i64 lf, .int .i64 rm, .int .i64 (k : Nat), u13, u14, u15, u16, u17, u18, u19, u20, u21, u22, u23, u24, u25, u26, u27, u28, u29, u30, u31, u32, u33, u34, u35, u36, u37, u38, u39, u40, u41, u42, u43, u44, u45, u46, u47, u48, u49, u50, u51, u52, u53, u54, u55, u56, u57, u58, u59], defers := [] } ∧ k ≤ N ∧ lf = net - (r0 - rmX g net r0 k) ∧ rm = rmX g net r0 k ∧ svB g net k = true ∧ W.ownsRow w.heap.size 43 6 v k (tkc (svT g net r0) k) ∧ Below w.heap.size w W
def SvM (N : Nat) (a : Act) : Nat := N - (intOf (a.tmps.getD 12 undef)).toNat
/-- what Serve hands back -/
def SvP (g : Nat → Sta) (net r0 : Int) (N : Nat) (w : World) (e : Ending) (w' : World) : Prop :=
  (svB g net N = true → ∃ v, e = .returned (.tuple #[v, .int .i64 (net - (r0 - rmX g net r0 N)), .int .i64 0]) ∧ w'.ownsRow w.heap.size 43 6 v N (tkc (svT g net r0) N)) ∧ (svB g net N = false → e = .returned (.tuple #[.slice none 0 0, .int .i64 0, .int .i64 10])) ∧ Below w.heap.size w w'
theorem svB_stop {g : Nat → Sta} {n : Int} {k m : Nat} (hk : k < m) (h : (g k).dueB n = false) : svB g n m = false := by
  cases hq : svB g n m
  · rfl
  · rw [svB_at hk hq] at h; cases h
set_option maxHeartbeats 2000000 in
theorem serve_amt (net prot : Int) (A : Option Addr) (N c : Nat) (w : World) (h : (amtB net && amtB prot) = false) :
    Calls Try.prog 5 #[.int .i64 net, .int .i64 prot, .slice A N c] w fun e w' => e = .returned (.tuple #[.slice none 0 0, .int .i64 0, .int .i64 10]) ∧ Below w.heap.size w w' := by
  have cR := right2 net prot w 2 false h
  have B1 := below_new w (.cells #[.int .i64 net, .int .i64 prot] 2)
  clear h
  go_enter Try.func5, Try.ntmps5
  go_wp2_with (fail)
  refine scope_jumps 0 (fun _ _ => False) (fun _ _ => 0) rfl (fun _ _ h => h.elim) ?_
  intro _
  go_wp2_with (fail)
  with_reducible refine cR.mono ?_
  rintro e w1 ⟨rfl, rfl⟩
  go_wp2
  simp only [Exit.jump]
  go_ret3
  exact ⟨rfl, B1⟩
set_option maxHeartbeats 2000000 in
theorem serve_range (net prot : Int) (A : Option Addr) (N c : Nat) (w : World) (h : (amtB net && amtB prot) = true) (hp : prot < 0) :
    Calls Try.prog 5 #[.int .i64 net, .int .i64 prot, .slice A N c] w fun e w' => e = .returned (.tuple #[.slice none 0 0, .int .i64 0, .int .i64 1]) ∧ Below w.heap.size w w' := by
  have cR := right2 net prot w 2 true h
  have B1 := below_new w (.cells #[.int .i64 net, .int .i64 prot] 2)
  clear h
  go_enter Try.func5, Try.ntmps5
  go_wp2_with (fail)
  refine scope_jumps 0 (fun _ _ => False) (fun _ _ => 0) rfl (fun _ _ h => h.elim) ?_
  intro _
  go_wp2_with (fail)
  with_reducible refine cR.mono ?_
  rintro e w1 ⟨rfl, rfl⟩
  go_wp2
  simp only [Exit.jump]
  go_ret3
  exact ⟨rfl, B1⟩
set_option maxHeartbeats 8000000 in
set_option maxRecDepth 100000 in
theorem serve_any (net prot : Int) (A : Option Addr) (N c : Nat) (g : Nat → Sta) (w : World) (hA : Ors w A N g) (hg : ∀ i, i < N → (g i).OK) (h : (amtB net && amtB prot) = true) (hp : 0 ≤ prot) (hN : N ≤ 1000) :
    Calls Try.prog 5 #[.int .i64 net, .int .i64 prot, .slice A N c] w (SvP g net (max (net - prot) 0) N w) := by
  have cR := right2 net prot w 2 true h
  have B1 := below_new w (.cells #[.int .i64 net, .int .i64 prot] 2)
  obtain ⟨q1, q2⟩ := Bool.and_eq_true_iff.1 h
  obtain ⟨n1, n2⟩ := amtB_yes q1
  obtain ⟨p1, p2⟩ := amtB_yes q2
  have hr0 : 0 ≤ max (net - prot) 0 ∧ max (net - prot) 0 ≤ 100000000000 := by omega
  obtain ⟨i0, hi0, hz0, hz1, hz2⟩ := info_parts infoTk
  have Hi := Lib.hid hi0
  have Hz := Lib.hid hz0
  have HR0 : Hid (max (net - prot) 0 = max (net - prot) 0) := Lib.hid rfl
  clear h q1 q2 hi0 hz0
  go_enter Try.func5, Try.ntmps5
  go_wp2_with (fail)
  refine scope_jumps 0 (SvJ w g net prot (max (net - prot) 0) A N c) (fun a _ => SvM N a) rfl ?_ ?_
  · clear cR B1
    generalize max (net - prot) 0 = r0 at *
    rintro a W ⟨k, lf, rm, v, u3, u4, u5, u13, u14, u15, u16, u17, u18, u19, u20, u21, u22, u23, u24, u25, u26, u27, u28, u29, u30, u31, u32, u33, u34, u35, u36, u37, u38, u39, u40, u41, u42, u43, u44, u45, u46, u47, u48, u49, u50, u51, u52, u53, u54, u55, u56, u57, u58, u59, rfl, hk, rfl, rfl, hs, HO, hb⟩
    by_cases hlt : k < N
    · obtain ⟨b, o, rfl, hc⟩ := id (hA (by omega))
      obtain ⟨c0, c1, c2, c3, c4, c5, c6⟩ := (hc k hlt).below hb
      have hok := hg k hlt
      have hrm := rm_bd hr0.1 (k := k) (fun i hi => hg i (by omega)) hs
      have hkn : ((k : Int) == (N : Int)) = false := by simp; omega
      have hil : (k : Int) < (N : Int) := by omega
      have HOO := Lib.hid HO
      have hzz := hb.size
      cases hq : (g k).dueB net
      · have cS := fun W => asv_no (g k) net (rmX g net r0 k) W hok hq
        have HE := Lib.hid (svB_stop hlt hq)
        unfold Tkn.v tkn0 Sta.v at cS
        clear hc hq hok hA hg HO hs
        generalize rmX g net r0 k = m at *
        generalize (g k).id = i at *
        generalize (g k).pr = p at *
        generalize (g k).am = a at *
        generalize (g k).rt = r at *
        generalize (g k).tot = t at *
        generalize (g k).tk = kk at *
        generalize (g k).ar = q at *
        go_wp2_with (fail)
        with_reducible refine (cS _).mono ?_
        rintro e w1 ⟨rfl, NB⟩
        have B2 := below_step hb NB hb.size
        have B3 := B2.alloc B2.size (.cells #[.int .i64 0, .int .i64 0, .int .i64 0, .int .i64 0, .int .i64 0, .int .i64 0] 43)
        clear cS c0 c1 c2 c3 c4 c5 c6
        go_wp2
        simp only [Exit.jump]
        go_ret3
        exact ⟨fun h0 => (by rw [HE.out] at h0; cases h0), fun _ => rfl, B3⟩
      · have cS := fun W => asv_ok (g k) net (rmX g net r0 k) W hok hq ⟨by omega, by omega⟩
        have HB : Hid (svB g net (k + 1) = true) := Lib.hid (by show (svB g net k && (g k).dueB net) = true; rw [hs, hq]; rfl)
        have htk := tk_bd hr0.1 (g := g) (n := net) (k := k) (fun i hi => hg i (by omega)) HB.out
        have HT : Hid (tkc (svT g net r0) (k + 1) = tkc (svT g net r0) k ++ [.int .i64 (g k).id, .int .i64 (g k).ar, .int .i64 ((g k).ordX net), .int .i64 ((g k).dueX net), .int .i64 (tkX g net r0 k), .int .i64 ((g k).dueX net - tkX g net r0 k)]) := Lib.hid rfl
        have HRM := Lib.hid (rmX_succ g net r0 k)
        unfold Tkn.v Sta.svX Sta.v at cS
        rw [show leI ((g k).dueX net) (rmX g net r0 k) = tkX g net r0 k from rfl] at cS
        clear hc hq hok hA hg HO hs
        generalize hm : rmX g net r0 k = m at *
        generalize (g k).dueX net = D at *
        generalize (g k).ordX net = X at *
        generalize tkX g net r0 k = L at *
        generalize (g k).id = i at *
        generalize (g k).pr = p at *
        generalize (g k).am = a at *
        generalize (g k).rt = r at *
        generalize (g k).tot = t at *
        generalize (g k).tk = kk at *
        generalize (g k).ar = q at *
        have HM := Lib.hid hm
        clear hm
        generalize hlf : net - (r0 - m) = lf at *
        have hlf1 : -300000000000 ≤ lf ∧ lf ≤ 300000000000 := by omega
        have HLF := Lib.hid hlf
        clear hlf
        obtain ⟨l1, l2, l3, l4, _⟩ := htk
        go_wp2_with (fail)
        with_reducible refine (cS _).mono ?_
        rintro e w1 ⟨rfl, NB⟩
        have B2 := below_step hb NB hb.size
        have HO2 := own_below HOO.out NB
        have hsz1 := NB.size
        have K := bx_new w1 [.int .i64 i, .int .i64 q, .int .i64 X, .int .i64 D, .int .i64 L, .int .i64 (D - L)] 43
        have NB2 := below_new w1 (.cells #[.int .i64 i, .int .i64 q, .int .i64 X, .int .i64 D, .int .i64 L, .int .i64 (D - L)] 43)
        have B3 := below_step B2 NB2 B2.size
        have HO3 := Lib.hid (own_below HO2 NB2)
        clear cS c0 c1 c2 c3 c4 c5 c6 NB NB2 HO2
        have k0 := K.cell (i := 0) rfl
        have k1 := K.cell (i := 1) rfl
        have k2 := K.cell (i := 2) rfl
        have k3 := K.cell (i := 3) rfl
        have k4 := K.cell (i := 4) rfl
        have k5 := K.cell (i := 5) rfl
        have K44 := Lib.hid ((K.alloc (.cells #[.int .i64 i, .int .i64 q, .int .i64 X, .int .i64 D, .int .i64 L, .int .i64 (D - L)] 43)).cell (i := 4) rfl)
        have hwb : w.heap.size ≤ w1.heap.size := B2.size
        have hW1 : W.heap.size ≤ w1.heap.size := hsz1
        have hsep : ∀ j, v.ownBlock = some j → j < W.heap.size := fun j hj => (HOO.out.lt j hj).2
        have Bc := B3.alloc B3.size (.cells #[.int .i64 i, .int .i64 q, .int .i64 X, .int .i64 D, .int .i64 L, .int .i64 (D - L)] 43)
        have hcA := bx_add (bx_at (w1.alloc (.cells #[.int .i64 i, .int .i64 q, .int .i64 X, .int .i64 D, .int .i64 L, .int .i64 (D - L)] 43)) [.int .i64 i, .int .i64 q, .int .i64 X, .int .i64 D, .int .i64 L, .int .i64 (D - L)] 43 (n := w1.heap.size + 1) (by simp))
        have hc2 : ∀ v_1 ∈ ([.int .i64 i, .int .i64 q, .int .i64 X, .int .i64 D, .int .i64 L, .int .i64 (D - L)] : List Value), v_1.oneCell' = true := by simp [Value.oneCell']
        have hc3 : k + 1 ≤ maxLen := by unfold maxLen; omega
        have hc4 : (k + 1) * 48 ≤ 140737488355328 := by omega
        have hc5 := Bc.size
        have wl1 : IntKind.i64.wrap (lf - L) = lf - L := IntWalk.i64_in _ (by omega)
        have wl2 : IntKind.i64.wrap (m - L) = m - L := IntWalk.i64_in _ (by omega)
        have wl3 : IntKind.i64.wrap (D - L) = D - L := IntWalk.i64_in _ (by omega)
        go_wp2_with (at_builtin; first
           | (refine wpList_append_own_at _ rfl _ _ 24 rfl w.heap.size 43 i0 (.agg #[.int .i64 0, .int .i64 0, .int .i64 0, .int .i64 0, .int .i64 0, .int .i64 0]) 6 48 Try.underlying24 Hi.out Hz.out hz1 hz2 rfl (by decide) _ _ _ rfl (HO3.out.alloc _) ⟨w1.heap.size + 1, 0, none⟩ 1 1 [.int .i64 i, .int .i64 q, .int .i64 X, .int .i64 D, .int .i64 L, .int .i64 (D - L)] rfl rfl hcA hc2 hc3 hc4 hc5 ?_
              intro va wa hown hgr _ _
              have OA : wa.ownsRow w.heap.size 43 6 va (k + 1) (tkc (svT g net r0) (k + 1)) := Eq.mpr (by rw [HT.out]) hown
              have Ba := Bc.grown hgr hc5 (fun k hk => (HO3.out.lt k hk).1)
              have k4a : wa.cell? ⟨w1.heap.size, 4, none⟩ = some (.int .i64 L) := (World.cell?_of_block (hgr.block w1.heap.size (by simp; omega) (fun e => by have := hsep _ e.symm; omega))).trans K44.out
              clear hown hgr k0 k1 k2 k3 k4 k5 hcA hc2 hc3 hc4 hc5 Bc K44))
        go_quiet (fail)
        go_wp2
        go_step3
        rw [show ((k : Int) + 1) = ((k + 1 : Nat) : Int) by omega]
        refine ⟨rfl, ⟨k + 1, lf - L, m - L, va, _, _, _, _, _, _, _, _, _, _, _, _, _, _, _, _, _, _, _, _, _, _, _, _, _, _, _, _, _, _, _, _, _, _, _, _, _, _, _, _, _, _, _, _, _, _, _, _, _, _, rfl, by omega, by rw [HRM.out, ← HLF.out]; omega, HRM.out.symm, HB.out, own_below OA (below_drewN (Below.refl _ _) _), below_drewN Ba _⟩, ?_⟩
        simp [SvM, intOf]
        omega
    · obtain rfl : k = N := by omega
      have hkn : ((k : Int) == (k : Int)) = true := by simp
      have HOO := Lib.hid HO
      have HS := Lib.hid hs
      clear hA hg HO hs
      go_wp2
      simp only [Exit.jump]
      go_ret3
      exact ⟨fun _ => ⟨_, rfl, HOO.out⟩, fun h0 => (by rw [HS.out] at h0; cases h0), hb⟩
  · intro pass
    go_wp2_with (fail)
    with_reducible refine cR.mono ?_
    rintro e w1 ⟨rfl, rfl⟩
    have O1 := Lib.hid (World.ownsRow_nil (w.alloc (.cells #[.int .i64 net, .int .i64 prot] 2)) w.heap.size 43 6)
    clear cR
    go_wp2_with (fail)
    go_step3
    first | (rename_i hk; refine hk _ _ (pass _ _ ?_)) | (rename_i hk _; refine hk _ _ (pass _ _ ?_)) | (rename_i hk _ _; refine hk _ _ (pass _ _ ?_)) | (rename_i hk _ _ _; refine hk _ _ (pass _ _ ?_))
    exact ⟨0, net, max (net - prot) 0, _, _, _, _, _, _, _, _, _, _, _, _, _, _, _, _, _, _, _, _, _, _, _, _, _, _, _, _, _, _, _, _, _, _, _, _, _, _, _, _, _, _, _, _, _, _, _, _, _, _, _, rfl, Nat.zero_le _, by simp [rmX], rfl, rfl, O1.out, B1⟩
end Go.Proofs.Ytgdalejccbhjcaa
