/- table.Same: of tables that tell the same it answers true. -/
import Derived.Test.YtobdbjmpoefebaaDoorSamA
namespace Go.Proofs.YtobdbjmpoefebaaDoor
open Go.RowKit Go.Sort
set_option linter.unusedVariables false
set_option linter.unusedSimpArgs false
set_option maxHeartbeats 4000000 in
set_option maxRecDepth 100000 in
theorem same_con (N : ByteArray) (B P Y Z : Int) (A A' : Option Addr) (n c c' : Nat) (F R E : Nat → Int) (w : World) (h : Bds w A n F R E) (h' : Bds w A' n F R E) (hn : n ≤ 1000000) :
    Calls Tryd.prog 54 #[.agg #[.string N, .int .i64 B, .slice A n c, .int .i64 P, .int .i64 Y, .int .i64 Z], .agg #[.string N, .int .i64 B, .slice A' n c', .int .i64 P, .int .i64 Y, .int .i64 Z]] w fun e w' => e = .returned (.bool true) ∧ Below w.heap.size w w' := by
  have q := fun w' (h : Bds w' A n F R E) (h' : Bds w' A' n F R E) => equal_bands A A' n c c' w' F R E h h' hn
  have b0 := below_new w (.cells #[.string N, .int .i64 B, .slice A n c, .int .i64 P, .int .i64 Y, .int .i64 Z] 80)
  have b1 := below_step b0 (below_new (w.alloc (.cells #[.string N, .int .i64 B, .slice A n c, .int .i64 P, .int .i64 Y, .int .i64 Z] 80)) (.cells #[.string N, .int .i64 B, .slice A' n c', .int .i64 P, .int .i64 Y, .int .i64 Z] 80)) b0.size
  have h1 := h.below b1
  have h2 := h'.below b1
  clear h h' b0
  go_enter Tryd.func54, Tryd.ntmps54
  go_wp2_with (fail)
  refine (q _ h1 h2).mono ?_
  rintro e w2 ⟨rfl, hb⟩
  go_wp2
  go_ret
  exact ⟨rfl, below_step b1 hb b1.size⟩
set_option maxHeartbeats 2000000 in
theorem equal_sch (A A' : Option Addr) (n c c' : Nat) (w : World) (S S' : Nat → SB) (h : SchM w A n S) (h' : SchM w A' n S') (hn : n ≤ 1000000)
    (he : ∀ i, i < n → (S i).n = (S' i).n ∧ (S i).F = (S' i).F ∧ (S i).R = (S' i).R ∧ (S i).E = (S' i).E ∧ (S i).n ≤ 1000000) :
    Calls Tryd.prog 51 #[.slice A n c, .slice A' n c', .func (.func 52) #[] #[]] w fun e w' => e = .returned (.bool true) ∧ Below w.heap.size w w' := by
  have n0 : ((n : Int) != (n : Int)) = false := by simp
  have H := Lib.hid h
  have H' := Lib.hid h'
  have HE := Lib.hid he
  clear h h' he
  go_enter Tryd.func51, Tryd.ntmps51
  go_wp2
  go_loopw [17] (fun k W => ∃ i : Nat, i ≤ n ∧ k = .int .i64 i ∧ Below w.heap.size w W) (fun k _ => n - (intOf k).toNat)
  case atStart => exact ⟨0, Nat.zero_le _, rfl, Below.refl _ _⟩
  case round =>
    obtain ⟨i, hi, rfl, hb⟩ := hrel
    by_cases hlt : i < n
    · obtain ⟨b, o, rfl, hc⟩ := H.out (by omega)
      obtain ⟨b', o', rfl, hc'⟩ := H'.out (by omega)
      obtain ⟨x0, x1⟩ := hc i hlt
      obtain ⟨y0, y1⟩ := hc' i hlt
      obtain ⟨e1, e2, e3, e4, e5⟩ := HE.out i hlt
      have c0 := cell_later hb x0
      have d0 := cell_later hb y0
      have i4 : (i : Int) < (n : Int) := by omega
      rw [← e1, ← e2, ← e3, ← e4] at y1
      rw [← e1] at d0
      have q := fun w' h h' => equal_bands (S i).A (S' i).A (S i).n (S i).c (S' i).c w' (S i).F (S i).R (S i).E h h' e5
      have z1 := x1.below hb
      have z2 := y1.below hb
      clear x0 x1 y0 y1 hc hc' e1 e2 e3 e4 e5
      generalize (S i).A = A1 at *
      generalize (S' i).A = A2 at *
      generalize (S i).c = k1 at *
      generalize (S' i).c = k2 at *
      generalize (S i).n = m at *
      go_wp2_with (fail)
      refine (q _ z1 z2).mono ?_
      rintro e w2 ⟨rfl, hb2⟩
      go_wp2
      go_roundw
      case rel => exact ⟨i + 1, by omega, by go_num, below_step hb hb2 hb.size⟩
      case measure => first | omega | (simp [intOf]; omega)
    · obtain rfl : i = n := by omega
      go_wp2
      go_ret
      exact ⟨rfl, hb⟩
set_option maxHeartbeats 2000000 in
theorem equal_con (A A' : Option Addr) (n c c' : Nat) (w : World) (C C' : Nat → CB) (h : ConM w A n C) (h' : ConM w A' n C') (hn : n ≤ 1000000)
    (he : ∀ i, i < n → (C i).N = (C' i).N ∧ (C i).B = (C' i).B ∧ (C i).P = (C' i).P ∧ (C i).Y = (C' i).Y ∧ (C i).W = (C' i).W ∧ (C i).b.n = (C' i).b.n ∧ (C i).b.F = (C' i).b.F ∧ (C i).b.R = (C' i).b.R ∧ (C i).b.E = (C' i).b.E ∧ (C i).b.n ≤ 1000000) :
    Calls Tryd.prog 53 #[.slice A n c, .slice A' n c', .func (.func 54) #[] #[]] w fun e w' => e = .returned (.bool true) ∧ Below w.heap.size w w' := by
  have n0 : ((n : Int) != (n : Int)) = false := by simp
  have H := Lib.hid h
  have H' := Lib.hid h'
  have HE := Lib.hid he
  clear h h' he
  go_enter Tryd.func53, Tryd.ntmps53
  go_wp2
  go_loopw [17] (fun k W => ∃ i : Nat, i ≤ n ∧ k = .int .i64 i ∧ Below w.heap.size w W) (fun k _ => n - (intOf k).toNat)
  case atStart => exact ⟨0, Nat.zero_le _, rfl, Below.refl _ _⟩
  case round =>
    obtain ⟨i, hi, rfl, hb⟩ := hrel
    by_cases hlt : i < n
    · obtain ⟨b, o, rfl, hc⟩ := H.out (by omega)
      obtain ⟨b', o', rfl, hc'⟩ := H'.out (by omega)
      obtain ⟨x0, x1, x2, x3, x4, x5, x6⟩ := hc i hlt
      obtain ⟨y0, y1, y2, y3, y4, y5, y6⟩ := hc' i hlt
      obtain ⟨e1, e2, e3, e4, e5, e6, e7, e8, e9, e10⟩ := HE.out i hlt
      rw [← e6, ← e7, ← e8, ← e9] at y6
      rw [← e1] at y0
      rw [← e2] at y1
      rw [← e6] at y2
      rw [← e3] at y3
      rw [← e4] at y4
      rw [← e5] at y5
      have q := fun w' h h' => same_con (C i).N (C i).B (C i).P (C i).Y (C i).W (C i).b.A (C' i).b.A (C i).b.n (C i).b.c (C' i).b.c (C i).b.F (C i).b.R (C i).b.E w' h h' e10
      have z1 := x6.below hb
      have z2 := y6.below hb
      have c0 := cell_later hb x0
      have c1 := cell_later hb x1
      have c2 := cell_later hb x2
      have c3 := cell_later hb x3
      have c4 := cell_later hb x4
      have c5 := cell_later hb x5
      have y0 := cell_later hb y0
      have y1 := cell_later hb y1
      have y2 := cell_later hb y2
      have y3 := cell_later hb y3
      have y4 := cell_later hb y4
      have y5 := cell_later hb y5
      have i4 : (i : Int) < (n : Int) := by omega
      clear x0 x1 x2 x3 x4 x5 x6 y6 hc hc' e1 e2 e3 e4 e5 e6 e7 e8 e9 e10
      generalize (C i).N = N at *
      generalize (C i).B = B at *
      generalize (C i).P = P at *
      generalize (C i).Y = Y at *
      generalize (C i).W = Z at *
      generalize (C i).b.A = A1 at *
      generalize (C' i).b.A = A2 at *
      generalize (C i).b.c = k1 at *
      generalize (C' i).b.c = k2 at *
      generalize (C i).b.n = m at *
      have hn1 := below_new wr (.cells #[.string N, .int .i64 B, .slice A1 m k1, .int .i64 P, .int .i64 Y, .int .i64 Z] 80)
      have hn2 := below_step hn1 (below_new (wr.alloc (.cells #[.string N, .int .i64 B, .slice A1 m k1, .int .i64 P, .int .i64 Y, .int .i64 Z] 80)) (.cells #[.string N, .int .i64 B, .slice A2 m k2, .int .i64 P, .int .i64 Y, .int .i64 Z] 80)) hn1.size
      have z3 := z1.below hn2
      have z4 := z2.below hn2
      have d0 := cell_later hn1 y0
      have d1 := cell_later hn1 y1
      have d2 := cell_later hn1 y2
      have d3 := cell_later hn1 y3
      have d4 := cell_later hn1 y4
      have d5 := cell_later hn1 y5
      go_wp2_with (fail)
      refine (q _ z3 z4).mono ?_
      rintro e w2 ⟨rfl, hb2⟩
      have hb3 := below_step (below_step hb hn2 hb.size) hb2 (Nat.le_trans hb.size hn2.size)
      go_wp2
      go_roundw
      case rel => exact ⟨i + 1, by omega, by go_num, hb3⟩
      case measure => first | omega | (simp [intOf]; omega)
    · obtain rfl : i = n := by omega
      go_wp2
      go_ret
      exact ⟨rfl, hb⟩
/-- two tables tell the same -/
def LikeT (T V : TB) : Prop := V.L = T.L ∧ V.W = T.W ∧ V.nS = T.nS ∧ V.nC = T.nC ∧ V.nK = T.nK ∧
  (∀ i, i < T.nS → (V.S i).n = (T.S i).n ∧ (V.S i).F = (T.S i).F ∧ (V.S i).R = (T.S i).R ∧ (V.S i).E = (T.S i).E) ∧
  (∀ i, i < T.nC → (V.C i).N = (T.C i).N ∧ (V.C i).B = (T.C i).B ∧ (V.C i).P = (T.C i).P ∧ (V.C i).Y = (T.C i).Y ∧ (V.C i).W = (T.C i).W ∧ (V.C i).b.n = (T.C i).b.n ∧ (V.C i).b.F = (T.C i).b.F ∧ (V.C i).b.R = (T.C i).b.R ∧ (V.C i).b.E = (T.C i).b.E) ∧
  (∀ i, i < T.nK → V.K i = T.K i)
set_option maxHeartbeats 4000000 in
set_option maxRecDepth 100000 in
theorem same_tab (T V : TB) (w : World) (h : Tm w T) (h' : Tm w V) (hl : LikeT T V) (hs : T.nS ≤ 1000000) (hc : T.nC ≤ 1000000) (hk : T.nK ≤ 1000000) (hsb : ∀ i, i < T.nS → (T.S i).n ≤ 1000000) (hcb : ∀ i, i < T.nC → (T.C i).b.n ≤ 1000000) :
    Calls Tryd.prog 19 #[T.v, V.v] w fun e w' => e = .returned (.bool true) ∧ Below w.heap.size w w' := by
  obtain ⟨l1, l2, l3, l4, l5, l6, l7, l8⟩ := hl
  have q1 := fun w' (h : Tm w' T) (h' : Tm w' V) => equal_sch T.AS V.AS T.nS T.cS V.cS w' T.S V.S h.1 (by have := h'.1; rw [l3] at this; exact this) hs (fun i hi => by
    obtain ⟨a, b, c, d⟩ := l6 i hi
    exact ⟨a.symm, b.symm, c.symm, d.symm, hsb i hi⟩)
  have q2 := fun w' (h : Tm w' T) (h' : Tm w' V) => equal_con T.AC V.AC T.nC T.cC V.cC w' T.C V.C h.2.1 (by have := h'.2.1; rw [l4] at this; exact this) hc (fun i hi => by
    obtain ⟨a, b, c, d, e, f, g, k, l⟩ := l7 i hi
    exact ⟨a.symm, b.symm, c.symm, d.symm, e.symm, f.symm, g.symm, k.symm, l.symm, hcb i hi⟩)
  have q3 := fun w' (h : Tm w' T) (h' : Tm w' V) => equal_kinds T.AK V.AK T.nK T.cK V.cK w' T.K h.2.2 (fun hn => by
    obtain ⟨p, o, e, hx⟩ := h'.2.2 (by rw [l5]; exact hn)
    refine ⟨p, o, e, fun i hi => ?_⟩
    have := hx i (by rw [l5]; exact hi)
    rw [l8 i hi] at this
    exact this) hk
  show Calls Tryd.prog 19 #[.agg #[.slice T.AS T.nS T.cS, .slice T.AC T.nC T.cC, .slice T.AK T.nK T.cK, .int .i64 T.L, .int .i64 T.W], .agg #[.slice V.AS V.nS V.cS, .slice V.AC V.nC V.cC, .slice V.AK V.nK V.cK, .int .i64 V.L, .int .i64 V.W]] w _
  rw [l1, l2, l3, l4, l5]
  clear l1 l2 l3 l4 l5 l6 l7 l8 hsb hcb
  have b0 := below_new w (.cells #[.slice T.AS T.nS T.cS, .slice T.AC T.nC T.cC, .slice T.AK T.nK T.cK, .int .i64 T.L, .int .i64 T.W] 26)
  have b1 := below_step b0 (below_new (w.alloc (.cells #[.slice T.AS T.nS T.cS, .slice T.AC T.nC T.cC, .slice T.AK T.nK T.cK, .int .i64 T.L, .int .i64 T.W] 26)) (.cells #[.slice V.AS T.nS V.cS, .slice V.AC T.nC V.cC, .slice V.AK T.nK V.cK, .int .i64 T.L, .int .i64 T.W] 26)) b0.size
  have M1 := h.below b1
  have N1 := h'.below b1
  clear h h' b0
  go_enter Tryd.func19, Tryd.ntmps19
  go_wp2_with (fail)
  refine (q1 _ M1 N1).mono ?_
  rintro e w2 ⟨rfl, hb⟩
  have M2 := M1.below hb
  have N2 := N1.below hb
  have B2 := below_step b1 hb b1.size
  have hz : w.heap.size + 1 < (( w.alloc (.cells #[.slice T.AS T.nS T.cS, .slice T.AC T.nC T.cC, .slice T.AK T.nK T.cK, .int .i64 T.L, .int .i64 T.W] 26)).alloc (.cells #[.slice V.AS T.nS V.cS, .slice V.AC T.nC V.cC, .slice V.AK T.nK V.cK, .int .i64 T.L, .int .i64 T.W] 26)).heap.size := by simp
  have x1 : w2.cell? ⟨w.heap.size, 1, none⟩ = some (.slice T.AC T.nC T.cC) := cell_later hb (by simp [go_sem])
  have x2 : w2.cell? ⟨w.heap.size, 2, none⟩ = some (.slice T.AK T.nK T.cK) := cell_later hb (by simp [go_sem])
  have y1 : w2.cell? ⟨w.heap.size + 1, 1, none⟩ = some (.slice V.AC T.nC V.cC) := cell_later hb (by simp [go_sem])
  have y2 : w2.cell? ⟨w.heap.size + 1, 2, none⟩ = some (.slice V.AK T.nK V.cK) := cell_later hb (by simp [go_sem])
  clear hb hz b1 M1 N1
  go_wp2_with (fail)
  refine (q2 _ M2 N2).mono ?_
  rintro e w3 ⟨rfl, hb⟩
  have M3 := M2.below hb
  have N3 := N2.below hb
  have B3 := below_step B2 hb B2.size
  have x2 := cell_later hb x2
  have y2 := cell_later hb y2
  clear hb B2 M2 N2 x1 y1
  go_wp2_with (fail)
  refine (q3 _ M3 N3).mono ?_
  rintro e w4 ⟨rfl, hb⟩
  go_wp2
  go_ret
  exact ⟨rfl, below_step B3 hb B3.size⟩
end Go.Proofs.YtobdbjmpoefebaaDoor
