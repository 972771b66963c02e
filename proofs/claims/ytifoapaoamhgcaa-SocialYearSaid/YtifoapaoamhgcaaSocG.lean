/- The first call of all of social's laws. -/
import Derived.Test.YtifoapaoamhgcaaSocF
namespace Go.Proofs.Ytifoapaoamhgcaa
open Go.RowKit Go.Sort
set_option linter.unusedVariables false
set_option linter.unusedSimpArgs false

/-- one band has no corners -/
theorem bcorners_one (A : Option Addr) (c : Nat) (w : World) (F R E : Nat → Int) (h : Bds w A 1 F R E) :
    Calls Try.prog 48 #[.slice A 1 c] w fun e w' => e = .returned (.slice none 0 0) ∧ Below w.heap.size w w' := by
  obtain ⟨b, o, rfl, hc⟩ := h (by omega)
  obtain ⟨c0, c1, c2⟩ := hc 0 (by omega)
  rw [Nat.zero_mul, Nat.add_zero] at c0 c1 c2
  have Bw := Below.refl w.heap.size w
  clear h hc
  go_enter Try.func48, Try.ntmps48
  go_wp2
  go_loopw [3, 8] (fun u k W => ∃ i : Nat, i ≤ 1 ∧ k = .int .i64 i ∧ u = .slice none 0 0 ∧ Below w.heap.size w W) (fun _ k _ => 1 - (intOf k).toNat)
  case atStart => exact ⟨0, Nat.zero_le _, rfl, rfl, Bw⟩
  case round =>
    clear Bw
    obtain ⟨i, hi, rfl, rfl, hb⟩ := hrel
    by_cases h0 : i = 0
    · subst h0
      replace c0 := cell_later hb c0
      replace c1 := cell_later hb c1
      replace c2 := cell_later hb c2
      have B2 := below_step hb (below_new wr (.cells #[.int .i64 (F 0), .int .i64 (R 0), .int .i64 (E 0)] 65)) hb.size
      go_wp2
      refine ⟨⟨1, by omega, rfl, rfl, B2⟩, ?_⟩
      simp [intOf]
    · obtain rfl : i = 1 := by omega
      go_wp2
      go_ret
      exact ⟨rfl, hb⟩
set_option maxRecDepth 100000 in
set_option maxHeartbeats 4000000 in
theorem corners_f (c : CB) (w : World) (h : Bds w c.b.A 1 c.b.F c.b.R c.b.E) (hn : c.b.n = 1) (hu : undV c.P c.Y 100000000000 2000 = 500) (hY : c.Y ≤ 9223372036854775807) :
    Calls Try.prog 33 #[.agg #[.string c.N, .int .i64 c.B, .slice c.b.A c.b.n c.b.c, .int .i64 c.P, .int .i64 c.Y, .int .i64 c.W], .int .i64 2000] w fun e w' => ∃ g cap, e = .returned (.slice (some ⟨g, 0, none⟩) 2 cap) ∧ w'.cell? ⟨g, 1, none⟩ = some (.int .i64 500) ∧ g < w'.heap.size ∧ Below w.heap.size w w' := by
  have cU := fun w => under_any c 100000000000 2000 w (by omega) (by omega) hY
  rw [hu] at cU
  have K1 := bx_new w [.string c.N, .int .i64 c.B, .slice c.b.A c.b.n c.b.c, .int .i64 c.P, .int .i64 c.Y, .int .i64 c.W] 31
  have B1 := below_new w (.cells #[.string c.N, .int .i64 c.B, .slice c.b.A c.b.n c.b.c, .int .i64 c.P, .int .i64 c.Y, .int .i64 c.W] 31)
  have hB := h.below B1
  obtain ⟨j0, hj0, hy0, hy1, hy2⟩ := info_parts infoI
  have Hj := Lib.hid hj0
  have Hy := Lib.hid hy0
  rw [hn] at K1 B1 hB ⊢
  dsimp only [CB.v] at cU
  rw [hn] at cU
  have k0 := K1.cell (i := 0) rfl
  have k1 := K1.cell (i := 1) rfl
  have k2 := K1.cell (i := 2) rfl
  have k3 := K1.cell (i := 3) rfl
  have k4 := K1.cell (i := 4) rfl
  have k5 := K1.cell (i := 5) rfl
  clear h hn hu hj0 hy0
  go_enter Try.func33, Try.ntmps33
  go_wp2_with (fail)
  with_reducible refine (cU _).mono ?_
  rintro e w2 ⟨rfl, NB⟩
  have B2 := below_step B1 NB B1.size
  replace K1 := K1.below NB
  replace hB := hB.below NB
  clear NB B1 k0 k1 k2 k3 k4 k5
  have R1 := World.ownsRow_lit (base := w.heap.size) (e := 2) (size := 1) w2 #[.int .i64 0] 1 B2.size (by decide) rfl
  have NB := below_new w2 (.cells #[.int .i64 0] 2)
  replace K1 := K1.below NB
  replace hB := hB.below NB
  have B3 := below_step B2 NB B2.size
  have k2 := K1.cell (i := 2) rfl
  clear NB B2
  go_wp2_with (fail)
  with_reducible refine (bcorners_one _ _ _ _ _ _ hB).mono ?_
  rintro e w3 ⟨rfl, NB⟩
  have R3 := own_below R1 NB
  have B4 := below_step B3 NB B3.size
  clear k2 R1 NB B3 K1 hB
  go_wp2
  go_loopw [6, 17] (fun u k W => u = .slice (some ⟨w2.heap.size, 0, none⟩) 1 1 ∧ k = .int .i64 0 ∧ W = w3) (fun _ _ _ => 0)
  case atStart => exact ⟨rfl, rfl, rfl⟩
  case round =>
    obtain ⟨rfl, rfl, rfl⟩ := hrel
    have HO := Lib.hid R3
    have NB := below_new wr (.cells #[.int .i64 500] 2)
    have B5 := below_step B4 NB B4.size
    have hc5 := B5.size
    have hcA := bx_add (bx_new wr [.int .i64 500] 2)
    have hc2 : ∀ v ∈ ([.int .i64 500] : List Value), v.oneCell' = true := by simp [Value.oneCell']
    have hc3 : 1 + 1 ≤ maxLen := by unfold maxLen; omega
    clear R3 NB
    go_wp2_with (at_builtin; refine wpList_append_own_at _ rfl _ _ 53 rfl w.heap.size 2 j0 (.int .i64 0) 1 8 Try.underlying53 Hj.out Hy.out hy1 hy2 rfl (by decide) _ _ _ rfl (HO.out.alloc _) ⟨wr.heap.size, 0, none⟩ 1 1 [.int .i64 500] rfl rfl hcA hc2 hc3 (by omega) hc5 ?_; intro va wa hown hg _ hob; have Ba := B5.grown hg hc5 (fun k hk => (HO.out.lt k hk).1); obtain ⟨A, cc, rfl, hA, hA2⟩ := own_len hown; obtain ⟨g, rfl⟩ := hA2 (by omega); have hl := hown.lt g rfl; have hc := own_cells hown (j := 1) (u := .int .i64 500) rfl; clear hown hg hob hcA hA hA2)
    go_ret
    exact ⟨_, _, rfl, hc, hl.2, Ba⟩
set_option maxRecDepth 100000 in
set_option maxHeartbeats 4000000 in
theorem rates_f (N : ByteArray) (B P Y M : Int) (A : Option Addr) (cc : Nat) (w : World) (h : Bds w A 1 (fun _ => 0) (fun _ => 500) (fun _ => 1000)) (hu : undV P Y 500 2000 = 500) (hY : Y ≤ 9223372036854775807) :
    Calls Try.prog 34 #[.agg #[.string N, .int .i64 B, .slice A 1 cc, .int .i64 P, .int .i64 Y, .int .i64 M], .int .i64 499, .int .i64 2000] w fun e w' => e = .returned (.tuple #[.int .i64 500, .int .i64 1000, .int .i64 0]) ∧ Below w.heap.size w w' := by
  have cU := fun w => under_any ⟨N, B, ⟨A, 1, cc, fun _ => 0, fun _ => 500, fun _ => 1000⟩, P, Y, M⟩ 500 2000 w (by omega) (by omega) hY
  rw [hu] at cU
  dsimp only [CB.v] at cU
  have K1 := bx_new w [.string N, .int .i64 B, .slice A 1 cc, .int .i64 P, .int .i64 Y, .int .i64 M] 31
  have B1 := below_new w (.cells #[.string N, .int .i64 B, .slice A 1 cc, .int .i64 P, .int .i64 Y, .int .i64 M] 31)
  have hB := h.below B1
  have cC := fun w hb => check_any A 1 cc w (fun _ => 0) (fun _ => 500) (fun _ => 1000) hb (by omega)
  rw [show chk (fun _ => 0) (fun _ => 500) (fun _ => 1000) 1 = 0 from by rfl] at cC
  have cF := fun w hb => find_any 500 A 1 cc w (fun _ => 0) (fun _ => 500) (fun _ => 1000) hb (by omega) (by omega)
  rw [show ((fnd (fun _ => 0) 500 1 : Nat) : Int) = 0 from by rfl] at cF
  have cR := fun w => right2 499 2000 w 2 true (by rfl)
  have k2 := K1.cell (i := 2) rfl
  clear h hu
  go_enter Try.func34, Try.ntmps34
  go_wp2_with (fail)
  with_reducible refine (cC _ hB).mono ?_
  rintro e w2 ⟨rfl, NB⟩
  have B2 := below_step B1 NB B1.size
  replace K1 := K1.below NB
  replace hB := hB.below NB
  clear NB B1 k2
  have NB := below_new w2 (.cells #[.int .i64 499, .int .i64 2000] 2)
  replace K1 := K1.below NB
  replace hB := hB.below NB
  have B3 := below_step B2 NB B2.size
  clear NB B2
  go_wp2_with (fail)
  with_reducible refine (cR _).mono ?_
  rintro e w3 ⟨rfl, rfl⟩
  generalize w2.alloc (.cells #[.int .i64 499, .int .i64 2000] 2) = W2 at *
  have k0 := K1.cell (i := 0) rfl
  have k1 := K1.cell (i := 1) rfl
  have k2 := K1.cell (i := 2) rfl
  have k3 := K1.cell (i := 3) rfl
  have k4 := K1.cell (i := 4) rfl
  have k5 := K1.cell (i := 5) rfl
  go_wp2_with (fail)
  with_reducible refine (cU _).mono ?_
  rintro e W3 ⟨rfl, NB⟩
  replace K1 := K1.below NB
  replace hB := hB.below NB
  have B4 := below_step B3 NB B3.size
  clear NB B3 k0 k1 k2 k3 k4 k5
  have k2 := K1.cell (i := 2) rfl
  obtain ⟨b, o, rfl, hc⟩ := id (hB (by omega))
  obtain ⟨z0, z1, z2⟩ := hc 0 (by omega)
  rw [Nat.zero_mul, Nat.add_zero] at z0 z1 z2
  have S1 : W3.drew.cell? ⟨w.heap.size, 2, none⟩ = some (.slice (some ⟨b, o, none⟩) 1 cc) ∧ W3.drew.cell? ⟨b, o, none⟩ = some (.int .i64 0) ∧ W3.drew.cell? ⟨b, o + 1, none⟩ = some (.int .i64 500) ∧ W3.drew.cell? ⟨b, o + 2, none⟩ = some (.int .i64 1000) ∧ Below W3.heap.size W3 W3.drew := ⟨k2, z0, z1, z2, (Below.refl _ _).drew⟩
  have hF := cF W3.drew hB
  have hF2 := cF (W3.alloc (.cells #[.int .i64 0, .int .i64 0, .int .i64 0] 65)).drew (hB.below ((below_new _ _).drew))
  clear k2 z0 z1 z2 hc K1 hB cC cF cR cU
  go_wp2_with (fail)
  go_region_held3 (fun X => X.cell? ⟨w.heap.size, 2, none⟩ = some (.slice (some ⟨b, o, none⟩) 1 cc) ∧ X.cell? ⟨b, o, none⟩ = some (.int .i64 0) ∧ X.cell? ⟨b, o + 1, none⟩ = some (.int .i64 500) ∧ X.cell? ⟨b, o + 2, none⟩ = some (.int .i64 1000) ∧ Below W3.heap.size W3 X)
    ((first | exact S1 | assumption | exact ⟨cell_later (below_new _ _) S1.1, cell_later (below_new _ _) S1.2.1, cell_later (below_new _ _) S1.2.2.1, cell_later (below_new _ _) S1.2.2.2.1, ((Below.refl _ _).alloc (Nat.le_refl _) _).drew⟩))
    (first
      | (go_at_call 50; with_reducible refine hF.mono ?_; rintro e w6 ⟨rfl, hw⟩; subst hw)
      | (go_at_call 50; with_reducible refine hF2.mono ?_; rintro e w6 ⟨rfl, hw⟩; subst hw))
  all_goals
    rename_i hH
    refine held_go (fun X => Below W3.heap.size W3 X ∧ Bx X W3.heap.size 65 [.int .i64 0, .int .i64 500, .int .i64 1000]) ⟨hH.2.2.2.2, bx_new W3 [.int .i64 0, .int .i64 500, .int .i64 1000] 65⟩ ?_
    rintro W9 ⟨H9, K9⟩
    have B9 := below_step B4 H9 B4.size
    have z1 := K9.cell (i := 1) rfl
    have z2 := K9.cell (i := 2) rfl
    clear hH S1 hF hF2
    go_wp2_with (fail)
    go_quiet (fail)
    go_wp2
    go_ret3
    exact ⟨rfl, below_drewN B9 _⟩
theorem bas3 {W : World} {p : Nat} {t : TypeId} (K : Bx W p t [.int .i64 0, .int .i64 0, .int .i64 2000, .int .i64 0, .int .i64 0, .int .i64 2000, .int .i64 0, .int .i64 0, .int .i64 2000]) : BasM W (some ⟨p, 0, none⟩) 3 (fun _ => 0) (fun _ => 0) (fun _ => 2000) := fun _ => ⟨p, 0, rfl, fun i hi => by
  rcases (show i = 0 ∨ i = 1 ∨ i = 2 by omega) with rfl | rfl | rfl <;> exact ⟨K.cell rfl, K.cell rfl, K.cell rfl⟩⟩
/-- what the three periods' rows are -/
def YS (W : World) (g g0 c0 g2 c2 : Nat) : Prop := W.cell? ⟨g, 0, none⟩ = some (.slice (some ⟨g0, 0, none⟩) 1 c0) ∧ W.cell? ⟨g, 2, none⟩ = some (.slice (some ⟨g2, 0, none⟩) 1 c2) ∧ W.cell? ⟨g0, 0, none⟩ = some (.int .i64 50) ∧ W.cell? ⟨g0, 1, none⟩ = some (.int .i64 100) ∧ W.cell? ⟨g2, 0, none⟩ = some (.int .i64 25) ∧ W.cell? ⟨g2, 1, none⟩ = some (.int .i64 50)
theorem YS.below {W W' : World} {g g0 c0 g2 c2 : Nat} (h : YS W g g0 c0 g2 c2) (hb : Below W.heap.size W W') : YS W' g g0 c0 g2 c2 := ⟨cell_later hb h.1, cell_later hb h.2.1, cell_later hb h.2.2.1, cell_later hb h.2.2.2.1, cell_later hb h.2.2.2.2.1, cell_later hb h.2.2.2.2.2⟩
theorem yr3 (n : Nat) (W : World) (h : Tm W (fundT n)) (p : Nat) (t : TypeId) (K : Bx W p t [.int .i64 0, .int .i64 0, .int .i64 2000, .int .i64 0, .int .i64 0, .int .i64 2000, .int .i64 0, .int .i64 0, .int .i64 2000]) :
    Calls Try.prog 15 #[.agg #[.slice (some ⟨n + 1 + 1, 0, none⟩) 1 1, .slice (some ⟨n + 1 + 1 + 1 + 1, 0, none⟩) 1 1, .slice (some ⟨n + 1 + 1 + 1 + 1 + 1, 0, none⟩) 1 1, .int .i64 5000, .int .i64 1], .slice (some ⟨p, 0, none⟩) 3 3] W fun e w' => ∃ g cc g0 c0 g2 c2, e = .returned (.tuple #[.slice (some ⟨g, 0, none⟩) 3 cc, .int .i64 0]) ∧ YS w' g g0 c0 g2 c2 ∧ Below W.heap.size W w' := by
  refine (year_any (fundT n) (some ⟨p, 0, none⟩) 3 3 (fun _ => 0) (fun _ => 0) (fun _ => 2000) W h (fund_tc n) (bas3 K) (by omega)).mono ?_
  rintro e w' ⟨v, rfl, hok, _, hb⟩
  obtain ⟨u, rfl, l, ho, hl, hk⟩ := hok (fund_yrE n)
  obtain ⟨A, cc, rfl, h1, h2⟩ := own_len ho
  obtain ⟨g, rfl⟩ := h2 (by omega)
  obtain ⟨A0, c0, e0, s0, q0⟩ := hk 0 (by omega)
  obtain ⟨A2, c2, e2, s2, q2⟩ := hk 2 (by omega)
  obtain ⟨g0, rfl, _⟩ := q0 (by show 0 < 1; omega)
  obtain ⟨g2, rfl, _⟩ := q2 (by show 0 < 1; omega)
  obtain ⟨b0, o0, q0, z0⟩ := s0 (by show 0 < 1; omega)
  obtain ⟨b2, o2, q2, z2⟩ := s2 (by show 0 < 1; omega)
  simp only [Option.some.injEq, Addr.mk.injEq, and_true] at q0 q2
  obtain ⟨rfl, rfl⟩ := q0
  obtain ⟨rfl, rfl⟩ := q2
  have y0 := z0 0 (by show 0 < 1; omega)
  have y2 := z2 0 (by show 0 < 1; omega)
  have f := fund_a n
  rw [f.1, f.2.2.1] at y0
  rw [f.2.1, f.2.2.2] at y2
  exact ⟨g, cc, g0, c0, g2, c2, rfl, ⟨own_cells ho e0, own_cells ho e2, y0.1, y0.2, y2.1, y2.2⟩, hb⟩
theorem td3 (n : Nat) (W : World) (h : Tm W (fundT n)) (p : Nat) (t : TypeId) (K : Bx W p t [.int .i64 0, .int .i64 0, .int .i64 2000, .int .i64 0, .int .i64 0, .int .i64 2000, .int .i64 0, .int .i64 0, .int .i64 2000]) :
    Calls Try.prog 18 #[.agg #[.slice (some ⟨n + 1 + 1, 0, none⟩) 1 1, .slice (some ⟨n + 1 + 1 + 1 + 1, 0, none⟩) 1 1, .slice (some ⟨n + 1 + 1 + 1 + 1 + 1, 0, none⟩) 1 1, .int .i64 5000, .int .i64 1], .slice (some ⟨p, 0, none⟩) 3 3] W fun e w' => ∃ g, e = .returned (.tuple #[.slice (some ⟨g, 0, none⟩) 1 1, .int .i64 0]) ∧ w'.cell? ⟨g, 0, none⟩ = some (.int .i64 125) ∧ w'.cell? ⟨g, 1, none⟩ = some (.int .i64 250) ∧ Below W.heap.size W w' := by
  refine (tod_any (fundT n) (some ⟨p, 0, none⟩) 3 3 (fun _ => 0) (fun _ => 0) (fun _ => 2000) W h (fund_tc n) (bas3 K) (by omega)).mono ?_
  rintro e w' ⟨v, rfl, hok, _, _, hb⟩
  obtain ⟨b, rfl, _, hs⟩ := hok (fund_yrE n) (fund_tdE n)
  have := hs.cells (i := 0) (by show 0 < 1; omega)
  have f := fund_s n
  rw [f.1, f.2] at this
  exact ⟨b, rfl, this.1, this.2.1, hb⟩
theorem fund_v (w : World) : Calls Try.prog 32 #[] w fun e w' => ∃ n, e = .returned (.agg #[.slice (some ⟨n + 1 + 1, 0, none⟩) 1 1, .slice (some ⟨n + 1 + 1 + 1 + 1, 0, none⟩) 1 1, .slice (some ⟨n + 1 + 1 + 1 + 1 + 1, 0, none⟩) 1 1, .int .i64 5000, .int .i64 1]) ∧ Tm w' (fundT n) ∧ Below w.heap.size w w' := fund_any w
theorem fund_con {W : World} {n : Nat} (h : Tm W (fundT n)) : W.cell? ⟨n + 1 + 1 + 1 + 1, 0, none⟩ = some (.string ⟨#[102, 117, 110, 100]⟩) ∧ W.cell? ⟨n + 1 + 1 + 1 + 1, 1, none⟩ = some (.int .i64 2) ∧ W.cell? ⟨n + 1 + 1 + 1 + 1, 2, none⟩ = some (.slice (some ⟨n + 1 + 1 + 1, 0, none⟩) 1 1) ∧ W.cell? ⟨n + 1 + 1 + 1 + 1, 3, none⟩ = some (.int .i64 1000) ∧ W.cell? ⟨n + 1 + 1 + 1 + 1, 4, none⟩ = some (.int .i64 2500) ∧ W.cell? ⟨n + 1 + 1 + 1 + 1, 5, none⟩ = some (.int .i64 4) ∧ Bds W (some ⟨n + 1 + 1 + 1, 0, none⟩) 1 (fun _ => 0) (fun _ => 500) (fun _ => 1000) := by
  obtain ⟨b, o, e, hc⟩ := h.2.1 (by show 0 < 1; omega)
  have e' : (some ⟨n + 1 + 1 + 1 + 1, 0, none⟩ : Option Addr) = some ⟨b, o, none⟩ := e
  simp only [Option.some.injEq, Addr.mk.injEq, and_true] at e'
  obtain ⟨rfl, rfl⟩ := e'
  exact hc 0 (by show 0 < 1; omega)
theorem field_c (A B C : Option Addr) (n1 n2 n3 c1 c2 c3 : Nat) (L R : Int) (W : World) : (Instr.field 26 (.agg #[.slice A n1 c1, .slice B n2 c2, .slice C n3 c3, .int .i64 L, .int .i64 R]) 1).run Try.prog W = .ok (.slice B n2 c2) W := by kernel_rfl
theorem und_f : undV 1000 2500 100000000000 2000 = 500 := by decide +kernel
theorem und_g : undV 1000 2500 500 2000 = 500 := by decide +kernel
set_option maxRecDepth 100000 in
set_option maxHeartbeats 8000000 in
theorem pays_any (w : World) : Calls Try.prog 8 #[] w fun e w' => e = .returned (.bool true) ∧ Below w.heap.size w w' := by
  have K1 := bx_new w [.int .i64 0, .int .i64 0, .int .i64 2000] 51
  have B1 := below_new w (.cells #[.int .i64 0, .int .i64 0, .int .i64 2000] 51)
  have fc := field_c
  have cF := fund_v
  have cY := yr3
  have cD := td3
  go_enter Try.func8, Try.ntmps8
  go_wp2_with (fail)
  generalize w.alloc (.cells #[.int .i64 0, .int .i64 0, .int .i64 2000] 51) = w1 at *
  have S0 : w1.cell? ⟨w.heap.size, 0, none⟩ = some (.int .i64 0) ∧ w1.cell? ⟨w.heap.size, 1, none⟩ = some (.int .i64 0) ∧ w1.cell? ⟨w.heap.size, 2, none⟩ = some (.int .i64 2000) ∧ Below w1.heap.size w1 w1 := ⟨K1.cell rfl, K1.cell rfl, K1.cell rfl, Below.refl _ _⟩
  have S1 : w1.drew.cell? ⟨w.heap.size, 0, none⟩ = some (.int .i64 0) ∧ w1.drew.cell? ⟨w.heap.size, 1, none⟩ = some (.int .i64 0) ∧ w1.drew.cell? ⟨w.heap.size, 2, none⟩ = some (.int .i64 2000) ∧ Below w1.heap.size w1 w1.drew := ⟨K1.cell rfl, K1.cell rfl, K1.cell rfl, (Below.refl _ _).drew⟩
  have mk : ∀ V : World, Below w1.heap.size w1 V → (V.cell? ⟨w.heap.size, 0, none⟩ = some (.int .i64 0) ∧ V.cell? ⟨w.heap.size, 1, none⟩ = some (.int .i64 0) ∧ V.cell? ⟨w.heap.size, 2, none⟩ = some (.int .i64 2000) ∧ Below w1.heap.size w1 V) := fun V hb => ⟨cell_later hb S0.1, cell_later hb S0.2.1, cell_later hb S0.2.2.1, hb⟩
  have KB : Bx (w1.alloc (.cells #[.int .i64 0, .int .i64 0, .int .i64 2000, .int .i64 0, .int .i64 0, .int .i64 2000, .int .i64 0, .int .i64 0, .int .i64 2000] 51)).drew w1.heap.size 51 [.int .i64 0, .int .i64 0, .int .i64 2000, .int .i64 0, .int .i64 0, .int .i64 2000, .int .i64 0, .int .i64 0, .int .i64 2000] := bx_new w1 [.int .i64 0, .int .i64 0, .int .i64 2000, .int .i64 0, .int .i64 0, .int .i64 2000, .int .i64 0, .int .i64 0, .int .i64 2000] 51
  go_region_held3 (fun X => X.cell? ⟨w.heap.size, 0, none⟩ = some (.int .i64 0) ∧ X.cell? ⟨w.heap.size, 1, none⟩ = some (.int .i64 0) ∧ X.cell? ⟨w.heap.size, 2, none⟩ = some (.int .i64 2000) ∧ Below w1.heap.size w1 X)
    ((first | exact S1 | assumption | exact mk _ (by first | assumption | exact ((below_new _ _).drew) | exact HB.alloc HB.size _)))
    (first
      | (go_at_call 32; with_reducible refine (cF _).mono ?_; rintro e w6 ⟨n, rfl, hT, hb⟩; have HB : Below w1.heap.size w1 w6 := by first | exact below_step ((Below.refl _ _).drew) hb (Nat.le_refl _) | exact below_step ((below_new _ _).drew) hb (by simp))
      | (go_at_call 15; with_reducible refine (cY n _ (hT.below (below_new _ _)) w6.heap.size _ (bx_new w6 [.int .i64 0, .int .i64 0, .int .i64 2000, .int .i64 0, .int .i64 0, .int .i64 2000, .int .i64 0, .int .i64 0, .int .i64 2000] 51)).mono ?_; rintro e w7 ⟨g, cc, g0, c0, g2, c2, rfl, hY, hb7⟩; have HC : Below w1.heap.size w1 w7 := below_step (HB.alloc HB.size _) hb7 ((HB.alloc HB.size _).size))
      | (go_at_call 15; with_reducible refine (cY n w6 hT w1.heap.size _ (KB.below hb)).mono ?_; rintro e w7 ⟨g, cc, g0, c0, g2, c2, rfl, hY, hb7⟩; have HC : Below w1.heap.size w1 w7 := below_step HB hb7 HB.size))
  all_goals
    have B7 := below_step B1 HC B1.size
    have K7 := K1.below HC
    clear S0 S1 mk KB cY hb7 hb hT HB HC
    go_wp2_with (fail)
    have S0 : w7.cell? ⟨w.heap.size, 0, none⟩ = some (.int .i64 0) ∧ w7.cell? ⟨w.heap.size, 1, none⟩ = some (.int .i64 0) ∧ w7.cell? ⟨w.heap.size, 2, none⟩ = some (.int .i64 2000) ∧ Below w7.heap.size w7 w7 := ⟨K7.cell rfl, K7.cell rfl, K7.cell rfl, Below.refl _ _⟩
    have S1 : w7.drew.cell? ⟨w.heap.size, 0, none⟩ = some (.int .i64 0) ∧ w7.drew.cell? ⟨w.heap.size, 1, none⟩ = some (.int .i64 0) ∧ w7.drew.cell? ⟨w.heap.size, 2, none⟩ = some (.int .i64 2000) ∧ Below w7.heap.size w7 w7.drew := ⟨K7.cell rfl, K7.cell rfl, K7.cell rfl, (Below.refl _ _).drew⟩
    have mk : ∀ V : World, Below w7.heap.size w7 V → (V.cell? ⟨w.heap.size, 0, none⟩ = some (.int .i64 0) ∧ V.cell? ⟨w.heap.size, 1, none⟩ = some (.int .i64 0) ∧ V.cell? ⟨w.heap.size, 2, none⟩ = some (.int .i64 2000) ∧ Below w7.heap.size w7 V) := fun V hb => ⟨cell_later hb S0.1, cell_later hb S0.2.1, cell_later hb S0.2.2.1, hb⟩
    have KB : Bx (w7.alloc (.cells #[.int .i64 0, .int .i64 0, .int .i64 2000, .int .i64 0, .int .i64 0, .int .i64 2000, .int .i64 0, .int .i64 0, .int .i64 2000] 51)).drew w7.heap.size 51 [.int .i64 0, .int .i64 0, .int .i64 2000, .int .i64 0, .int .i64 0, .int .i64 2000, .int .i64 0, .int .i64 0, .int .i64 2000] := bx_new w7 [.int .i64 0, .int .i64 0, .int .i64 2000, .int .i64 0, .int .i64 0, .int .i64 2000, .int .i64 0, .int .i64 0, .int .i64 2000] 51
    go_region_held3 (fun X => X.cell? ⟨w.heap.size, 0, none⟩ = some (.int .i64 0) ∧ X.cell? ⟨w.heap.size, 1, none⟩ = some (.int .i64 0) ∧ X.cell? ⟨w.heap.size, 2, none⟩ = some (.int .i64 2000) ∧ Below w7.heap.size w7 X)
      ((first | exact S1 | assumption | exact mk _ (by first | assumption | exact ((below_new _ _).drew) | exact HB.alloc HB.size _)))
      (first
        | (go_at_call 32; with_reducible refine (cF _).mono ?_; rintro e w8 ⟨n, rfl, hT, hb⟩; have HB : Below w7.heap.size w7 w8 := by first | exact below_step ((Below.refl _ _).drew) hb (Nat.le_refl _) | exact below_step ((below_new _ _).drew) hb (by simp))
        | (go_at_call 18; with_reducible refine (cD n _ (hT.below (below_new _ _)) w8.heap.size _ (bx_new w8 [.int .i64 0, .int .i64 0, .int .i64 2000, .int .i64 0, .int .i64 0, .int .i64 2000, .int .i64 0, .int .i64 0, .int .i64 2000] 51)).mono ?_; rintro e w9 ⟨gd, rfl, d0, d1, hb9⟩; have HC : Below w7.heap.size w7 w9 := below_step (HB.alloc HB.size _) hb9 ((HB.alloc HB.size _).size))
        | (go_at_call 18; with_reducible refine (cD n w8 hT w7.heap.size _ (KB.below hb)).mono ?_; rintro e w9 ⟨gd, rfl, d0, d1, hb9⟩; have HC : Below w7.heap.size w7 w9 := below_step HB hb9 HB.size))
    all_goals
      have B9 := below_step B7 HC B7.size
      have hY9 := hY.below HC
      clear S0 S1 mk KB cD hb9 hb hT HB HC hY K7 B7
      go_wp2_with (fail)
      with_reducible refine (cF _).mono ?_
      rintro e wa ⟨na, rfl, hT, hb⟩
      have Ba := below_step B9 hb B9.size
      replace hY9 := hY9.below hb
      replace d0 := cell_later hb d0
      replace d1 := cell_later hb d1
      obtain ⟨q0, q1, q2, q3, q4, q5, hB⟩ := fund_con hT
      clear hb B9 hT
      go_wp2_with (fail)
      have cC := corners_f ⟨⟨#[102, 117, 110, 100]⟩, 2, ⟨some ⟨na + 1 + 1 + 1, 0, none⟩, 1, 1, fun _ => 0, fun _ => 500, fun _ => 1000⟩, 1000, 2500, 4⟩ _ hB rfl und_f (by show (2500 : Int) ≤ _; omega)
      dsimp only at cC
      with_reducible refine cC.mono ?_
      rintro e wb ⟨gc, cpc, rfl, hgc, _, hb⟩
      have Bb := below_step Ba hb Ba.size
      replace hY9 := hY9.below hb
      replace d0 := cell_later hb d0
      replace d1 := cell_later hb d1
      clear hb Ba q0 q1 q2 q3 q4 q5 hB cC
      go_wp2_with (fail)
      with_reducible refine (cF _).mono ?_
      rintro e wc ⟨nc, rfl, hT, hb⟩
      have Bc := below_step Bb hb Bb.size
      replace hY9 := hY9.below hb
      replace d0 := cell_later hb d0
      replace d1 := cell_later hb d1
      replace hgc := cell_later hb hgc
      obtain ⟨q0, q1, q2, q3, q4, q5, hB⟩ := fund_con hT
      clear hb Bb hT
      go_wp2_with (fail)
      with_reducible refine (rates_f _ _ _ _ _ _ _ _ hB und_g (by omega)).mono ?_
      rintro e wd ⟨rfl, hb⟩
      have Bd := below_step Bc hb Bc.size
      replace hY9 := hY9.below hb
      replace d0 := cell_later hb d0
      replace d1 := cell_later hb d1
      replace hgc := cell_later hb hgc
      obtain ⟨y0, y1, y2, y3, y4, y5⟩ := hY9
      clear hb Bc q0 q1 q2 q3 q4 q5 hB
      go_wp2
      go_ret
      exact ⟨rfl, Bd⟩
end Go.Proofs.Ytifoapaoamhgcaa
