/- What the document's own calls answer that tell days: Months. -/
import Derived.Test.YtkgfmanolanlhaaDoorRefDateB
namespace Go.Proofs.YtkgfmanolanlhaaDoor
open Go.RowKit
set_option linter.unusedVariables false
set_option linter.unusedSimpArgs false

/-- whatever lies in a place -/
def atk (W : World) (b k : Nat) : Value := (W.cell? ⟨b, k, none⟩).getD undef
/-- what the walk holds while a day is looked at and handed back -/
def RS (o r h : Nat) (b c e : Int) (w W : World) : Prop := W.cell? ⟨o, 0, none⟩ = some (.int .i64 b) ∧ W.cell? ⟨o, 1, none⟩ = some (.int .i64 c) ∧ W.cell? ⟨o, 2, none⟩ = some (.int .i64 e) ∧
  W.cell? ⟨r, 0, none⟩ = some (atk W r 0) ∧ W.cell? ⟨r, 1, none⟩ = some (atk W r 1) ∧ W.cell? ⟨r, 2, none⟩ = some (atk W r 2) ∧ W.frozen? ⟨r, 0, none⟩ = false ∧ W.frozen? ⟨r, 1, none⟩ = false ∧ W.frozen? ⟨r, 2, none⟩ = false ∧ Below h w W ∧ h ≤ r ∧ r < o ∧ o < W.heap.size
theorem atk_of {W : World} {b k : Nat} {v : Value} (h : W.cell? ⟨b, k, none⟩ = some v) : W.cell? ⟨b, k, none⟩ = some (atk W b k) := by unfold atk; rw [h]; rfl
theorem RS.step {o r h : Nat} {b c e : Int} {w W W' : World} (hb : Below W.heap.size W W') (M : RS o r h b c e w W) : RS o r h b c e w W' := by
  obtain ⟨m0, m1, m2, m3, m4, m5, f0, f1, f2, hB, h1, h2, h3⟩ := M
  have hs := hB.size
  have g : ∀ (bb oo : Nat), bb < W.heap.size → W'.cell? ⟨bb, oo, none⟩ = W.cell? ⟨bb, oo, none⟩ := fun bb oo hl => hb.cell (p := ⟨bb, oo, none⟩) hl
  have gf : ∀ (bb oo : Nat), bb < W.heap.size → W'.frozen? ⟨bb, oo, none⟩ = W.frozen? ⟨bb, oo, none⟩ := fun bb oo hl => hb.frozen (p := ⟨bb, oo, none⟩) hl
  exact ⟨(g _ _ h3).trans m0, (g _ _ h3).trans m1, (g _ _ h3).trans m2, atk_of ((g _ _ (by omega)).trans m3), atk_of ((g _ _ (by omega)).trans m4), atk_of ((g _ _ (by omega)).trans m5),
    (gf _ _ (by omega)).trans f0, (gf _ _ (by omega)).trans f1, (gf _ _ (by omega)).trans f2, below_step hB hb (by omega), h1, h2, by have := hb.size; omega⟩
theorem RS.set {o r h : Nat} {b c e : Int} {w W : World} (k : Nat) (hk : k = 0 ∨ k = 1 ∨ k = 2) (v : Value) (M : RS o r h b c e w W) : RS o r h b c e w (W.setCell ⟨r, k, none⟩ v) := by
  obtain ⟨m0, m1, m2, m3, m4, m5, f0, f1, f2, hB, h1, h2, h3⟩ := M
  have g : ∀ (bb oo : Nat), (bb ≠ r ∨ oo ≠ k) → (W.setCell ⟨r, k, none⟩ v).cell? ⟨bb, oo, none⟩ = W.cell? ⟨bb, oo, none⟩ := fun bb oo hne => World.cell?_setCell_other _ _ _ _ (by intro e; simp only [Addr.mk.injEq] at e; omega)
  have gs : ∀ (oo : Nat) (u : Value), W.cell? ⟨r, oo, none⟩ = some u → (W.setCell ⟨r, k, none⟩ v).cell? ⟨r, oo, none⟩ = some (atk (W.setCell ⟨r, k, none⟩ v) r oo) := fun oo u hu => by
    by_cases he : oo = k
    · subst he
      exact atk_of (World.cell?_setCell_same _ _ _ hu)
    · exact atk_of ((g _ _ (.inr he)).trans hu)
  exact ⟨(g _ _ (by omega)).trans m0, (g _ _ (by omega)).trans m1, (g _ _ (by omega)).trans m2, gs _ _ m3, gs _ _ m4, gs _ _ m5, by rw [World.frozen?_setCell]; exact f0, by rw [World.frozen?_setCell]; exact f1, by rw [World.frozen?_setCell]; exact f2,
    hB.setCell (by show h ≤ r; exact h1) _, h1, h2, by simpa using h3⟩
theorem RS.set3 {o r h : Nat} {b c e : Int} {w W : World} (x y z : Value) (M : RS o r h b c e w W) : RS o r h b c e w (((W.setCell ⟨r, 0, none⟩ x).setCell ⟨r, 1, none⟩ y).setCell ⟨r, 2, none⟩ z) :=
  ((M.set 0 (by omega) x).set 1 (by omega) y).set 2 (by omega) z
theorem rs_start {w wr : World} {r h : Nat} (b c e : Int) (t : TypeId) (hr : Day wr r 0 0 0) (hf : Free wr r) (hB : Below h w wr) (h1 : h ≤ r) (h2 : r < wr.heap.size) : RS wr.heap.size r h b c e w (wr.alloc (.cells #[.int .i64 b, .int .i64 c, .int .i64 e] t)).drew := by
  have hb : Below wr.heap.size wr (wr.alloc (.cells #[.int .i64 b, .int .i64 c, .int .i64 e] t)) := (Below.refl _ _).alloc (Nat.le_refl _) _
  obtain ⟨n0, n1, n2⟩ := day_new wr b c e t
  obtain ⟨r0, r1, r2⟩ := hr.below hb (by omega)
  obtain ⟨f0, f1, f2⟩ := hf.below hb (by omega)
  have hs := hB.size
  exact ⟨n0, n1, n2, atk_of r0, atk_of r1, atk_of r2, f0, f1, f2, (hB.alloc (by omega) _).drew, h1, h2, by show wr.heap.size < (wr.alloc _).heap.size; simp⟩

theorem rmonths_no (y m d k : Int) (h : dayB y m d = false) (w : World) : Calls Tryd.prog 24 #[.agg #[.int .i64 y, .int .i64 m, .int .i64 d], .int .i64 k] w fun e w' => e = .returned (.tuple #[.agg #[.int .i64 0, .int .i64 0, .int .i64 0], .bool false]) ∧ Below w.heap.size w w' := by
  have hc := rright_b y m d false h
  clear h
  have T0 := two_new w y m d 23 23
  have B0 := two_base w #[.int .i64 y, .int .i64 m, .int .i64 d] #[.int .i64 0, .int .i64 0, .int .i64 0] 23 23
  obtain ⟨⟨a0, a1, a2⟩, _⟩ := id T0
  go_enter Tryd.func24, Tryd.ntmps24
  go_wp2_with (fail)
  refine (hc _).mono ?_
  rintro e w1 ⟨rfl, hb⟩
  obtain ⟨⟨c0, c1, c2⟩, ⟨r0, r1, r2⟩, ⟨f0, f1, f2⟩, hz⟩ := T0.below hb
  have B1 := below_step B0 hb (by simp; omega)
  clear hb T0 B0
  go_wp2
  exact bodyPost_ret (v := .tuple #[.agg #[.int .i64 0, .int .i64 0, .int .i64 0], .bool false]) (by simp [results, Tryd.results24, go_sem, r0, r1, r2]) rfl ⟨rfl, by first | exact B1 | exact ((B1.setCell (by simp) _).setCell (by simp) _).setCell (by simp) _⟩
/-- what Months hands back of a day -/
def RM (y m d k : Int) (w : World) (e : Ending) (w' : World) : Prop := ∃ b c f : Int, e = .returned (.tuple #[.agg #[.int .i64 b, .int .i64 c, .int .i64 f], .bool (mtB (mt y m k))]) ∧ (mtB (mt y m k) = true → b = yM (mt y m k) ∧ c = mM (mt y m k) ∧ f = dM (mt y m k) d) ∧ Below w.heap.size w w'
/-- where the walk along the months ends -/
theorem rm_end {T b c : Int} (hc : 1 ≤ c) (hc' : c ≤ 12) (hb : 1899 ≤ b) (hb' : b ≤ 2200) (he : b = 2200 ∨ b = 1899 ∨ (1900 ≤ b ∧ b ≤ 2199 ∧ mt b c 0 = T)) (ho : (b = 2200 → 3600 ≤ T) ∧ (b = 1899 → T < 0)) :
    (mtB T = true ∧ b = yM T ∧ c = mM T ∧ lastM b c = ml (yM T) (mM T)) ∨ (mtB T = false ∧ lastM b c = 0) := by
  rcases he with e | e | ⟨e1, e2, e3⟩
  · right
    exact ⟨by unfold mtB; rw [decide_eq_false_iff_not]; have := ho.1 e; omega, by unfold lastM; rw [if_neg (by omega)]⟩
  · right
    exact ⟨by unfold mtB; rw [decide_eq_false_iff_not]; have := ho.2 e; omega, by unfold lastM; rw [if_neg (by omega)]⟩
  · left
    have h1 : b = yM T := by unfold yM; unfold mt at e3; omega
    have h2 : c = mM T := by unfold mM; unfold mt at e3; omega
    refine ⟨by unfold mtB; rw [decide_eq_true_eq]; unfold mt at e3; omega, h1, h2, ?_⟩
    rw [← h1, ← h2]
    unfold lastM
    rw [if_pos (by omega)]
theorem rm_day {T b c d e0 v : Int} (HE : (mtB T = true ∧ b = yM T ∧ c = mM T ∧ lastM b c = ml (yM T) (mM T)) ∨ (mtB T = false ∧ lastM b c = 0)) (hv : lastM b c = v)
    (he1 : d ≤ 28 ∨ d ≤ v → e0 = d) (he2 : 28 < d ∧ v < d → (e0 = 28 ∨ e0 = v) ∧ 28 ≤ e0 ∧ v ≤ e0) (hd : 1 ≤ d) : dayB b c e0 = mtB T ∧ (mtB T = true → b = yM T ∧ c = mM T ∧ e0 = dM T d) := by
  rcases HE with ⟨h1, h2, h3, h4⟩ | ⟨h1, h2⟩
  · have hl := (ml_bd (yM T) (mM T)).1
    have e : e0 = dM T d := by
      unfold dM
      split <;> omega
    refine ⟨?_, fun _ => ⟨h2, h3, e⟩⟩
    rw [h1, h2, h3, e]
    exact months_day h1 hd
  · refine ⟨?_, fun h => by rw [h1] at h; exact Bool.noConfusion h⟩
    rw [h1]
    unfold dayB
    rw [h2]
    rw [decide_eq_false_iff_not]
    omega
set_option maxRecDepth 100000 in
set_option maxHeartbeats 2000000 in
theorem rmonths_up (y m d k : Int) (h : dayB y m d = true) (hk : 0 ≤ k) (hk' : k ≤ 5000) (w : World) : Calls Tryd.prog 24 #[.agg #[.int .i64 y, .int .i64 m, .int .i64 d], .int .i64 k] w (RM y m d k w) := by
  have hc := rright_b y m d true h
  obtain ⟨h1, h2, h3, h4, h5, h6⟩ := dayB_yes h
  have h7 := (ml_bd y m).2
  clear h
  generalize hT : mt y m k = T
  have HT := Lib.hid hT
  have HRM := Lib.hid (rfl : RM y m d k w = RM y m d k w)
  clear hT
  have T0 := two_new w y m d 23 23
  have B0 := two_base w #[.int .i64 y, .int .i64 m, .int .i64 d] #[.int .i64 0, .int .i64 0, .int .i64 0] 23 23
  obtain ⟨⟨a0, a1, a2⟩, _⟩ := id T0
  go_enter Tryd.func24, Tryd.ntmps24
  go_wp2_with (fail)
  refine (hc _).mono ?_
  rintro e w1 ⟨rfl, hb⟩
  have T1 := T0.below hb
  have B1 := below_step B0 hb (by simp; omega)
  clear hb T0 B0 a0 a1 a2 hc
  obtain ⟨⟨c0, c1, c2⟩, ⟨r0, r1, r2⟩, ⟨f0, f1, f2⟩, hz⟩ := id T1
  go_wp2
  go_quiet (fail)
  rename_i nq
  replace T1 : Two (w1.drewN nq) w.heap.size y m d := T1
  replace B1 := below_dn B1 nq
  generalize w1.drewN nq = W1 at *
  clear c0 c1 c2 r0 r1 r2 f0 f1 f2 hz
  obtain ⟨⟨c0, c1, c2⟩, ⟨r0, r1, r2⟩, ⟨f0, f1, f2⟩, hz⟩ := id T1
  go_wp2
  go_loop [1, 6, 7] (fun va vb vc => ∃ a b c : Int, va = .int .i64 a ∧ vb = .int .i64 b ∧ vc = .int .i64 c ∧ 0 ≤ a ∧ a ≤ 5000 ∧ 1900 ≤ b ∧ b ≤ 2200 ∧ 1 ≤ c ∧ c ≤ 12 ∧ Hid (mt b c a = T)) (fun va _ _ => (intOf va).toNat)
  case atStart => exact ⟨k, y, m, rfl, rfl, rfl, hk, hk', h1, by omega, h3, h4, HT⟩
  case round =>
    obtain ⟨a, b, c, rfl, rfl, rfl, ha1, ha2, hb1', hb2, hc1, hc2, HM⟩ := hrel
    have hb1 : 1899 ≤ b := by omega
    by_cases hgo : 0 < a ∧ b ≤ 2199
    · obtain ⟨g1, g2⟩ := hgo
      by_cases g3 : 12 < c + 1
      · go_wp2
        go_round
        case rel => exact ⟨a - 1, b + 1, 1, rfl, rfl, rfl, by omega, by omega, by omega, by omega, by omega, by omega, Lib.hid (by have := HM.out; unfold mt at this ⊢; omega)⟩
        case measure => simp [intOf]; omega
      · go_wp2
        go_round
        case rel => exact ⟨a - 1, b, c + 1, rfl, rfl, rfl, by omega, by omega, by omega, by omega, by omega, by omega, Lib.hid (by have := HM.out; unfold mt at this ⊢; omega)⟩
        case measure => simp [intOf]; omega
    · have hex : b = 2200 ∨ b = 1899 ∨ (1900 ≤ b ∧ b ≤ 2199 ∧ mt b c 0 = T) := by
        have := HM.out
        rcases Int.lt_or_le b 2200 with q | q
        · right; right
          refine ⟨by omega, by omega, ?_⟩
          obtain rfl : a = 0 := by omega
          exact this
        · left; omega
      have hou : (b = 2200 → 3600 ≤ T) ∧ (b = 1899 → T < 0) := by
        have := HM.out
        unfold mt at this
        omega
      have ha3 : ¬ a < 0 := by omega
      by_cases g1 : 0 < a
      · have g2 : ¬ b ≤ 2199 := by omega
        clear hgo HM
        go_wp2
        refine wp_loop_rounds 1 ?_
        rw [rounds_succ]
        go_wp2
        have hE := rm_end hc1 hc2 hb1 hb2 hex hou
        clear hou hex
        have hmo := month_any b c
        have hM := lastM_bd b c
        have hM28 : lastM b c = 0 ∨ 28 ≤ lastM b c := by
          rcases hE with ⟨_, _, _, e⟩ | ⟨_, e⟩
          · right; rw [e]; exact (ml_bd _ _).1
          · left; exact e
        have HE := Lib.hid hE
        clear hE
        obtain ⟨e0, he1, he2, he3⟩ : ∃ e0 : Int, (d ≤ 28 ∨ d ≤ lastM b c → e0 = d) ∧ (28 < d ∧ lastM b c < d → (e0 = 28 ∨ e0 = lastM b c) ∧ 28 ≤ e0 ∧ lastM b c ≤ e0) ∧ e0 ≤ d := by
          by_cases q1 : d ≤ 28 ∨ d ≤ lastM b c
          · exact ⟨d, fun _ => rfl, fun _ => by omega, by omega⟩
          · by_cases q2 : lastM b c ≤ 28
            · exact ⟨28, fun _ => by omega, fun _ => by omega, by omega⟩
            · exact ⟨lastM b c, fun _ => by omega, fun _ => by omega, by omega⟩
        have HX := Lib.hid (And.intro he1 he2)
        clear he1 he2
        have HMv := Lib.hid (rfl : lastM b c = lastM b c)
        generalize hmv : lastM b c = v at hmo hM hM28 HX
        have HV := Lib.hid hmv
        clear hmv HMv
        go_loopw [8] (fun n wr => ∃ (W2 : World) (f : Int), e0 ≤ f ∧ f ≤ d ∧ n = .int .i64 f ∧ W2 = wr ∧ Two W2 w.heap.size y m d ∧ Below w.heap.size w W2) (fun n _ => (intOf n).toNat)
        case atStart => exact ⟨_, d, he3, by omega, rfl, rfl, T1, B1⟩
        case round =>
          obtain ⟨W2, f, hf1, hf2, rfl, rfl, T2, B2⟩ := hrel
          have hz2 := T2.2.2.2
          by_cases g1 : f ≤ 28
          · have g1' : ¬ 28 < f := by omega
            have hfe : f = e0 := by have := HX.out; omega
            subst hfe
            obtain ⟨⟨c0, c1, c2⟩, ⟨r0, r1, r2⟩, ⟨f0, f1, f2⟩, hz⟩ := id T2
            go_wp2
            have hday := rm_day HE.out HV.out HX.out.1 HX.out.2 h5
            have hrr := rright_b b c f (mtB T) hday.1
            have HD := Lib.hid hday.2
            clear hday
            have R0 := rs_start b c f 23 T2.2.1 T2.2.2.1 B2 (by omega) T2.2.2.2
            go_region_held3 (fun W => W.cell? ⟨W2.heap.size, 0, none⟩ = some (.int .i64 b) ∧ W.cell? ⟨W2.heap.size, 1, none⟩ = some (.int .i64 c) ∧ W.cell? ⟨W2.heap.size, 2, none⟩ = some (.int .i64 f) ∧
                W.cell? ⟨w.heap.size + 1, 0, none⟩ = some (atk W (w.heap.size + 1) 0) ∧ W.cell? ⟨w.heap.size + 1, 1, none⟩ = some (atk W (w.heap.size + 1) 1) ∧ W.cell? ⟨w.heap.size + 1, 2, none⟩ = some (atk W (w.heap.size + 1) 2) ∧
                W.frozen? ⟨w.heap.size + 1, 0, none⟩ = false ∧ W.frozen? ⟨w.heap.size + 1, 1, none⟩ = false ∧ W.frozen? ⟨w.heap.size + 1, 2, none⟩ = false ∧ Below w.heap.size w W ∧ w.heap.size ≤ w.heap.size + 1 ∧ w.heap.size + 1 < W2.heap.size ∧ W2.heap.size < W.heap.size)
              ((first | exact R0 | exact RS.step hb (by assumption) | exact RS.set3 _ _ _ (by assumption)))
              (first | (go_at_call 26; refine (hrr _).mono ?_; rintro e w4 ⟨rfl, hb⟩))
            have R4 := RS.step hb R0
            obtain ⟨_, _, _, _, _, _, _, _, _, BF, _⟩ := RS.set3 (.int .i64 b) (.int .i64 c) (.int .i64 f) R4
            obtain ⟨_, _, _, q0, q1, q2, _⟩ := R4
            clear hb R0
            go_wp2
            exact bodyPost_ret (v := .tuple #[.agg #[.int .i64 b, .int .i64 c, .int .i64 f], .bool (mtB T)]) (by simp [results, Tryd.results24, go_sem, q0, q1, q2]) rfl (show RM y m d k w _ _ from ⟨b, c, f, by rw [HT.out], by rw [HT.out]; exact HD.out, BF⟩)
          · have g1' : 28 < f := by omega
            have hf31 : f ≤ 31 := by omega
            by_cases g2 : v < f
            · have hfe : e0 ≤ f - 1 := by have := HX.out; omega
              go_wp2_with (fail)
              refine (hmo _).mono ?_
              rintro e w3 ⟨rfl, hb⟩
              have T3 := T2.below hb
              have B3 := below_step B2 hb (by omega)
              clear hb T2 B2
              go_wp2
              go_roundw
              case rel => exact ⟨_, f - 1, hfe, by omega, rfl, rfl, T3, B3⟩
              case measure => simp [intOf]; omega
            · have hfe : f = e0 := by have := HX.out; omega
              subst hfe
              go_wp2_with (fail)
              refine (hmo _).mono ?_
              rintro e w3 ⟨rfl, hb⟩
              have T3 := T2.below hb
              have B3 := below_step B2 hb (by omega)
              clear hb T2 B2 hz2
              have T2 := T3
              have B2 := B3
              clear T3 B3
              obtain ⟨⟨c0, c1, c2⟩, ⟨r0, r1, r2⟩, ⟨f0, f1, f2⟩, hz2⟩ := id T2
              go_wp2
              have hday := rm_day HE.out HV.out HX.out.1 HX.out.2 h5
              have hrr := rright_b b c f (mtB T) hday.1
              have HD := Lib.hid hday.2
              clear hday
              have R0 := rs_start b c f 23 T2.2.1 T2.2.2.1 B2 (by omega) T2.2.2.2
              go_region_held3 (fun W => W.cell? ⟨w3.heap.size, 0, none⟩ = some (.int .i64 b) ∧ W.cell? ⟨w3.heap.size, 1, none⟩ = some (.int .i64 c) ∧ W.cell? ⟨w3.heap.size, 2, none⟩ = some (.int .i64 f) ∧
                  W.cell? ⟨w.heap.size + 1, 0, none⟩ = some (atk W (w.heap.size + 1) 0) ∧ W.cell? ⟨w.heap.size + 1, 1, none⟩ = some (atk W (w.heap.size + 1) 1) ∧ W.cell? ⟨w.heap.size + 1, 2, none⟩ = some (atk W (w.heap.size + 1) 2) ∧
                  W.frozen? ⟨w.heap.size + 1, 0, none⟩ = false ∧ W.frozen? ⟨w.heap.size + 1, 1, none⟩ = false ∧ W.frozen? ⟨w.heap.size + 1, 2, none⟩ = false ∧ Below w.heap.size w W ∧ w.heap.size ≤ w.heap.size + 1 ∧ w.heap.size + 1 < w3.heap.size ∧ w3.heap.size < W.heap.size)
                ((first | exact R0 | exact RS.step hb (by assumption) | exact RS.set3 _ _ _ (by assumption)))
                (first | (go_at_call 26; refine (hrr _).mono ?_; rintro e w4 ⟨rfl, hb⟩))
              have R4 := RS.step hb R0
              obtain ⟨_, _, _, _, _, _, _, _, _, BF, _⟩ := RS.set3 (.int .i64 b) (.int .i64 c) (.int .i64 f) R4
              obtain ⟨_, _, _, q0, q1, q2, _⟩ := R4
              clear hb R0
              go_wp2
              exact bodyPost_ret (v := .tuple #[.agg #[.int .i64 b, .int .i64 c, .int .i64 f], .bool (mtB T)]) (by simp [results, Tryd.results24, go_sem, q0, q1, q2]) rfl (show RM y m d k w _ _ from ⟨b, c, f, by rw [HT.out], by rw [HT.out]; exact HD.out, BF⟩)
      · clear hgo HM
        go_wp2
        refine wp_loop_rounds 1 ?_
        rw [rounds_succ]
        go_wp2
        have hE := rm_end hc1 hc2 hb1 hb2 hex hou
        clear hou hex
        have hmo := month_any b c
        have hM := lastM_bd b c
        have hM28 : lastM b c = 0 ∨ 28 ≤ lastM b c := by
          rcases hE with ⟨_, _, _, e⟩ | ⟨_, e⟩
          · right; rw [e]; exact (ml_bd _ _).1
          · left; exact e
        have HE := Lib.hid hE
        clear hE
        obtain ⟨e0, he1, he2, he3⟩ : ∃ e0 : Int, (d ≤ 28 ∨ d ≤ lastM b c → e0 = d) ∧ (28 < d ∧ lastM b c < d → (e0 = 28 ∨ e0 = lastM b c) ∧ 28 ≤ e0 ∧ lastM b c ≤ e0) ∧ e0 ≤ d := by
          by_cases q1 : d ≤ 28 ∨ d ≤ lastM b c
          · exact ⟨d, fun _ => rfl, fun _ => by omega, by omega⟩
          · by_cases q2 : lastM b c ≤ 28
            · exact ⟨28, fun _ => by omega, fun _ => by omega, by omega⟩
            · exact ⟨lastM b c, fun _ => by omega, fun _ => by omega, by omega⟩
        have HX := Lib.hid (And.intro he1 he2)
        clear he1 he2
        have HMv := Lib.hid (rfl : lastM b c = lastM b c)
        generalize hmv : lastM b c = v at hmo hM hM28 HX
        have HV := Lib.hid hmv
        clear hmv HMv
        go_loopw [8] (fun n wr => ∃ (W2 : World) (f : Int), e0 ≤ f ∧ f ≤ d ∧ n = .int .i64 f ∧ W2 = wr ∧ Two W2 w.heap.size y m d ∧ Below w.heap.size w W2) (fun n _ => (intOf n).toNat)
        case atStart => exact ⟨_, d, he3, by omega, rfl, rfl, T1, B1⟩
        case round =>
          obtain ⟨W2, f, hf1, hf2, rfl, rfl, T2, B2⟩ := hrel
          have hz2 := T2.2.2.2
          by_cases g1 : f ≤ 28
          · have g1' : ¬ 28 < f := by omega
            have hfe : f = e0 := by have := HX.out; omega
            subst hfe
            obtain ⟨⟨c0, c1, c2⟩, ⟨r0, r1, r2⟩, ⟨f0, f1, f2⟩, hz⟩ := id T2
            go_wp2
            have hday := rm_day HE.out HV.out HX.out.1 HX.out.2 h5
            have hrr := rright_b b c f (mtB T) hday.1
            have HD := Lib.hid hday.2
            clear hday
            have R0 := rs_start b c f 23 T2.2.1 T2.2.2.1 B2 (by omega) T2.2.2.2
            go_region_held3 (fun W => W.cell? ⟨W2.heap.size, 0, none⟩ = some (.int .i64 b) ∧ W.cell? ⟨W2.heap.size, 1, none⟩ = some (.int .i64 c) ∧ W.cell? ⟨W2.heap.size, 2, none⟩ = some (.int .i64 f) ∧
                W.cell? ⟨w.heap.size + 1, 0, none⟩ = some (atk W (w.heap.size + 1) 0) ∧ W.cell? ⟨w.heap.size + 1, 1, none⟩ = some (atk W (w.heap.size + 1) 1) ∧ W.cell? ⟨w.heap.size + 1, 2, none⟩ = some (atk W (w.heap.size + 1) 2) ∧
                W.frozen? ⟨w.heap.size + 1, 0, none⟩ = false ∧ W.frozen? ⟨w.heap.size + 1, 1, none⟩ = false ∧ W.frozen? ⟨w.heap.size + 1, 2, none⟩ = false ∧ Below w.heap.size w W ∧ w.heap.size ≤ w.heap.size + 1 ∧ w.heap.size + 1 < W2.heap.size ∧ W2.heap.size < W.heap.size)
              ((first | exact R0 | exact RS.step hb (by assumption) | exact RS.set3 _ _ _ (by assumption)))
              (first | (go_at_call 26; refine (hrr _).mono ?_; rintro e w4 ⟨rfl, hb⟩))
            have R4 := RS.step hb R0
            obtain ⟨_, _, _, _, _, _, _, _, _, BF, _⟩ := RS.set3 (.int .i64 b) (.int .i64 c) (.int .i64 f) R4
            obtain ⟨_, _, _, q0, q1, q2, _⟩ := R4
            clear hb R0
            go_wp2
            exact bodyPost_ret (v := .tuple #[.agg #[.int .i64 b, .int .i64 c, .int .i64 f], .bool (mtB T)]) (by simp [results, Tryd.results24, go_sem, q0, q1, q2]) rfl (show RM y m d k w _ _ from ⟨b, c, f, by rw [HT.out], by rw [HT.out]; exact HD.out, BF⟩)
          · have g1' : 28 < f := by omega
            have hf31 : f ≤ 31 := by omega
            by_cases g2 : v < f
            · have hfe : e0 ≤ f - 1 := by have := HX.out; omega
              go_wp2_with (fail)
              refine (hmo _).mono ?_
              rintro e w3 ⟨rfl, hb⟩
              have T3 := T2.below hb
              have B3 := below_step B2 hb (by omega)
              clear hb T2 B2
              go_wp2
              go_roundw
              case rel => exact ⟨_, f - 1, hfe, by omega, rfl, rfl, T3, B3⟩
              case measure => simp [intOf]; omega
            · have hfe : f = e0 := by have := HX.out; omega
              subst hfe
              go_wp2_with (fail)
              refine (hmo _).mono ?_
              rintro e w3 ⟨rfl, hb⟩
              have T3 := T2.below hb
              have B3 := below_step B2 hb (by omega)
              clear hb T2 B2 hz2
              have T2 := T3
              have B2 := B3
              clear T3 B3
              obtain ⟨⟨c0, c1, c2⟩, ⟨r0, r1, r2⟩, ⟨f0, f1, f2⟩, hz2⟩ := id T2
              go_wp2
              have hday := rm_day HE.out HV.out HX.out.1 HX.out.2 h5
              have hrr := rright_b b c f (mtB T) hday.1
              have HD := Lib.hid hday.2
              clear hday
              have R0 := rs_start b c f 23 T2.2.1 T2.2.2.1 B2 (by omega) T2.2.2.2
              go_region_held3 (fun W => W.cell? ⟨w3.heap.size, 0, none⟩ = some (.int .i64 b) ∧ W.cell? ⟨w3.heap.size, 1, none⟩ = some (.int .i64 c) ∧ W.cell? ⟨w3.heap.size, 2, none⟩ = some (.int .i64 f) ∧
                  W.cell? ⟨w.heap.size + 1, 0, none⟩ = some (atk W (w.heap.size + 1) 0) ∧ W.cell? ⟨w.heap.size + 1, 1, none⟩ = some (atk W (w.heap.size + 1) 1) ∧ W.cell? ⟨w.heap.size + 1, 2, none⟩ = some (atk W (w.heap.size + 1) 2) ∧
                  W.frozen? ⟨w.heap.size + 1, 0, none⟩ = false ∧ W.frozen? ⟨w.heap.size + 1, 1, none⟩ = false ∧ W.frozen? ⟨w.heap.size + 1, 2, none⟩ = false ∧ Below w.heap.size w W ∧ w.heap.size ≤ w.heap.size + 1 ∧ w.heap.size + 1 < w3.heap.size ∧ w3.heap.size < W.heap.size)
                ((first | exact R0 | exact RS.step hb (by assumption) | exact RS.set3 _ _ _ (by assumption)))
                (first | (go_at_call 26; refine (hrr _).mono ?_; rintro e w4 ⟨rfl, hb⟩))
              have R4 := RS.step hb R0
              obtain ⟨_, _, _, _, _, _, _, _, _, BF, _⟩ := RS.set3 (.int .i64 b) (.int .i64 c) (.int .i64 f) R4
              obtain ⟨_, _, _, q0, q1, q2, _⟩ := R4
              clear hb R0
              go_wp2
              exact bodyPost_ret (v := .tuple #[.agg #[.int .i64 b, .int .i64 c, .int .i64 f], .bool (mtB T)]) (by simp [results, Tryd.results24, go_sem, q0, q1, q2]) rfl (show RM y m d k w _ _ from ⟨b, c, f, by rw [HT.out], by rw [HT.out]; exact HD.out, BF⟩)
set_option maxRecDepth 100000 in
set_option maxHeartbeats 2000000 in
theorem rmonths_down (y m d k : Int) (h : dayB y m d = true) (hk : k < 0) (hk' : -5000 ≤ k) (w : World) : Calls Tryd.prog 24 #[.agg #[.int .i64 y, .int .i64 m, .int .i64 d], .int .i64 k] w (RM y m d k w) := by
  have hc := rright_b y m d true h
  obtain ⟨h1, h2, h3, h4, h5, h6⟩ := dayB_yes h
  have h7 := (ml_bd y m).2
  clear h
  generalize hT : mt y m k = T
  have HT := Lib.hid hT
  have HRM := Lib.hid (rfl : RM y m d k w = RM y m d k w)
  clear hT
  have T0 := two_new w y m d 23 23
  have B0 := two_base w #[.int .i64 y, .int .i64 m, .int .i64 d] #[.int .i64 0, .int .i64 0, .int .i64 0] 23 23
  obtain ⟨⟨a0, a1, a2⟩, _⟩ := id T0
  go_enter Tryd.func24, Tryd.ntmps24
  go_wp2_with (fail)
  refine (hc _).mono ?_
  rintro e w1 ⟨rfl, hb⟩
  have T1 := T0.below hb
  have B1 := below_step B0 hb (by simp; omega)
  clear hb T0 B0 a0 a1 a2 hc
  obtain ⟨⟨c0, c1, c2⟩, ⟨r0, r1, r2⟩, ⟨f0, f1, f2⟩, hz⟩ := id T1
  go_wp2
  go_quiet (fail)
  rename_i nq
  replace T1 : Two (w1.drewN nq) w.heap.size y m d := T1
  replace B1 := below_dn B1 nq
  generalize w1.drewN nq = W1 at *
  clear c0 c1 c2 r0 r1 r2 f0 f1 f2 hz
  obtain ⟨⟨c0, c1, c2⟩, ⟨r0, r1, r2⟩, ⟨f0, f1, f2⟩, hz⟩ := id T1
  go_wp2
  refine wp_loop_rounds 1 ?_
  rw [rounds_succ]
  go_wp2
  go_loop [1, 6, 7] (fun va vb vc => ∃ a b c : Int, va = .int .i64 a ∧ vb = .int .i64 b ∧ vc = .int .i64 c ∧ -5000 ≤ a ∧ a ≤ 0 ∧ 1899 ≤ b ∧ b ≤ 2199 ∧ 1 ≤ c ∧ c ≤ 12 ∧ Hid (mt b c a = T)) (fun va _ _ => (-intOf va).toNat)
  case atStart => exact ⟨k, y, m, rfl, rfl, rfl, hk', by omega, by omega, h2, h3, h4, HT⟩
  case round =>
    obtain ⟨a, b, c, rfl, rfl, rfl, ha1, ha2, hb1, hb2', hc1, hc2, HM⟩ := hrel
    have hb2 : b ≤ 2200 := by omega
    by_cases hgo : a < 0 ∧ 1900 ≤ b
    · obtain ⟨g1, g2⟩ := hgo
      by_cases g3 : c - 1 < 1
      · go_wp2
        go_round
        case rel => exact ⟨a + 1, b - 1, 12, rfl, rfl, rfl, by omega, by omega, by omega, by omega, by omega, by omega, Lib.hid (by have := HM.out; unfold mt at this ⊢; omega)⟩
        case measure => simp [intOf]; omega
      · go_wp2
        go_round
        case rel => exact ⟨a + 1, b, c - 1, rfl, rfl, rfl, by omega, by omega, by omega, by omega, by omega, by omega, Lib.hid (by have := HM.out; unfold mt at this ⊢; omega)⟩
        case measure => simp [intOf]; omega
    · have hex : b = 2200 ∨ b = 1899 ∨ (1900 ≤ b ∧ b ≤ 2199 ∧ mt b c 0 = T) := by
        have := HM.out
        rcases Int.lt_or_le 1899 b with q | q
        · right; right
          refine ⟨by omega, by omega, ?_⟩
          obtain rfl : a = 0 := by omega
          exact this
        · right; left; omega
      have hou : (b = 2200 → 3600 ≤ T) ∧ (b = 1899 → T < 0) := by
        have := HM.out
        unfold mt at this
        omega
      have ha3 : True := trivial
      by_cases g1 : a < 0
      · have g2 : ¬ 1900 ≤ b := by omega
        clear hgo HM
        go_wp2
        have hE := rm_end hc1 hc2 hb1 hb2 hex hou
        clear hou hex
        have hmo := month_any b c
        have hM := lastM_bd b c
        have hM28 : lastM b c = 0 ∨ 28 ≤ lastM b c := by
          rcases hE with ⟨_, _, _, e⟩ | ⟨_, e⟩
          · right; rw [e]; exact (ml_bd _ _).1
          · left; exact e
        have HE := Lib.hid hE
        clear hE
        obtain ⟨e0, he1, he2, he3⟩ : ∃ e0 : Int, (d ≤ 28 ∨ d ≤ lastM b c → e0 = d) ∧ (28 < d ∧ lastM b c < d → (e0 = 28 ∨ e0 = lastM b c) ∧ 28 ≤ e0 ∧ lastM b c ≤ e0) ∧ e0 ≤ d := by
          by_cases q1 : d ≤ 28 ∨ d ≤ lastM b c
          · exact ⟨d, fun _ => rfl, fun _ => by omega, by omega⟩
          · by_cases q2 : lastM b c ≤ 28
            · exact ⟨28, fun _ => by omega, fun _ => by omega, by omega⟩
            · exact ⟨lastM b c, fun _ => by omega, fun _ => by omega, by omega⟩
        have HX := Lib.hid (And.intro he1 he2)
        clear he1 he2
        have HMv := Lib.hid (rfl : lastM b c = lastM b c)
        generalize hmv : lastM b c = v at hmo hM hM28 HX
        have HV := Lib.hid hmv
        clear hmv HMv
        go_loopw [8] (fun n wr => ∃ (W2 : World) (f : Int), e0 ≤ f ∧ f ≤ d ∧ n = .int .i64 f ∧ W2 = wr ∧ Two W2 w.heap.size y m d ∧ Below w.heap.size w W2) (fun n _ => (intOf n).toNat)
        case atStart => exact ⟨_, d, he3, by omega, rfl, rfl, T1, B1⟩
        case round =>
          obtain ⟨W2, f, hf1, hf2, rfl, rfl, T2, B2⟩ := hrel
          have hz2 := T2.2.2.2
          by_cases g1 : f ≤ 28
          · have g1' : ¬ 28 < f := by omega
            have hfe : f = e0 := by have := HX.out; omega
            subst hfe
            obtain ⟨⟨c0, c1, c2⟩, ⟨r0, r1, r2⟩, ⟨f0, f1, f2⟩, hz⟩ := id T2
            go_wp2
            have hday := rm_day HE.out HV.out HX.out.1 HX.out.2 h5
            have hrr := rright_b b c f (mtB T) hday.1
            have HD := Lib.hid hday.2
            clear hday
            have R0 := rs_start b c f 23 T2.2.1 T2.2.2.1 B2 (by omega) T2.2.2.2
            go_region_held3 (fun W => W.cell? ⟨W2.heap.size, 0, none⟩ = some (.int .i64 b) ∧ W.cell? ⟨W2.heap.size, 1, none⟩ = some (.int .i64 c) ∧ W.cell? ⟨W2.heap.size, 2, none⟩ = some (.int .i64 f) ∧
                W.cell? ⟨w.heap.size + 1, 0, none⟩ = some (atk W (w.heap.size + 1) 0) ∧ W.cell? ⟨w.heap.size + 1, 1, none⟩ = some (atk W (w.heap.size + 1) 1) ∧ W.cell? ⟨w.heap.size + 1, 2, none⟩ = some (atk W (w.heap.size + 1) 2) ∧
                W.frozen? ⟨w.heap.size + 1, 0, none⟩ = false ∧ W.frozen? ⟨w.heap.size + 1, 1, none⟩ = false ∧ W.frozen? ⟨w.heap.size + 1, 2, none⟩ = false ∧ Below w.heap.size w W ∧ w.heap.size ≤ w.heap.size + 1 ∧ w.heap.size + 1 < W2.heap.size ∧ W2.heap.size < W.heap.size)
              ((first | exact R0 | exact RS.step hb (by assumption) | exact RS.set3 _ _ _ (by assumption)))
              (first | (go_at_call 26; refine (hrr _).mono ?_; rintro e w4 ⟨rfl, hb⟩))
            have R4 := RS.step hb R0
            obtain ⟨_, _, _, _, _, _, _, _, _, BF, _⟩ := RS.set3 (.int .i64 b) (.int .i64 c) (.int .i64 f) R4
            obtain ⟨_, _, _, q0, q1, q2, _⟩ := R4
            clear hb R0
            go_wp2
            exact bodyPost_ret (v := .tuple #[.agg #[.int .i64 b, .int .i64 c, .int .i64 f], .bool (mtB T)]) (by simp [results, Tryd.results24, go_sem, q0, q1, q2]) rfl (show RM y m d k w _ _ from ⟨b, c, f, by rw [HT.out], by rw [HT.out]; exact HD.out, BF⟩)
          · have g1' : 28 < f := by omega
            have hf31 : f ≤ 31 := by omega
            by_cases g2 : v < f
            · have hfe : e0 ≤ f - 1 := by have := HX.out; omega
              go_wp2_with (fail)
              refine (hmo _).mono ?_
              rintro e w3 ⟨rfl, hb⟩
              have T3 := T2.below hb
              have B3 := below_step B2 hb (by omega)
              clear hb T2 B2
              go_wp2
              go_roundw
              case rel => exact ⟨_, f - 1, hfe, by omega, rfl, rfl, T3, B3⟩
              case measure => simp [intOf]; omega
            · have hfe : f = e0 := by have := HX.out; omega
              subst hfe
              go_wp2_with (fail)
              refine (hmo _).mono ?_
              rintro e w3 ⟨rfl, hb⟩
              have T3 := T2.below hb
              have B3 := below_step B2 hb (by omega)
              clear hb T2 B2 hz2
              have T2 := T3
              have B2 := B3
              clear T3 B3
              obtain ⟨⟨c0, c1, c2⟩, ⟨r0, r1, r2⟩, ⟨f0, f1, f2⟩, hz2⟩ := id T2
              go_wp2
              have hday := rm_day HE.out HV.out HX.out.1 HX.out.2 h5
              have hrr := rright_b b c f (mtB T) hday.1
              have HD := Lib.hid hday.2
              clear hday
              have R0 := rs_start b c f 23 T2.2.1 T2.2.2.1 B2 (by omega) T2.2.2.2
              go_region_held3 (fun W => W.cell? ⟨w3.heap.size, 0, none⟩ = some (.int .i64 b) ∧ W.cell? ⟨w3.heap.size, 1, none⟩ = some (.int .i64 c) ∧ W.cell? ⟨w3.heap.size, 2, none⟩ = some (.int .i64 f) ∧
                  W.cell? ⟨w.heap.size + 1, 0, none⟩ = some (atk W (w.heap.size + 1) 0) ∧ W.cell? ⟨w.heap.size + 1, 1, none⟩ = some (atk W (w.heap.size + 1) 1) ∧ W.cell? ⟨w.heap.size + 1, 2, none⟩ = some (atk W (w.heap.size + 1) 2) ∧
                  W.frozen? ⟨w.heap.size + 1, 0, none⟩ = false ∧ W.frozen? ⟨w.heap.size + 1, 1, none⟩ = false ∧ W.frozen? ⟨w.heap.size + 1, 2, none⟩ = false ∧ Below w.heap.size w W ∧ w.heap.size ≤ w.heap.size + 1 ∧ w.heap.size + 1 < w3.heap.size ∧ w3.heap.size < W.heap.size)
                ((first | exact R0 | exact RS.step hb (by assumption) | exact RS.set3 _ _ _ (by assumption)))
                (first | (go_at_call 26; refine (hrr _).mono ?_; rintro e w4 ⟨rfl, hb⟩))
              have R4 := RS.step hb R0
              obtain ⟨_, _, _, _, _, _, _, _, _, BF, _⟩ := RS.set3 (.int .i64 b) (.int .i64 c) (.int .i64 f) R4
              obtain ⟨_, _, _, q0, q1, q2, _⟩ := R4
              clear hb R0
              go_wp2
              exact bodyPost_ret (v := .tuple #[.agg #[.int .i64 b, .int .i64 c, .int .i64 f], .bool (mtB T)]) (by simp [results, Tryd.results24, go_sem, q0, q1, q2]) rfl (show RM y m d k w _ _ from ⟨b, c, f, by rw [HT.out], by rw [HT.out]; exact HD.out, BF⟩)
      · clear hgo HM
        go_wp2
        have hE := rm_end hc1 hc2 hb1 hb2 hex hou
        clear hou hex
        have hmo := month_any b c
        have hM := lastM_bd b c
        have hM28 : lastM b c = 0 ∨ 28 ≤ lastM b c := by
          rcases hE with ⟨_, _, _, e⟩ | ⟨_, e⟩
          · right; rw [e]; exact (ml_bd _ _).1
          · left; exact e
        have HE := Lib.hid hE
        clear hE
        obtain ⟨e0, he1, he2, he3⟩ : ∃ e0 : Int, (d ≤ 28 ∨ d ≤ lastM b c → e0 = d) ∧ (28 < d ∧ lastM b c < d → (e0 = 28 ∨ e0 = lastM b c) ∧ 28 ≤ e0 ∧ lastM b c ≤ e0) ∧ e0 ≤ d := by
          by_cases q1 : d ≤ 28 ∨ d ≤ lastM b c
          · exact ⟨d, fun _ => rfl, fun _ => by omega, by omega⟩
          · by_cases q2 : lastM b c ≤ 28
            · exact ⟨28, fun _ => by omega, fun _ => by omega, by omega⟩
            · exact ⟨lastM b c, fun _ => by omega, fun _ => by omega, by omega⟩
        have HX := Lib.hid (And.intro he1 he2)
        clear he1 he2
        have HMv := Lib.hid (rfl : lastM b c = lastM b c)
        generalize hmv : lastM b c = v at hmo hM hM28 HX
        have HV := Lib.hid hmv
        clear hmv HMv
        go_loopw [8] (fun n wr => ∃ (W2 : World) (f : Int), e0 ≤ f ∧ f ≤ d ∧ n = .int .i64 f ∧ W2 = wr ∧ Two W2 w.heap.size y m d ∧ Below w.heap.size w W2) (fun n _ => (intOf n).toNat)
        case atStart => exact ⟨_, d, he3, by omega, rfl, rfl, T1, B1⟩
        case round =>
          obtain ⟨W2, f, hf1, hf2, rfl, rfl, T2, B2⟩ := hrel
          have hz2 := T2.2.2.2
          by_cases g1 : f ≤ 28
          · have g1' : ¬ 28 < f := by omega
            have hfe : f = e0 := by have := HX.out; omega
            subst hfe
            obtain ⟨⟨c0, c1, c2⟩, ⟨r0, r1, r2⟩, ⟨f0, f1, f2⟩, hz⟩ := id T2
            go_wp2
            have hday := rm_day HE.out HV.out HX.out.1 HX.out.2 h5
            have hrr := rright_b b c f (mtB T) hday.1
            have HD := Lib.hid hday.2
            clear hday
            have R0 := rs_start b c f 23 T2.2.1 T2.2.2.1 B2 (by omega) T2.2.2.2
            go_region_held3 (fun W => W.cell? ⟨W2.heap.size, 0, none⟩ = some (.int .i64 b) ∧ W.cell? ⟨W2.heap.size, 1, none⟩ = some (.int .i64 c) ∧ W.cell? ⟨W2.heap.size, 2, none⟩ = some (.int .i64 f) ∧
                W.cell? ⟨w.heap.size + 1, 0, none⟩ = some (atk W (w.heap.size + 1) 0) ∧ W.cell? ⟨w.heap.size + 1, 1, none⟩ = some (atk W (w.heap.size + 1) 1) ∧ W.cell? ⟨w.heap.size + 1, 2, none⟩ = some (atk W (w.heap.size + 1) 2) ∧
                W.frozen? ⟨w.heap.size + 1, 0, none⟩ = false ∧ W.frozen? ⟨w.heap.size + 1, 1, none⟩ = false ∧ W.frozen? ⟨w.heap.size + 1, 2, none⟩ = false ∧ Below w.heap.size w W ∧ w.heap.size ≤ w.heap.size + 1 ∧ w.heap.size + 1 < W2.heap.size ∧ W2.heap.size < W.heap.size)
              ((first | exact R0 | exact RS.step hb (by assumption) | exact RS.set3 _ _ _ (by assumption)))
              (first | (go_at_call 26; refine (hrr _).mono ?_; rintro e w4 ⟨rfl, hb⟩))
            have R4 := RS.step hb R0
            obtain ⟨_, _, _, _, _, _, _, _, _, BF, _⟩ := RS.set3 (.int .i64 b) (.int .i64 c) (.int .i64 f) R4
            obtain ⟨_, _, _, q0, q1, q2, _⟩ := R4
            clear hb R0
            go_wp2
            exact bodyPost_ret (v := .tuple #[.agg #[.int .i64 b, .int .i64 c, .int .i64 f], .bool (mtB T)]) (by simp [results, Tryd.results24, go_sem, q0, q1, q2]) rfl (show RM y m d k w _ _ from ⟨b, c, f, by rw [HT.out], by rw [HT.out]; exact HD.out, BF⟩)
          · have g1' : 28 < f := by omega
            have hf31 : f ≤ 31 := by omega
            by_cases g2 : v < f
            · have hfe : e0 ≤ f - 1 := by have := HX.out; omega
              go_wp2_with (fail)
              refine (hmo _).mono ?_
              rintro e w3 ⟨rfl, hb⟩
              have T3 := T2.below hb
              have B3 := below_step B2 hb (by omega)
              clear hb T2 B2
              go_wp2
              go_roundw
              case rel => exact ⟨_, f - 1, hfe, by omega, rfl, rfl, T3, B3⟩
              case measure => simp [intOf]; omega
            · have hfe : f = e0 := by have := HX.out; omega
              subst hfe
              go_wp2_with (fail)
              refine (hmo _).mono ?_
              rintro e w3 ⟨rfl, hb⟩
              have T3 := T2.below hb
              have B3 := below_step B2 hb (by omega)
              clear hb T2 B2 hz2
              have T2 := T3
              have B2 := B3
              clear T3 B3
              obtain ⟨⟨c0, c1, c2⟩, ⟨r0, r1, r2⟩, ⟨f0, f1, f2⟩, hz2⟩ := id T2
              go_wp2
              have hday := rm_day HE.out HV.out HX.out.1 HX.out.2 h5
              have hrr := rright_b b c f (mtB T) hday.1
              have HD := Lib.hid hday.2
              clear hday
              have R0 := rs_start b c f 23 T2.2.1 T2.2.2.1 B2 (by omega) T2.2.2.2
              go_region_held3 (fun W => W.cell? ⟨w3.heap.size, 0, none⟩ = some (.int .i64 b) ∧ W.cell? ⟨w3.heap.size, 1, none⟩ = some (.int .i64 c) ∧ W.cell? ⟨w3.heap.size, 2, none⟩ = some (.int .i64 f) ∧
                  W.cell? ⟨w.heap.size + 1, 0, none⟩ = some (atk W (w.heap.size + 1) 0) ∧ W.cell? ⟨w.heap.size + 1, 1, none⟩ = some (atk W (w.heap.size + 1) 1) ∧ W.cell? ⟨w.heap.size + 1, 2, none⟩ = some (atk W (w.heap.size + 1) 2) ∧
                  W.frozen? ⟨w.heap.size + 1, 0, none⟩ = false ∧ W.frozen? ⟨w.heap.size + 1, 1, none⟩ = false ∧ W.frozen? ⟨w.heap.size + 1, 2, none⟩ = false ∧ Below w.heap.size w W ∧ w.heap.size ≤ w.heap.size + 1 ∧ w.heap.size + 1 < w3.heap.size ∧ w3.heap.size < W.heap.size)
                ((first | exact R0 | exact RS.step hb (by assumption) | exact RS.set3 _ _ _ (by assumption)))
                (first | (go_at_call 26; refine (hrr _).mono ?_; rintro e w4 ⟨rfl, hb⟩))
              have R4 := RS.step hb R0
              obtain ⟨_, _, _, _, _, _, _, _, _, BF, _⟩ := RS.set3 (.int .i64 b) (.int .i64 c) (.int .i64 f) R4
              obtain ⟨_, _, _, q0, q1, q2, _⟩ := R4
              clear hb R0
              go_wp2
              exact bodyPost_ret (v := .tuple #[.agg #[.int .i64 b, .int .i64 c, .int .i64 f], .bool (mtB T)]) (by simp [results, Tryd.results24, go_sem, q0, q1, q2]) rfl (show RM y m d k w _ _ from ⟨b, c, f, by rw [HT.out], by rw [HT.out]; exact HD.out, BF⟩)
theorem rmonths_any (y m d k : Int) (h : dayB y m d = true) (hk : -5000 ≤ k) (hk' : k ≤ 5000) (w : World) : Calls Tryd.prog 24 #[.agg #[.int .i64 y, .int .i64 m, .int .i64 d], .int .i64 k] w (RM y m d k w) := by
  rcases Int.lt_or_le k 0 with q | q
  · exact rmonths_down y m d k h q hk w
  · exact rmonths_up y m d k h q hk' w
theorem rmonths_yes (y m d k : Int) (h : dayB y m d = true) (hk : -5000 ≤ k) (hk' : k ≤ 5000) (ht : mtB (mt y m k) = true) (w : World) : Calls Tryd.prog 24 #[.agg #[.int .i64 y, .int .i64 m, .int .i64 d], .int .i64 k] w fun e w' => e = .returned (.tuple #[.agg #[.int .i64 (yM (mt y m k)), .int .i64 (mM (mt y m k)), .int .i64 (dM (mt y m k) d)], .bool true]) ∧ Below w.heap.size w w' :=
  (rmonths_any y m d k h hk hk' w).mono fun e w' ⟨b, c, f, he, hy, hB⟩ => by
    obtain ⟨rfl, rfl, rfl⟩ := hy ht
    rw [ht] at he
    exact ⟨he, hB⟩
def RMno (w : World) (e : Ending) (w' : World) : Prop := ∃ b c f : Int, e = .returned (.tuple #[.agg #[.int .i64 b, .int .i64 c, .int .i64 f], .bool false]) ∧ Below w.heap.size w w'
theorem rmonths_out (y m d k : Int) (hk : -5000 ≤ k) (hk' : k ≤ 5000) (ht : (dayB y m d && mtB (mt y m k)) = false) (w : World) : Calls Tryd.prog 24 #[.agg #[.int .i64 y, .int .i64 m, .int .i64 d], .int .i64 k] w (RMno w) := by
  cases h : dayB y m d
  · exact (rmonths_no y m d k h w).mono fun e w' ⟨he, hB⟩ => ⟨0, 0, 0, he, hB⟩
  · rw [h, Bool.true_and] at ht
    exact (rmonths_any y m d k h hk hk' w).mono fun e w' ⟨b, c, f, he, hy, hB⟩ => by
      rw [ht] at he
      exact ⟨b, c, f, he, hB⟩
end Go.Proofs.YtkgfmanolanlhaaDoor
