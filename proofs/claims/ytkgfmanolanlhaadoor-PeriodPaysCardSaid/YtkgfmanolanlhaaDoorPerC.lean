/- What the calls of period answer: Span of the last period, sort.Search, Index. -/
import Derived.Test.YtkgfmanolanlhaaDoorPerB
import Derived.Deep.LoopGhost
import Derived.Deep.RegionWith
namespace Go.Proofs.YtkgfmanolanlhaaDoor
open Go.RowKit
set_option linter.unusedVariables false
set_option linter.unusedSimpArgs false

/-- a year's last day, and two results' places, held while a period's beginning is asked -/
def SL (w : World) (p : Nat) (f y m d : Int) (W : World) : Prop := W.cell? ⟨p, 4, none⟩ = some (.int .i64 (yOf (yend y m d))) ∧ W.cell? ⟨p, 5, none⟩ = some (.int .i64 (mOf (yend y m d))) ∧ W.cell? ⟨p, 6, none⟩ = some (.int .i64 (dOf (yend y m d))) ∧
  W.cell? ⟨w.heap.size, 0, none⟩ = some (atk W w.heap.size 0) ∧ W.cell? ⟨w.heap.size, 1, none⟩ = some (atk W w.heap.size 1) ∧ W.cell? ⟨w.heap.size, 2, none⟩ = some (atk W w.heap.size 2) ∧
  W.cell? ⟨w.heap.size + 1, 0, none⟩ = some (atk W (w.heap.size + 1) 0) ∧ W.cell? ⟨w.heap.size + 1, 1, none⟩ = some (atk W (w.heap.size + 1) 1) ∧ W.cell? ⟨w.heap.size + 1, 2, none⟩ = some (atk W (w.heap.size + 1) 2) ∧
  W.frozen? ⟨w.heap.size, 0, none⟩ = false ∧ W.frozen? ⟨w.heap.size, 1, none⟩ = false ∧ W.frozen? ⟨w.heap.size, 2, none⟩ = false ∧ W.frozen? ⟨w.heap.size + 1, 0, none⟩ = false ∧ W.frozen? ⟨w.heap.size + 1, 1, none⟩ = false ∧ W.frozen? ⟨w.heap.size + 1, 2, none⟩ = false ∧
  Yr W p f y m d ∧ Below w.heap.size w W ∧ w.heap.size + 1 < W.heap.size ∧ p < w.heap.size ∧ 1 < w.heap.size
theorem Yr.slot {W W' : World} {p : Nat} {f y m d : Int} (Y : Yr W p f y m d) (hg : ∀ b o, b = p ∨ b = 1 → W'.cell? ⟨b, o, none⟩ = W.cell? ⟨b, o, none⟩) (hs : W'.heap.size = W.heap.size) : Yr W' p f y m d := by
  obtain ⟨⟨k3, k4, k5, k6, k7, k8, k9, k10, k11, k12, k13, k14, hgz⟩, c0, ⟨c1, c2, c3⟩, ⟨c4, c5, c6⟩, hz⟩ := Y
  exact ⟨⟨(hg _ _ (.inr rfl)).trans k3, (hg _ _ (.inr rfl)).trans k4, (hg _ _ (.inr rfl)).trans k5, (hg _ _ (.inr rfl)).trans k6, (hg _ _ (.inr rfl)).trans k7, (hg _ _ (.inr rfl)).trans k8, (hg _ _ (.inr rfl)).trans k9, (hg _ _ (.inr rfl)).trans k10, (hg _ _ (.inr rfl)).trans k11, (hg _ _ (.inr rfl)).trans k12, (hg _ _ (.inr rfl)).trans k13, (hg _ _ (.inr rfl)).trans k14, by omega⟩, (hg _ _ (.inl rfl)).trans c0, ⟨(hg _ _ (.inl rfl)).trans c1, (hg _ _ (.inl rfl)).trans c2, (hg _ _ (.inl rfl)).trans c3⟩, ⟨(hg _ _ (.inl rfl)).trans c4, (hg _ _ (.inl rfl)).trans c5, (hg _ _ (.inl rfl)).trans c6⟩, by omega⟩
theorem SL.step {w : World} {p : Nat} {f y m d : Int} {W W' : World} (hb : Below W.heap.size W W') (S : SL w p f y m d W) : SL w p f y m d W' := by
  obtain ⟨m0, m1, m2, a0, a1, a2, b0, b1, b2, f0, f1, f2, g0, g1, g2, Y, hB, hz, hp, hk⟩ := S
  have hs := hB.size
  have g : ∀ (bb oo : Nat), bb < W.heap.size → W'.cell? ⟨bb, oo, none⟩ = W.cell? ⟨bb, oo, none⟩ := fun bb oo hl => hb.cell (p := ⟨bb, oo, none⟩) hl
  have gf : ∀ (bb oo : Nat), bb < W.heap.size → W'.frozen? ⟨bb, oo, none⟩ = W.frozen? ⟨bb, oo, none⟩ := fun bb oo hl => hb.frozen (p := ⟨bb, oo, none⟩) hl
  exact ⟨(g _ _ (by omega)).trans m0, (g _ _ (by omega)).trans m1, (g _ _ (by omega)).trans m2, atk_of ((g _ _ (by omega)).trans a0), atk_of ((g _ _ (by omega)).trans a1), atk_of ((g _ _ (by omega)).trans a2), atk_of ((g _ _ (by omega)).trans b0), atk_of ((g _ _ (by omega)).trans b1), atk_of ((g _ _ (by omega)).trans b2),
    (gf _ _ (by omega)).trans f0, (gf _ _ (by omega)).trans f1, (gf _ _ (by omega)).trans f2, (gf _ _ (by omega)).trans g0, (gf _ _ (by omega)).trans g1, (gf _ _ (by omega)).trans g2, Y.below hb, below_step hB hb (by omega), by have := hb.size; omega, hp, hk⟩
theorem SL.set {w : World} {p : Nat} {f y m d : Int} {W : World} (r k : Nat) (hr : r = w.heap.size ∨ r = w.heap.size + 1) (hk3 : k = 0 ∨ k = 1 ∨ k = 2) (v : Value) (S : SL w p f y m d W) : SL w p f y m d (W.setCell ⟨r, k, none⟩ v) := by
  obtain ⟨m0, m1, m2, a0, a1, a2, b0, b1, b2, f0, f1, f2, g0, g1, g2, Y, hB, hz, hp, hk⟩ := S
  have g : ∀ (bb oo : Nat), (bb ≠ r ∨ oo ≠ k) → (W.setCell ⟨r, k, none⟩ v).cell? ⟨bb, oo, none⟩ = W.cell? ⟨bb, oo, none⟩ := fun bb oo hne => World.cell?_setCell_other _ _ _ _ (by intro e; simp only [Addr.mk.injEq] at e; omega)
  have gs : ∀ (bb oo : Nat) (u : Value), W.cell? ⟨bb, oo, none⟩ = some u → (W.setCell ⟨r, k, none⟩ v).cell? ⟨bb, oo, none⟩ = some (atk (W.setCell ⟨r, k, none⟩ v) bb oo) := fun bb oo u hu => by
    by_cases he : bb = r ∧ oo = k
    · obtain ⟨rfl, rfl⟩ := he
      exact atk_of (World.cell?_setCell_same _ _ _ hu)
    · exact atk_of ((g _ _ (by omega)).trans hu)
  exact ⟨(g _ _ (by omega)).trans m0, (g _ _ (by omega)).trans m1, (g _ _ (by omega)).trans m2, gs _ _ _ a0, gs _ _ _ a1, gs _ _ _ a2, gs _ _ _ b0, gs _ _ _ b1, gs _ _ _ b2,
    by rw [World.frozen?_setCell]; exact f0, by rw [World.frozen?_setCell]; exact f1, by rw [World.frozen?_setCell]; exact f2, by rw [World.frozen?_setCell]; exact g0, by rw [World.frozen?_setCell]; exact g1, by rw [World.frozen?_setCell]; exact g2,
    Y.slot (fun bb oo hbb => g _ _ (by omega)) (by simp), hB.setCell (by show w.heap.size ≤ r; omega) _, by simpa using hz, hp, hk⟩
theorem SL.set3 {w : World} {p : Nat} {f y m d : Int} {W : World} (r : Nat) (hr : r = w.heap.size ∨ r = w.heap.size + 1) (x y' z : Value) (S : SL w p f y m d W) : SL w p f y m d (((W.setCell ⟨r, 0, none⟩ x).setCell ⟨r, 1, none⟩ y').setCell ⟨r, 2, none⟩ z) :=
  ((S.set r 0 hr (by omega) x).set r 1 hr (by omega) y').set r 2 hr (by omega) z
theorem SL.of {w : World} {p : Nat} {f y m d : Int} {W : World} (Y : Yr W p f y m d) (hr : Slot W w.heap.size) (hr' : Slot W (w.heap.size + 1)) (hB : Below w.heap.size w W) (hp : p < w.heap.size) (hk : 1 < w.heap.size) : SL w p f y m d W := by
  obtain ⟨a0, a1, a2⟩ := hr.1
  obtain ⟨b0, b1, b2⟩ := hr'.1
  obtain ⟨f0, f1, f2⟩ := hr.2.1
  obtain ⟨g0, g1, g2⟩ := hr'.2.1
  obtain ⟨c4, c5, c6⟩ := Y.2.2.2.1
  exact ⟨c4, c5, c6, atk_of a0, atk_of a1, atk_of a2, atk_of b0, atk_of b1, atk_of b2, f0, f1, f2, g0, g1, g2, Y, hB, hr'.2.2, hp, hk⟩
set_option maxHeartbeats 2000000 in
theorem span_last (p : Nat) (f y m d k : Int) (W : World) (Y : Yr W p f y m d) (h : yrB y m d = true) (hf : 1 ≤ f) (hf' : f ≤ 4) (hk : k = cnt f y m d) :
    Calls Tryd.prog 36 #[.pointer (some ⟨p, 0, none⟩), .int .i64 k] W fun e w' => e = .returned (.tuple #[.agg #[.int .i64 (yOf (pb f y m d k)), .int .i64 (mOf (pb f y m d k)), .int .i64 (dOf (pb f y m d k))], .agg #[.int .i64 (yOf (yend y m d)), .int .i64 (mOf (yend y m d)), .int .i64 (dOf (yend y m d))], .int .i64 0]) ∧ Below W.heap.size W w' := by
  have hcb := cnt_bd (y := y) (d := d) hf hf' (dayB_yes (yrB_yes h).1).2.2.1
  have hc := fun W Y => count_any p f y m d W Y h hf hf'
  have hb1 := fun W Y => begin_any p f y m d k W Y h hf hf' (by omega) (by omega)
  rw [← hk] at hc hcb
  clear hk h
  generalize pb f y m d k = n at *
  have F1 : Slot ((W.alloc (.cells #[.int .i64 0, .int .i64 0, .int .i64 0] 23)).alloc (.cells #[.int .i64 0, .int .i64 0, .int .i64 0] 23)) (W.heap.size + 1) := by
    have := slot_new (W.alloc (.cells #[.int .i64 0, .int .i64 0, .int .i64 0] 23)) 23
    rwa [show (W.alloc (.cells #[.int .i64 0, .int .i64 0, .int .i64 0] 23)).heap.size = W.heap.size + 1 by simp] at this
  have F0 : Slot ((W.alloc (.cells #[.int .i64 0, .int .i64 0, .int .i64 0] 23)).alloc (.cells #[.int .i64 0, .int .i64 0, .int .i64 0] 23)) W.heap.size := (slot_new W 23).below ((Below.refl _ _).alloc (Nat.le_refl _) _)
  have B0 := two_base W #[.int .i64 0, .int .i64 0, .int .i64 0] #[.int .i64 0, .int .i64 0, .int .i64 0] 23 23
  have Y0 := Y.below B0
  have hpz : p < W.heap.size := Y.2.2.2.2
  have hgz : 1 < W.heap.size := Y.1.2.2.2.2.2.2.2.2.2.2.2.2
  obtain ⟨hcb1, hcb2⟩ := hcb
  clear Y
  go_enter Tryd.func36, Tryd.ntmps36
  go_wp2_with (fail)
  refine (hc _ Y0).mono ?_
  rintro e w1 ⟨rfl, hb⟩
  have B1 := below_step B0 hb (by simp; omega)
  have T1 := F1.below hb
  have T0 := F0.below hb
  have Y1 := Y0.below hb
  clear hb F0 B0 F1 Y0
  have L0 := SL.of Y1 T0 T1 B1 hpz hgz
  have L1 := L0.step (Below.refl _ _).drew
  clear T0 T1 B1 Y1
  obtain ⟨z0, z1, z2, _⟩ := id L1
  go_wp2
  go_region_with ((go_at_call 60; refine (hb1 _ L1.2.2.2.2.2.2.2.2.2.2.2.2.2.2.2.1).mono ?_; rintro e w2 ⟨rfl, hb⟩; obtain ⟨x0, x1, x2, x3, x4, x5, x6, x7, x8, x9, y0, y1, y2, y3, y4, Y2, B2, hz2, _, _⟩ := SL.step hb L1))
  all_goals go_wp2
  all_goals exact bodyPost_ret (v := .tuple #[.agg #[.int .i64 (yOf n), .int .i64 (mOf n), .int .i64 (dOf n)], .agg #[.int .i64 (yOf (yend y m d)), .int .i64 (mOf (yend y m d)), .int .i64 (dOf (yend y m d))], .int .i64 0]) (by simp [results, Tryd.results36, go_sem, x3, x4, x5, x6, x7, x8]) rfl ⟨rfl, by first | exact (((((B2.setCell (by simp) _).setCell (by simp) _).setCell (by simp) _).setCell (by simp) _).setCell (by simp) _).setCell (by simp) _ | (trace_state; sorry)⟩
end Go.Proofs.YtkgfmanolanlhaaDoor
