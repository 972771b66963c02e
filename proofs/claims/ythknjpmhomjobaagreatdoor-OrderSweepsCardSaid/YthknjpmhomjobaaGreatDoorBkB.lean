/- What the insertion sort of a run of orders does. -/
import Derived.Test.YthknjpmhomjobaaGreatDoorBkA
import Derived.Lib.QuietBelow
import Derived.BigGuardPart
import Derived.BigQuiet
import Derived.Deep.RegionHeld3
namespace Go.Proofs.YthknjpmhomjobaaGreatDoor
open Go.RowKit Go.Sort
set_option linter.unusedVariables false
set_option linter.unusedSimpArgs false

theorem heldO_go {F : Exit → Act → World → Prop} {e : Exit} {a : Act} {W : World} (S : World → Prop) (h : S W) (k : ∀ W, S W → F e a W) : F e a W := k W h
theorem mixedO : Tryz.prog.follows .mixedOrders = true := by kernel_rfl
/-- a block that holds orders, and may be written -/
def SB (W : World) (b n : Nat) (f : Nat → Sta) : Prop := b < W.heap.size ∧ (∀ k, W.frozen? ⟨b, k, none⟩ = false) ∧ ∀ i, i < n → SAt W b (i * 7) (f i)
theorem SB.below {W W' : World} {b n : Nat} {f : Nat → Sta} (h : SB W b n f) (hb : Below W.heap.size W W') : SB W' b n f :=
  ⟨Nat.lt_of_lt_of_le h.1 hb.size, fun k => (hb.frozen (p := ⟨b, k, none⟩) h.1).trans (h.2.1 k), fun i hi => (h.2.2 i hi).below hb⟩
theorem SB.drew {W : World} {b n : Nat} {f : Nat → Sta} (h : SB W b n f) : SB W.drew b n f := ⟨h.1, h.2.1, h.2.2⟩
theorem SB.ors {W : World} {b n : Nat} {f : Nat → Sta} (h : SB W b n f) : Ors W (some ⟨b, 0, none⟩) n f := fun _ => ⟨b, 0, rfl, fun i hi => by rw [Nat.zero_add]; exact h.2.2 i hi⟩
/-- an order is stored there -/
def st7 (W : World) (b o : Nat) (s : Sta) : World := (((((((W.setCell ⟨b, o, none⟩ (.int .i64 s.id)).setCell ⟨b, o + 1, none⟩ (.int .i64 s.pr)).setCell ⟨b, o + 2, none⟩ (.int .i64 s.am)).setCell ⟨b, o + 3, none⟩ (.int .i64 s.rt)).setCell ⟨b, o + 4, none⟩ (.int .i64 s.tot)).setCell ⟨b, o + 5, none⟩ (.int .i64 s.tk)).setCell ⟨b, o + 6, none⟩ (.int .i64 s.ar))
theorem st7_same {W : World} {b o : Nat} {s s0 : Sta} (h : SAt W b o s0) : SAt (st7 W b o s) b o s := by
  obtain ⟨h0, h1, h2, h3, h4, h5, h6⟩ := h
  have nd : ∀ (V : World) (p q : Nat) (v : Value), p ≠ q → (V.setCell ⟨b, p, none⟩ v).cell? ⟨b, q, none⟩ = V.cell? ⟨b, q, none⟩ := fun V p q v hpq => World.cell?_setCell_other _ _ _ _ (by intro e; simp only [Addr.mk.injEq] at e; omega)
  unfold st7
  refine ⟨?_, ?_, ?_, ?_, ?_, ?_, ?_⟩
  · rw [nd _ (o + 6) (o) _ (by omega)]; rw [nd _ (o + 5) (o) _ (by omega)]; rw [nd _ (o + 4) (o) _ (by omega)]; rw [nd _ (o + 3) (o) _ (by omega)]; rw [nd _ (o + 2) (o) _ (by omega)]; rw [nd _ (o + 1) (o) _ (by omega)]; exact World.cell?_setCell_same _ _ _ (by exact h0)
  · rw [nd _ (o + 6) (o + 1) _ (by omega)]; rw [nd _ (o + 5) (o + 1) _ (by omega)]; rw [nd _ (o + 4) (o + 1) _ (by omega)]; rw [nd _ (o + 3) (o + 1) _ (by omega)]; rw [nd _ (o + 2) (o + 1) _ (by omega)]; exact World.cell?_setCell_same _ _ _ (by rw [nd _ (o) (o + 1) _ (by omega)]; exact h1)
  · rw [nd _ (o + 6) (o + 2) _ (by omega)]; rw [nd _ (o + 5) (o + 2) _ (by omega)]; rw [nd _ (o + 4) (o + 2) _ (by omega)]; rw [nd _ (o + 3) (o + 2) _ (by omega)]; exact World.cell?_setCell_same _ _ _ (by rw [nd _ (o + 1) (o + 2) _ (by omega)]; rw [nd _ (o) (o + 2) _ (by omega)]; exact h2)
  · rw [nd _ (o + 6) (o + 3) _ (by omega)]; rw [nd _ (o + 5) (o + 3) _ (by omega)]; rw [nd _ (o + 4) (o + 3) _ (by omega)]; exact World.cell?_setCell_same _ _ _ (by rw [nd _ (o + 2) (o + 3) _ (by omega)]; rw [nd _ (o + 1) (o + 3) _ (by omega)]; rw [nd _ (o) (o + 3) _ (by omega)]; exact h3)
  · rw [nd _ (o + 6) (o + 4) _ (by omega)]; rw [nd _ (o + 5) (o + 4) _ (by omega)]; exact World.cell?_setCell_same _ _ _ (by rw [nd _ (o + 3) (o + 4) _ (by omega)]; rw [nd _ (o + 2) (o + 4) _ (by omega)]; rw [nd _ (o + 1) (o + 4) _ (by omega)]; rw [nd _ (o) (o + 4) _ (by omega)]; exact h4)
  · rw [nd _ (o + 6) (o + 5) _ (by omega)]; exact World.cell?_setCell_same _ _ _ (by rw [nd _ (o + 4) (o + 5) _ (by omega)]; rw [nd _ (o + 3) (o + 5) _ (by omega)]; rw [nd _ (o + 2) (o + 5) _ (by omega)]; rw [nd _ (o + 1) (o + 5) _ (by omega)]; rw [nd _ (o) (o + 5) _ (by omega)]; exact h5)
  · exact World.cell?_setCell_same _ _ _ (by rw [nd _ (o + 5) (o + 6) _ (by omega)]; rw [nd _ (o + 4) (o + 6) _ (by omega)]; rw [nd _ (o + 3) (o + 6) _ (by omega)]; rw [nd _ (o + 2) (o + 6) _ (by omega)]; rw [nd _ (o + 1) (o + 6) _ (by omega)]; rw [nd _ (o) (o + 6) _ (by omega)]; exact h6)
theorem st7_other {W : World} {b o q : Nat} {s t : Sta} (h : SAt W b q t) (hq : q + 7 ≤ o ∨ o + 7 ≤ q) : SAt (st7 W b o s) b q t := by
  obtain ⟨h0, h1, h2, h3, h4, h5, h6⟩ := h
  have nd : ∀ (V : World) (p q : Nat) (v : Value), p ≠ q → (V.setCell ⟨b, p, none⟩ v).cell? ⟨b, q, none⟩ = V.cell? ⟨b, q, none⟩ := fun V p q v hpq => World.cell?_setCell_other _ _ _ _ (by intro e; simp only [Addr.mk.injEq] at e; omega)
  unfold st7
  refine ⟨?_, ?_, ?_, ?_, ?_, ?_, ?_⟩
  · rw [nd _ (o + 6) (q) _ (by omega)]; rw [nd _ (o + 5) (q) _ (by omega)]; rw [nd _ (o + 4) (q) _ (by omega)]; rw [nd _ (o + 3) (q) _ (by omega)]; rw [nd _ (o + 2) (q) _ (by omega)]; rw [nd _ (o + 1) (q) _ (by omega)]; rw [nd _ (o) (q) _ (by omega)]; exact h0
  · rw [nd _ (o + 6) (q + 1) _ (by omega)]; rw [nd _ (o + 5) (q + 1) _ (by omega)]; rw [nd _ (o + 4) (q + 1) _ (by omega)]; rw [nd _ (o + 3) (q + 1) _ (by omega)]; rw [nd _ (o + 2) (q + 1) _ (by omega)]; rw [nd _ (o + 1) (q + 1) _ (by omega)]; rw [nd _ (o) (q + 1) _ (by omega)]; exact h1
  · rw [nd _ (o + 6) (q + 2) _ (by omega)]; rw [nd _ (o + 5) (q + 2) _ (by omega)]; rw [nd _ (o + 4) (q + 2) _ (by omega)]; rw [nd _ (o + 3) (q + 2) _ (by omega)]; rw [nd _ (o + 2) (q + 2) _ (by omega)]; rw [nd _ (o + 1) (q + 2) _ (by omega)]; rw [nd _ (o) (q + 2) _ (by omega)]; exact h2
  · rw [nd _ (o + 6) (q + 3) _ (by omega)]; rw [nd _ (o + 5) (q + 3) _ (by omega)]; rw [nd _ (o + 4) (q + 3) _ (by omega)]; rw [nd _ (o + 3) (q + 3) _ (by omega)]; rw [nd _ (o + 2) (q + 3) _ (by omega)]; rw [nd _ (o + 1) (q + 3) _ (by omega)]; rw [nd _ (o) (q + 3) _ (by omega)]; exact h3
  · rw [nd _ (o + 6) (q + 4) _ (by omega)]; rw [nd _ (o + 5) (q + 4) _ (by omega)]; rw [nd _ (o + 4) (q + 4) _ (by omega)]; rw [nd _ (o + 3) (q + 4) _ (by omega)]; rw [nd _ (o + 2) (q + 4) _ (by omega)]; rw [nd _ (o + 1) (q + 4) _ (by omega)]; rw [nd _ (o) (q + 4) _ (by omega)]; exact h4
  · rw [nd _ (o + 6) (q + 5) _ (by omega)]; rw [nd _ (o + 5) (q + 5) _ (by omega)]; rw [nd _ (o + 4) (q + 5) _ (by omega)]; rw [nd _ (o + 3) (q + 5) _ (by omega)]; rw [nd _ (o + 2) (q + 5) _ (by omega)]; rw [nd _ (o + 1) (q + 5) _ (by omega)]; rw [nd _ (o) (q + 5) _ (by omega)]; exact h5
  · rw [nd _ (o + 6) (q + 6) _ (by omega)]; rw [nd _ (o + 5) (q + 6) _ (by omega)]; rw [nd _ (o + 4) (q + 6) _ (by omega)]; rw [nd _ (o + 3) (q + 6) _ (by omega)]; rw [nd _ (o + 2) (q + 6) _ (by omega)]; rw [nd _ (o + 1) (q + 6) _ (by omega)]; rw [nd _ (o) (q + 6) _ (by omega)]; exact h6
theorem SB.swap {W : World} {b n j x : Nat} {f : Nat → Sta} (h : SB W b n f) (hj : j < n) (hx : x < n) (hne : x ≠ j) : SB (st7 (st7 W b (j * 7) (f x)) b (x * 7) (f j)) b n (swO f j x) := by
  obtain ⟨h1, h2, h3⟩ := h
  refine ⟨by unfold st7; simpa [World.setCell] using h1, fun k => by unfold st7; simp only [World.frozen?_setCell]; exact h2 k, fun i hi => ?_⟩
  unfold swO
  by_cases e1 : i = x
  · subst e1
    rw [if_pos rfl]
    exact st7_same (st7_other (h3 i hx) (by omega))
  · rw [if_neg e1]
    by_cases e2 : i = j
    · subst e2
      rw [if_pos rfl]
      exact st7_other (st7_same (h3 i hj)) (by omega)
    · rw [if_neg e2]
      exact st7_other (st7_other (h3 i hi) (by omega)) (by omega)
theorem st7_below {B : Nat} {w W : World} {b o : Nat} {s : Sta} (h : Below B w W) (hb : B ≤ b) : Below B w (st7 W b o s) := by
  unfold st7
  exact ((((((h.setCell (p := ⟨b, o, none⟩) hb _).setCell (p := ⟨b, o + 1, none⟩) hb _).setCell (p := ⟨b, o + 2, none⟩) hb _).setCell (p := ⟨b, o + 3, none⟩) hb _).setCell (p := ⟨b, o + 4, none⟩) hb _).setCell (p := ⟨b, o + 5, none⟩) hb _).setCell (p := ⟨b, o + 6, none⟩) hb _
def fvE : Value := .func (.func 35) #[] #[]
/-- what the sorting leaves -/
def InsP (n blk : Nat) (f : Nat → Sta) (w : World) (e : Ending) (w' : World) : Prop := ∃ f', e = .returned (.tuple #[]) ∧ MovO n f f' ∧ SrO f' n ∧ SB w' blk n f' ∧ Below blk w w'

set_option maxHeartbeats 16000000 in
set_option maxRecDepth 100000 in
theorem ins_any (n c blk : Nat) (f : Nat → Sta) (w : World) (h : SB w blk n f) (hn : n ≤ 64) :
    Calls Tryz.prog 64 #[.slice (some ⟨blk, 0, none⟩) n c, .int .i64 0, .int .i64 (n : Nat), fvE] w (InsP n blk f w) := by
  unfold fvE
  go_enter Tryz.func64, Tryz.ntmps64
  go_wp2
  go_loopw [8] (fun v W => ∃ (i : Nat) (f1 : Nat → Sta), 0 < i ∧ (i ≤ n ∨ i = 1) ∧ v = .int .i64 i ∧ MovO n f f1 ∧ (i ≤ n → SrO f1 i) ∧ SB W blk n f1 ∧ Below blk w W) (fun v _ => n - (intOf v).toNat)
  case atStart => exact ⟨1, f, by omega, by omega, rfl, movO_refl n f, fun _ k hk => by omega, h, Below.refl _ _⟩
  case round =>
    obtain ⟨i, f1, hai, hi, rfl, hmv, hsr, hs, hbl⟩ := hrel
    clear h
    by_cases hlt : i < n
    · have hlt2 : (i : Int) < (n : Int) := by omega
      have hsr1 := hsr (by omega)
      clear hsr
      go_wp2
      go_loopw [9] (fun v W => ∃ (j : Nat) (f1 : Nat → Sta), j ≤ i ∧ v = .int .i64 j ∧ MovO n f f1 ∧ InO f1 i j ∧ SB W blk n f1 ∧ Below blk w W) (fun v _ => (intOf v).toNat)
      case atStart => exact ⟨i, f1, by omega, rfl, hmv, inO_start hsr1, hs, hbl⟩
      case round =>
        clear hmv hsr1 hs hbl f1
        obtain ⟨j, f1, hj, rfl, hmv, hin, hs2, hbl⟩ := hrel
        by_cases hja : 0 < j
        · obtain ⟨x, hx⟩ : ∃ x : Nat, j = x + 1 := ⟨j - 1, by omega⟩
          have hx2 : (j : Int) - 1 = (x : Int) := by omega
          have hxn : x < n := by omega
          have hjn : j < n := by omega
          have hxj : x < j := by omega
          have HX := Lib.hid hx
          clear hx
          have hbn : blk < wr.heap.size := hs2.1
          have t1 : decide ((0 : Int) < (j : Int)) = true := decide_eq_true (by omega)
          have t1n : decide (0 < j) = true := decide_eq_true (by omega)
          have cA := fun (d : Nat) (os : Array Obj) => Calls.regrown_of (d := d) (os := os) (w := wr) (earlier_any (f1 j) (f1 x) (grow (redrawn wr d) os))
          unfold Sta.v at cA
          obtain ⟨c0, c1, c2, c3, c4, c5, c6⟩ := hs2.2.2 j hjn
          obtain ⟨d0, d1, d2, d3, d4, d5, d6⟩ := hs2.2.2 x hxn
          have k0 := fun d os => cell_regrown c0 d os
          have l0 := fun d os => cell_regrown d0 d os
          have k1 := fun d os => cell_regrown c1 d os
          have l1 := fun d os => cell_regrown d1 d os
          have k2 := fun d os => cell_regrown c2 d os
          have l2 := fun d os => cell_regrown d2 d os
          have k3 := fun d os => cell_regrown c3 d os
          have l3 := fun d os => cell_regrown d3 d os
          have k4 := fun d os => cell_regrown c4 d os
          have l4 := fun d os => cell_regrown d4 d os
          have k5 := fun d os => cell_regrown c5 d os
          have l5 := fun d os => cell_regrown d5 d os
          have k6 := fun d os => cell_regrown c6 d os
          have l6 := fun d os => cell_regrown d6 d os
          have HC : Hid (cmpO (f1 j) (f1 x) = cmpO (f1 j) (f1 x)) := Lib.hid rfl
          generalize hcv : cmpO (f1 j) (f1 x) = cv at *
          have HCV := Lib.hid hcv
          have HF : Hid (∀ P : Prop, (((f1 j).id = (f1 j).id ∧ (f1 x).id = (f1 x).id ∧ (f1 j).pr = (f1 j).pr ∧ (f1 x).pr = (f1 x).pr ∧ (f1 j).am = (f1 j).am ∧ (f1 x).am = (f1 x).am ∧ (f1 j).rt = (f1 j).rt ∧ (f1 x).rt = (f1 x).rt ∧ (f1 j).tot = (f1 j).tot ∧ (f1 x).tot = (f1 x).tot ∧ (f1 j).tk = (f1 j).tk ∧ (f1 x).tk = (f1 x).tk ∧ (f1 j).ar = (f1 j).ar ∧ (f1 x).ar = (f1 x).ar) → P) → P) := Lib.hid (fun P hP => hP ⟨rfl, rfl, rfl, rfl, rfl, rfl, rfl, rfl, rfl, rfl, rfl, rfl, rfl, rfl⟩)
          have HS2 := Lib.hid hs2
          have HMV := Lib.hid hmv
          have HIN := Lib.hid hin
          clear hcv hs2 hmv hin HC
          generalize hga0 : (f1 j).id = a0 at *
          generalize hgb0 : (f1 x).id = b0 at *
          generalize hga1 : (f1 j).pr = a1 at *
          generalize hgb1 : (f1 x).pr = b1 at *
          generalize hga2 : (f1 j).am = a2 at *
          generalize hgb2 : (f1 x).am = b2 at *
          generalize hga3 : (f1 j).rt = a3 at *
          generalize hgb3 : (f1 x).rt = b3 at *
          generalize hga4 : (f1 j).tot = a4 at *
          generalize hgb4 : (f1 x).tot = b4 at *
          generalize hga5 : (f1 j).tk = a5 at *
          generalize hgb5 : (f1 x).tk = b5 at *
          generalize hga6 : (f1 j).ar = a6 at *
          generalize hgb6 : (f1 x).ar = b6 at *
          have HG := Lib.hid (And.intro (show f1 j = ⟨a0, a1, a2, a3, a4, a5, a6⟩ by rw [← hga0, ← hga1, ← hga2, ← hga3, ← hga4, ← hga5, ← hga6]) (show f1 x = ⟨b0, b1, b2, b3, b4, b5, b6⟩ by rw [← hgb0, ← hgb1, ← hgb2, ← hgb3, ← hgb4, ← hgb5, ← hgb6]))
          clear hga0 hgb0 hga1 hgb1 hga2 hgb2 hga3 hgb3 hga4 hgb4 hga5 hgb5 hga6 hgb6
          go_wp2_with (fail)
          refine wp_region_quiet_below mixedO (by kernel_rfl) ?_
          iterate 14 (go_big_quiet_step (fail))
          go_big_quiet_step (exact cA _ _)
          repeat (go_big_quiet_step (fail))
          refine wpQuiet_nil ?_
          intro _ hw'
          obtain ⟨⟨dq, osq⟩, hw''⟩ := hw'
          subst hw''
          have p0 := k0 dq osq
          have q0 := l0 dq osq
          have p1 := k1 dq osq
          have q1 := l1 dq osq
          have p2 := k2 dq osq
          have q2 := l2 dq osq
          have p3 := k3 dq osq
          have q3 := l3 dq osq
          have p4 := k4 dq osq
          have q4 := l4 dq osq
          have p5 := k5 dq osq
          have q5 := l5 dq osq
          have p6 := k6 dq osq
          have q6 := l6 dq osq
          have HS5 := Lib.hid (HS2.out.below (below_regrown wr dq osq))
          have hb5 := hbl.trans ((below_regrown wr dq osq).mono (Nat.le_of_lt hbn))
          generalize grow (redrawn wr dq) osq = W5 at *
          clear cA k0 l0 k1 l1 k2 l2 k3 l3 k4 l4 k5 l5 k6 l6 c0 c1 c2 c3 c4 c5 c6 d0 d1 d2 d3 d4 d5 d6
          by_cases hcv : cv < 0
          · have t2 : decide (cv < 0) = true := decide_eq_true hcv
            have HLT := Lib.hid (leO_of_lt (HCV.out.symm ▸ hcv))
            go_wp2
            clear hcv
            have U : SAt ((((((((W5.setCell ⟨blk, j * 7, none⟩ (.int .i64 b0)).setCell ⟨blk, j * 7 + 1, none⟩ (.int .i64 b1)).setCell ⟨blk, j * 7 + 2, none⟩ (.int .i64 b2)).setCell ⟨blk, j * 7 + 3, none⟩ (.int .i64 b3)).setCell ⟨blk, j * 7 + 4, none⟩ (.int .i64 b4)).setCell ⟨blk, j * 7 + 5, none⟩ (.int .i64 b5)).setCell ⟨blk, j * 7 + 6, none⟩ (.int .i64 b6))) blk (x * 7) (f1 x) := by
              have := st7_other (s := f1 x) (HS5.out.2.2 x hxn) (o := j * 7) (by omega)
              rw [show st7 W5 blk (j * 7) (f1 x) = (((((((W5.setCell ⟨blk, j * 7, none⟩ (.int .i64 b0)).setCell ⟨blk, j * 7 + 1, none⟩ (.int .i64 b1)).setCell ⟨blk, j * 7 + 2, none⟩ (.int .i64 b2)).setCell ⟨blk, j * 7 + 3, none⟩ (.int .i64 b3)).setCell ⟨blk, j * 7 + 4, none⟩ (.int .i64 b4)).setCell ⟨blk, j * 7 + 5, none⟩ (.int .i64 b5)).setCell ⟨blk, j * 7 + 6, none⟩ (.int .i64 b6)) from by rw [HG.out.2]; rfl] at this
              exact this
            rw [HG.out.2] at U
            have hu0 : ((((((((W5.setCell ⟨blk, j * 7, none⟩ (.int .i64 b0)).setCell ⟨blk, j * 7 + 1, none⟩ (.int .i64 b1)).setCell ⟨blk, j * 7 + 2, none⟩ (.int .i64 b2)).setCell ⟨blk, j * 7 + 3, none⟩ (.int .i64 b3)).setCell ⟨blk, j * 7 + 4, none⟩ (.int .i64 b4)).setCell ⟨blk, j * 7 + 5, none⟩ (.int .i64 b5)).setCell ⟨blk, j * 7 + 6, none⟩ (.int .i64 b6))).cell? ⟨blk, x * 7, none⟩ = some (.int .i64 b0) := U.1
            have gj0 : W5.frozen? ⟨blk, j * 7, none⟩ = false := HS5.out.2.1 _
            have gx0 : W5.frozen? ⟨blk, x * 7, none⟩ = false := HS5.out.2.1 _
            have hu1 : ((((((((W5.setCell ⟨blk, j * 7, none⟩ (.int .i64 b0)).setCell ⟨blk, j * 7 + 1, none⟩ (.int .i64 b1)).setCell ⟨blk, j * 7 + 2, none⟩ (.int .i64 b2)).setCell ⟨blk, j * 7 + 3, none⟩ (.int .i64 b3)).setCell ⟨blk, j * 7 + 4, none⟩ (.int .i64 b4)).setCell ⟨blk, j * 7 + 5, none⟩ (.int .i64 b5)).setCell ⟨blk, j * 7 + 6, none⟩ (.int .i64 b6))).cell? ⟨blk, x * 7 + 1, none⟩ = some (.int .i64 b1) := U.2.1
            have gj1 : W5.frozen? ⟨blk, j * 7 + 1, none⟩ = false := HS5.out.2.1 _
            have gx1 : W5.frozen? ⟨blk, x * 7 + 1, none⟩ = false := HS5.out.2.1 _
            have hu2 : ((((((((W5.setCell ⟨blk, j * 7, none⟩ (.int .i64 b0)).setCell ⟨blk, j * 7 + 1, none⟩ (.int .i64 b1)).setCell ⟨blk, j * 7 + 2, none⟩ (.int .i64 b2)).setCell ⟨blk, j * 7 + 3, none⟩ (.int .i64 b3)).setCell ⟨blk, j * 7 + 4, none⟩ (.int .i64 b4)).setCell ⟨blk, j * 7 + 5, none⟩ (.int .i64 b5)).setCell ⟨blk, j * 7 + 6, none⟩ (.int .i64 b6))).cell? ⟨blk, x * 7 + 2, none⟩ = some (.int .i64 b2) := U.2.2.1
            have gj2 : W5.frozen? ⟨blk, j * 7 + 2, none⟩ = false := HS5.out.2.1 _
            have gx2 : W5.frozen? ⟨blk, x * 7 + 2, none⟩ = false := HS5.out.2.1 _
            have hu3 : ((((((((W5.setCell ⟨blk, j * 7, none⟩ (.int .i64 b0)).setCell ⟨blk, j * 7 + 1, none⟩ (.int .i64 b1)).setCell ⟨blk, j * 7 + 2, none⟩ (.int .i64 b2)).setCell ⟨blk, j * 7 + 3, none⟩ (.int .i64 b3)).setCell ⟨blk, j * 7 + 4, none⟩ (.int .i64 b4)).setCell ⟨blk, j * 7 + 5, none⟩ (.int .i64 b5)).setCell ⟨blk, j * 7 + 6, none⟩ (.int .i64 b6))).cell? ⟨blk, x * 7 + 3, none⟩ = some (.int .i64 b3) := U.2.2.2.1
            have gj3 : W5.frozen? ⟨blk, j * 7 + 3, none⟩ = false := HS5.out.2.1 _
            have gx3 : W5.frozen? ⟨blk, x * 7 + 3, none⟩ = false := HS5.out.2.1 _
            have hu4 : ((((((((W5.setCell ⟨blk, j * 7, none⟩ (.int .i64 b0)).setCell ⟨blk, j * 7 + 1, none⟩ (.int .i64 b1)).setCell ⟨blk, j * 7 + 2, none⟩ (.int .i64 b2)).setCell ⟨blk, j * 7 + 3, none⟩ (.int .i64 b3)).setCell ⟨blk, j * 7 + 4, none⟩ (.int .i64 b4)).setCell ⟨blk, j * 7 + 5, none⟩ (.int .i64 b5)).setCell ⟨blk, j * 7 + 6, none⟩ (.int .i64 b6))).cell? ⟨blk, x * 7 + 4, none⟩ = some (.int .i64 b4) := U.2.2.2.2.1
            have gj4 : W5.frozen? ⟨blk, j * 7 + 4, none⟩ = false := HS5.out.2.1 _
            have gx4 : W5.frozen? ⟨blk, x * 7 + 4, none⟩ = false := HS5.out.2.1 _
            have hu5 : ((((((((W5.setCell ⟨blk, j * 7, none⟩ (.int .i64 b0)).setCell ⟨blk, j * 7 + 1, none⟩ (.int .i64 b1)).setCell ⟨blk, j * 7 + 2, none⟩ (.int .i64 b2)).setCell ⟨blk, j * 7 + 3, none⟩ (.int .i64 b3)).setCell ⟨blk, j * 7 + 4, none⟩ (.int .i64 b4)).setCell ⟨blk, j * 7 + 5, none⟩ (.int .i64 b5)).setCell ⟨blk, j * 7 + 6, none⟩ (.int .i64 b6))).cell? ⟨blk, x * 7 + 5, none⟩ = some (.int .i64 b5) := U.2.2.2.2.2.1
            have gj5 : W5.frozen? ⟨blk, j * 7 + 5, none⟩ = false := HS5.out.2.1 _
            have gx5 : W5.frozen? ⟨blk, x * 7 + 5, none⟩ = false := HS5.out.2.1 _
            have hu6 : ((((((((W5.setCell ⟨blk, j * 7, none⟩ (.int .i64 b0)).setCell ⟨blk, j * 7 + 1, none⟩ (.int .i64 b1)).setCell ⟨blk, j * 7 + 2, none⟩ (.int .i64 b2)).setCell ⟨blk, j * 7 + 3, none⟩ (.int .i64 b3)).setCell ⟨blk, j * 7 + 4, none⟩ (.int .i64 b4)).setCell ⟨blk, j * 7 + 5, none⟩ (.int .i64 b5)).setCell ⟨blk, j * 7 + 6, none⟩ (.int .i64 b6))).cell? ⟨blk, x * 7 + 6, none⟩ = some (.int .i64 b6) := U.2.2.2.2.2.2
            have gj6 : W5.frozen? ⟨blk, j * 7 + 6, none⟩ = false := HS5.out.2.1 _
            have gx6 : W5.frozen? ⟨blk, x * 7 + 6, none⟩ = false := HS5.out.2.1 _
            have R1 : SB (((((((((((((((W5.setCell ⟨blk, j * 7, none⟩ (.int .i64 b0)).setCell ⟨blk, j * 7 + 1, none⟩ (.int .i64 b1)).setCell ⟨blk, j * 7 + 2, none⟩ (.int .i64 b2)).setCell ⟨blk, j * 7 + 3, none⟩ (.int .i64 b3)).setCell ⟨blk, j * 7 + 4, none⟩ (.int .i64 b4)).setCell ⟨blk, j * 7 + 5, none⟩ (.int .i64 b5)).setCell ⟨blk, j * 7 + 6, none⟩ (.int .i64 b6)).setCell ⟨blk, x * 7, none⟩ (.int .i64 a0)).setCell ⟨blk, x * 7 + 1, none⟩ (.int .i64 a1)).setCell ⟨blk, x * 7 + 2, none⟩ (.int .i64 a2)).setCell ⟨blk, x * 7 + 3, none⟩ (.int .i64 a3)).setCell ⟨blk, x * 7 + 4, none⟩ (.int .i64 a4)).setCell ⟨blk, x * 7 + 5, none⟩ (.int .i64 a5)).setCell ⟨blk, x * 7 + 6, none⟩ (.int .i64 a6))) blk n (swO f1 j x) := by
              have := SB.swap HS5.out hjn hxn (show x ≠ j by omega)
              rw [show st7 (st7 W5 blk (j * 7) (f1 x)) blk (x * 7) (f1 j) = ((((((((((((((W5.setCell ⟨blk, j * 7, none⟩ (.int .i64 b0)).setCell ⟨blk, j * 7 + 1, none⟩ (.int .i64 b1)).setCell ⟨blk, j * 7 + 2, none⟩ (.int .i64 b2)).setCell ⟨blk, j * 7 + 3, none⟩ (.int .i64 b3)).setCell ⟨blk, j * 7 + 4, none⟩ (.int .i64 b4)).setCell ⟨blk, j * 7 + 5, none⟩ (.int .i64 b5)).setCell ⟨blk, j * 7 + 6, none⟩ (.int .i64 b6)).setCell ⟨blk, x * 7, none⟩ (.int .i64 a0)).setCell ⟨blk, x * 7 + 1, none⟩ (.int .i64 a1)).setCell ⟨blk, x * 7 + 2, none⟩ (.int .i64 a2)).setCell ⟨blk, x * 7 + 3, none⟩ (.int .i64 a3)).setCell ⟨blk, x * 7 + 4, none⟩ (.int .i64 a4)).setCell ⟨blk, x * 7 + 5, none⟩ (.int .i64 a5)).setCell ⟨blk, x * 7 + 6, none⟩ (.int .i64 a6)) from by rw [HG.out.1, HG.out.2]; rfl] at this
              exact this
            have B1 : Below blk w (((((((((((((((W5.setCell ⟨blk, j * 7, none⟩ (.int .i64 b0)).setCell ⟨blk, j * 7 + 1, none⟩ (.int .i64 b1)).setCell ⟨blk, j * 7 + 2, none⟩ (.int .i64 b2)).setCell ⟨blk, j * 7 + 3, none⟩ (.int .i64 b3)).setCell ⟨blk, j * 7 + 4, none⟩ (.int .i64 b4)).setCell ⟨blk, j * 7 + 5, none⟩ (.int .i64 b5)).setCell ⟨blk, j * 7 + 6, none⟩ (.int .i64 b6)).setCell ⟨blk, x * 7, none⟩ (.int .i64 a0)).setCell ⟨blk, x * 7 + 1, none⟩ (.int .i64 a1)).setCell ⟨blk, x * 7 + 2, none⟩ (.int .i64 a2)).setCell ⟨blk, x * 7 + 3, none⟩ (.int .i64 a3)).setCell ⟨blk, x * 7 + 4, none⟩ (.int .i64 a4)).setCell ⟨blk, x * 7 + 5, none⟩ (.int .i64 a5)).setCell ⟨blk, x * 7 + 6, none⟩ (.int .i64 a6))) := by
              have := st7_below (s := f1 j) (o := x * 7) (b := blk) (st7_below (s := f1 x) (o := j * 7) (b := blk) hb5 (Nat.le_refl _)) (Nat.le_refl _)
              rw [show st7 (st7 W5 blk (j * 7) (f1 x)) blk (x * 7) (f1 j) = ((((((((((((((W5.setCell ⟨blk, j * 7, none⟩ (.int .i64 b0)).setCell ⟨blk, j * 7 + 1, none⟩ (.int .i64 b1)).setCell ⟨blk, j * 7 + 2, none⟩ (.int .i64 b2)).setCell ⟨blk, j * 7 + 3, none⟩ (.int .i64 b3)).setCell ⟨blk, j * 7 + 4, none⟩ (.int .i64 b4)).setCell ⟨blk, j * 7 + 5, none⟩ (.int .i64 b5)).setCell ⟨blk, j * 7 + 6, none⟩ (.int .i64 b6)).setCell ⟨blk, x * 7, none⟩ (.int .i64 a0)).setCell ⟨blk, x * 7 + 1, none⟩ (.int .i64 a1)).setCell ⟨blk, x * 7 + 2, none⟩ (.int .i64 a2)).setCell ⟨blk, x * 7 + 3, none⟩ (.int .i64 a3)).setCell ⟨blk, x * 7 + 4, none⟩ (.int .i64 a4)).setCell ⟨blk, x * 7 + 5, none⟩ (.int .i64 a5)).setCell ⟨blk, x * 7 + 6, none⟩ (.int .i64 a6)) from by rw [HG.out.1, HG.out.2]; rfl] at this
              exact this
            have R2 := Lib.hid R1
            have B2 := Lib.hid B1
            clear U R1 B1
            go_region
            have HI2 : Hid (InO (swO f1 j x) i x) := Lib.hid (by have h1 := HIN.out; have h2 := HLT.out; rw [HX.out] at h1 h2 ⊢; exact inO_step h1 (by omega) h2)
            have HM2 := Lib.hid (movO_swap HMV.out hjn hxn)
            have R3 := Lib.hid (R2.out.drew)
            have B3 := Lib.hid (B2.out.drew)
            clear hu0 gj0 gx0 p0 q0 hu1 gj1 gx1 p1 q1 hu2 gj2 gx2 p2 q2 hu3 gj3 gx3 p3 q3 hu4 gj4 gx4 p4 q4 hu5 gj5 gx5 p5 q5 hu6 gj6 gx6 p6 q6
            refine heldO_go (fun X => SB X blk n (swO f1 j x) ∧ Below blk w X) ⟨R3.out, B3.out⟩ ?_
            rintro W9 ⟨RR, BB⟩
            clear R2 B2 R3 B3
            go_wp2
            go_roundw
            case rel => exact ⟨x, swO f1 j x, by omega, rfl, HM2.out, HI2.out, RR, BB⟩
            case measure => first | omega | (simp [intOf]; omega)
          · have t2 : decide (cv < 0) = false := decide_eq_false hcv
            have HLE := Lib.hid (leO_of_not (HCV.out.symm ▸ hcv))
            have hcv2 : 0 ≤ cv := by omega
            go_wp2
            refine ⟨⟨i + 1, f1, by omega, by omega, by go_num, HMV.out, fun _ => inO_end HIN.out (.inr (by rw [show j - 1 = x by have := HX.out; omega]; exact HLE.out)), HS5.out, hb5⟩, ?_⟩
            simp [intOf]; omega
        · have t1 : decide ((0 : Int) < (j : Int)) = false := decide_eq_false (by omega)
          have t1n : decide (0 < j) = false := decide_eq_false (by omega)
          have hj0 : j = 0 := by omega
          have HJ0 := Lib.hid hj0
          clear hj0
          go_wp2
          go_quiet (fail)
          go_wp2
          refine ⟨⟨i + 1, f1, by omega, by omega, by go_num, hmv, fun _ => inO_end hin (.inl HJ0.out), hs2.below (below_drewN (Below.refl _ _) _), below_drewN hbl _⟩, ?_⟩
          simp [intOf]; omega
    · have hlt2 : decide ((i : Int) < (n : Int)) = false := decide_eq_false (by omega)
      have hlt3 : ¬ (i : Int) < (n : Int) := by omega
      have hend : SrO f1 n := by
        rcases hi with hi | hi
        · obtain rfl : i = n := by omega
          exact hsr (by omega)
        · exact fun k hk => absurd hk (by omega)
      clear hsr
      go_wp2
      go_end0
      exact ⟨f1, rfl, hmv, hend, hs, hbl⟩
end Go.Proofs.YthknjpmhomjobaaGreatDoor
