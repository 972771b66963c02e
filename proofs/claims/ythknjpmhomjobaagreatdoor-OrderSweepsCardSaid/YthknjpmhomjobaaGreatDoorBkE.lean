/- What a book of orders answers to what they took. -/
import Derived.Test.YthknjpmhomjobaaGreatDoorBkD
import Derived.Test.YthknjpmhomjobaaGreatDoorOwnN
import Derived.Lib.QuietBelow
namespace Go.Proofs.YthknjpmhomjobaaGreatDoor
open Go.RowKit Go.Sort
set_option linter.unusedVariables false
set_option linter.unusedSimpArgs false

theorem plc_cases (f : Nat → Sta) (id : Int) (n : Nat) : plc f id n = -1 ∨ ∃ i, i < n ∧ plc f id n = (i : Int) ∧ (f i).id = id := by
  induction n with
  | zero => exact .inl rfl
  | succ n ih =>
    show (if plc f id n = -1 then (if (f n).id = id then (n : Int) else -1) else plc f id n) = -1 ∨ ∃ i, i < n + 1 ∧ (if plc f id n = -1 then (if (f n).id = id then (n : Int) else -1) else plc f id n) = (i : Int) ∧ (f i).id = id
    rcases ih with h | ⟨i, h1, h2, h3⟩
    · rw [if_pos h]
      by_cases he : (f n).id = id
      · rw [if_pos he]; exact .inr ⟨n, by omega, rfl, he⟩
      · rw [if_neg he]; exact .inl rfl
    · rw [if_neg (by omega)]; exact .inr ⟨i, by omega, h2, h3⟩
def upT (s : Sta) (x : Tkn) : Sta := ⟨s.id, s.pr, s.am, s.rt, s.tot, s.tk + x.t, x.c⟩
def upF (f : Nat → Sta) (i : Nat) (x : Tkn) (j : Nat) : Sta := if j = i then upT (f j) x else f j
/-- the orders when the first ones have been put to them -/
def twF (f : Nat → Sta) (n : Nat) (t : Nat → Tkn) : Nat → Nat → Sta
  | 0 => f
  | k + 1 => upF (twF f n t k) (plc f (t k).o n).toNat (t k)
/-- what is wrong with the k-th -/
def twE (f : Nat → Sta) (n : Nat) (t : Nat → Tkn) (k : Nat) : Int :=
  if plc f (t k).o n < 0 then 3
  else if (amtB (twF f n t k (plc f (t k).o n).toNat).tk && amtB (t k).t && amtB ((twF f n t k (plc f (t k).o n).toNat).tk + (t k).t)) = false then 10
  else if amtB (t k).c = false then 10 else 0
/-- the first error -/
def fsE (e : Nat → Int) : Nat → Int
  | 0 => 0
  | k + 1 => if fsE e k = 0 then e k else fsE e k
theorem fsE_stop {e : Nat → Int} {k m : Nat} (hk : k < m) (h0 : fsE e k = 0) (h : e k ≠ 0) : fsE e m = e k := by
  obtain ⟨d, rfl⟩ : ∃ d, m = k + 1 + d := ⟨m - k - 1, by omega⟩
  induction d with
  | zero => show (if fsE e k = 0 then e k else fsE e k) = e k; rw [if_pos h0]
  | succ d ih =>
    have := ih (by omega)
    show (if fsE e (k + 1 + d) = 0 then e (k + 1 + d) else fsE e (k + 1 + d)) = e k
    rw [this, if_neg h]
theorem SB.upd {W : World} {g n i : Nat} {f : Nat → Sta} (h : SB W g n f) (hi : i < n) (x : Tkn) : SB ((W.setCell ⟨g, i * 7 + 5, none⟩ (.int .i64 ((f i).tk + x.t))).setCell ⟨g, i * 7 + 6, none⟩ (.int .i64 x.c)) g n (upF f i x) := by
  obtain ⟨h1, h2, h3⟩ := h
  refine ⟨by simpa [World.setCell] using h1, fun k => by simp only [World.frozen?_setCell]; exact h2 k, fun j hj => ?_⟩
  have nd : ∀ (V : World) (p q : Nat) (v : Value), p ≠ q → (V.setCell ⟨g, p, none⟩ v).cell? ⟨g, q, none⟩ = V.cell? ⟨g, q, none⟩ := fun V p q v hpq => World.cell?_setCell_other _ _ _ _ (by intro e; simp only [Addr.mk.injEq] at e; omega)
  obtain ⟨c0, c1, c2, c3, c4, c5, c6⟩ := h3 j hj
  unfold upF
  by_cases e : j = i
  · subst e
    rw [if_pos rfl]
    refine ⟨?_, ?_, ?_, ?_, ?_, ?_, ?_⟩
    · rw [nd _ _ _ _ (by omega), nd _ _ _ _ (by omega)]; exact c0
    · rw [nd _ _ _ _ (by omega), nd _ _ _ _ (by omega)]; exact c1
    · rw [nd _ _ _ _ (by omega), nd _ _ _ _ (by omega)]; exact c2
    · rw [nd _ _ _ _ (by omega), nd _ _ _ _ (by omega)]; exact c3
    · rw [nd _ _ _ _ (by omega), nd _ _ _ _ (by omega)]; exact c4
    · rw [nd _ _ _ _ (by omega)]; exact World.cell?_setCell_same _ _ _ c5
    · exact World.cell?_setCell_same _ _ _ (by rw [nd _ _ _ _ (by omega)]; exact c6)
  · rw [if_neg e]
    refine ⟨?_, ?_, ?_, ?_, ?_, ?_, ?_⟩
    · rw [nd _ _ _ _ (by omega), nd _ _ _ _ (by omega)]; exact c0
    · rw [nd _ _ _ _ (by omega), nd _ _ _ _ (by omega)]; exact c1
    · rw [nd _ _ _ _ (by omega), nd _ _ _ _ (by omega)]; exact c2
    · rw [nd _ _ _ _ (by omega), nd _ _ _ _ (by omega)]; exact c3
    · rw [nd _ _ _ _ (by omega), nd _ _ _ _ (by omega)]; exact c4
    · rw [nd _ _ _ _ (by omega), nd _ _ _ _ (by omega)]; exact c5
    · rw [nd _ _ _ _ (by omega), nd _ _ _ _ (by omega)]; exact c6
/-- what Took leaves -/
def TwP (p n : Nat) (f : Nat → Sta) (t : Nat → Tkn) (m : Nat) (w : World) (e : Ending) (w' : World) : Prop :=
  e = .returned (.int .i64 (fsE (twE f n t) m)) ∧ RelP p w w' ∧ (fsE (twE f n t) m = 0 → Bk w' p n (twF f n t m)) ∧ (fsE (twE f n t) m ≠ 0 → Below w.heap.size w w')
set_option maxRecDepth 100000 in
set_option maxHeartbeats 4000000 in
theorem took_none (p m c : Nat) (f : Nat → Sta) (t : Nat → Tkn) (A : Option Addr) (w : World) (h : Bk w p 0 f) (hA : Tks w A m t) (hm : m = 0) :
    Calls Tryz.prog 18 #[.pointer (some ⟨p, 0, none⟩), .slice A m c] w (TwP p 0 f t m w) := by
  subst hm
  have cL := list_any p 0 f w h (by omega)
  have hpw := h.lt
  obtain ⟨A0, c0, K, _⟩ := h
  clear hA
  go_enter Tryz.func18, Tryz.ntmps18
  go_wp2_with (fail)
  with_reducible refine cL.mono ?_
  rintro e w1 ⟨v, rfl, hown, B1⟩
  obtain ⟨A1, c1, rfl, hA1, _⟩ := own_len hown
  replace K := K.below B1
  have k0 := K.cell (i := 0) rfl
  have f0 := K.fr 0
  have hn1 : A1 = none → c1 = 0 := by
    rcases hown.2 with ⟨hv, _⟩ | ⟨g', cap, cur, hv, _⟩
    · intro _; simp at hv; exact hv.2
    · intro e; subst e; simp at hv
  have hp1 : ∀ g o, A1 = some ⟨g, o, none⟩ → g ≠ p := fun g o e => by
    obtain ⟨g', e', h1, _⟩ := hA1 _ e
    simp only [Addr.mk.injEq] at e'
    omega
  have KZ := Lib.hid (K.set 0 (.slice A1 0 c1))
  have HN := Lib.hid (And.intro hn1 hp1)
  clear hown hA1 cL hn1 hp1 K
  go_wp2
  refine wp_loop_rounds 1 ?_
  rw [rounds_succ]
  go_wp2
  go_ret
  exact ⟨rfl, ⟨w1, B1, .inr ⟨_, rfl⟩⟩, fun _ => ⟨A1, c1, KZ.out, fun h0 => absurd h0 (Nat.lt_irrefl 0), HN.out.1, HN.out.2⟩, fun h0 => absurd rfl h0⟩
set_option maxRecDepth 100000 in
set_option maxHeartbeats 8000000 in
theorem took_any (p n m c : Nat) (f : Nat → Sta) (t : Nat → Tkn) (A : Option Addr) (w : World) (h : Bk w p n f) (hn : n ≤ 64) (hn0 : 0 < n) (hA : Tks w A m t) (hm : m ≤ 1000) :
    Calls Tryz.prog 18 #[.pointer (some ⟨p, 0, none⟩), .slice A m c] w (TwP p n f t m w) := by
  have cL := list_any p n f w h (by omega)
  have hpw := h.lt
  go_enter Tryz.func18, Tryz.ntmps18
  go_wp2_with (fail)
  with_reducible refine cL.mono ?_
  rintro e w1 ⟨v, rfl, hown, B1⟩
  obtain ⟨A1, c1, rfl, _, hg⟩ := own_len hown
  obtain ⟨g, rfl⟩ := hg hn0
  obtain ⟨S1, hg1⟩ := SB.of_own hown hn0
  clear cL hown hg
  go_wp2
  go_loopw [15] (fun k W => ∃ i : Nat, i ≤ m ∧ k = .int .i64 i ∧ fsE (twE f n t) i = 0 ∧ SB W g n (twF f n t i) ∧ Below w.heap.size w W) (fun k _ => m - (intOf k).toNat)
  case atStart => exact ⟨0, Nat.zero_le _, rfl, rfl, S1, B1⟩
  case round =>
    clear S1 B1
    obtain ⟨i, hi, rfl, hf0, hS, hB⟩ := hrel
    by_cases hlt : i < m
    · have hA2 := (hA.below hB) (by omega)
      obtain ⟨b, o, rfl, hc⟩ := hA2
      obtain ⟨c0, c1', c2, c3, c4, c5⟩ := hc i hlt
      have hil : (i : Int) < (m : Int) := by omega
      have HF0 := Lib.hid hf0
      have HST : Hid (∀ v, twE f n t i = v → v ≠ 0 → fsE (twE f n t) m = v) := Lib.hid (fun v hv h0 => by rw [← hv]; exact fsE_stop hlt hf0 (by rw [hv]; exact h0))
      have HGO : Hid (twE f n t i = 0 → fsE (twE f n t) (i + 1) = 0) := Lib.hid (fun h0 => by show (if fsE (twE f n t) i = 0 then twE f n t i else fsE (twE f n t) i) = 0; rw [if_pos hf0]; exact h0)
      have HE : Hid (twE f n t i = if plc f (t i).o n < 0 then 3 else if (amtB (twF f n t i (plc f (t i).o n).toNat).tk && amtB (t i).t && amtB ((twF f n t i (plc f (t i).o n).toNat).tk + (t i).t)) = false then 10 else if amtB (t i).c = false then 10 else 0) := Lib.hid rfl
      have HU : Hid (twF f n t (i + 1) = upF (twF f n t i) (plc f (t i).o n).toNat (t i)) := Lib.hid rfl
      have cP := fun W hb => place_any p n f (t i).o W hb (by omega) (plc f (t i).o n) rfl
      have hpl := plc_cases f (t i).o n
      have HX : Hid (t i = ⟨(t i).o, (t i).b, (t i).r, (t i).d, (t i).t, (t i).c⟩) := Lib.hid rfl
      clear hc hf0 hA
      generalize hpj : plc f (t i).o n = pj at *
      clear hpj
      generalize (t i).o = x0 at *
      generalize (t i).b = x1 at *
      generalize (t i).r = x2 at *
      generalize (t i).d = x3 at *
      generalize (t i).t = x4 at *
      generalize (t i).c = x5 at *
      have K := bx_new wr [.int .i64 x0, .int .i64 x1, .int .i64 x2, .int .i64 x3, .int .i64 x4, .int .i64 x5] 48
      have NB := below_new wr (.cells #[.int .i64 x0, .int .i64 x1, .int .i64 x2, .int .i64 x3, .int .i64 x4, .int .i64 x5] 48)
      have B2 := below_step hB NB hB.size
      have hS2 := hS.below NB
      have k0 := K.cell (i := 0) rfl
      have k1 := K.cell (i := 1) rfl
      have k2 := K.cell (i := 2) rfl
      have k3 := K.cell (i := 3) rfl
      have k4 := K.cell (i := 4) rfl
      have k5 := K.cell (i := 5) rfl
      have hbk := h.below B2
      have hgw := hS.1
      have HSZ := Lib.hid NB.size
      clear NB
      go_wp2_with (fail)
      with_reducible refine (cP _ hbk).mono ?_
      rintro e w4 ⟨rfl, NB⟩
      have B4 := below_step B2 NB B2.size
      have hS4 := Lib.hid (hS2.below NB)
      replace K := K.below NB
      clear cP hbk k0 k1 k2 k3 k4 k5 c0 c1' c2 c3 c4 c5 hS hS2 B2 NB
      rcases hpl with hpl | ⟨j, hj, hpl, _⟩
      · have HR := Lib.hid (HST.out 3 (by rw [HE.out, if_pos (by omega)]) (by omega))
        have hneg : pj < 0 := by omega
        clear K hpl
        go_wp2
        go_ret
        exact ⟨ret_i HR.out.symm, RelP.of B4, fun h0 => (by rw [HR.out] at h0; omega), fun _ => B4⟩
      · subst hpl
        have hjn : (j : Int) < (n : Int) := by omega
        have hj0 : ¬ (j : Int) < 0 := by omega
        have d5 : w4.cell? ⟨g, j * 7 + 5, none⟩ = some (.int .i64 (twF f n t i j).tk) := (hS4.out.2.2 j hj).2.2.2.2.2.1
        have d6 : w4.cell? ⟨g, j * 7 + 6, none⟩ = some (.int .i64 (twF f n t i j).ar) := (hS4.out.2.2 j hj).2.2.2.2.2.2
        have k4 := K.cell (i := 4) rfl
        have k5 := K.cell (i := 5) rfl
        have hkl := K.lt
        have HKL := Lib.hid K
        rw [show ((j : Int)).toNat = j by omega] at HE HU
        rw [if_neg hj0] at HE
        clear K
        generalize htk : (twF f n t i j).tk = tk at *
        have HTK := Lib.hid htk
        clear htk
        generalize (twF f n t i j).ar = ar at *
        generalize hbx : wr.heap.size = bx at *
        clear hbx
        have q4 := fun d os => cell_regrown k4 d os
        have r5 := fun d os => cell_regrown d5 d os
        cases hq : amtB tk && amtB x4 && amtB (tk + x4)
        · have cA := fun (d : Nat) (os : Array Obj) => Calls.regrown_of (d := d) (os := os) (w := w4) (add_bad tk x4 (grow (redrawn w4 d) os) hq)
          have HR := Lib.hid (HST.out 10 (by rw [HE.out, if_pos hq]) (by omega))
          clear hq
          go_wp2_with (fail)
          refine wp_region_quiet_below mixedO (by kernel_rfl) ?_
          iterate 7 (go_big_quiet_step (fail))
          go_big_quiet_step (exact cA _ _)
          repeat (go_big_quiet_step (fail))
          refine wpQuiet_nil ?_
          intro _ hw'
          obtain ⟨⟨dq, osq⟩, hw''⟩ := hw'
          subst hw''
          have B5 := below_step B4 (below_regrown w4 dq osq) B4.size
          generalize grow (redrawn w4 dq) osq = W5 at *
          clear cA q4 r5 k4 k5 d5 d6 HKL hS4
          go_wp2
          go_ret
          exact ⟨ret_i HR.out.symm, RelP.of B5, fun h0 => (by rw [HR.out] at h0; omega), fun _ => B5⟩
        · have hq1 := hq
          simp only [Bool.and_eq_true] at hq1
          have cA := fun (d : Nat) (os : Array Obj) => Calls.regrown_of (d := d) (os := os) (w := w4) (add_ok tk x4 (grow (redrawn w4 d) os) (by rw [hq1.1.1, hq1.1.2]; rfl) hq1.2)
          have HQ := Lib.hid hq
          have hb1 := amtB_yes hq1.1.1
          have hb2 := amtB_yes hq1.1.2
          have hb3 := amtB_yes hq1.2
          clear hq hq1
          go_wp2_with (fail)
          refine wp_region_quiet_below mixedO (by kernel_rfl) ?_
          iterate 7 (go_big_quiet_step (fail))
          go_big_quiet_step (exact cA _ _)
          repeat (go_big_quiet_step (fail))
          refine wpQuiet_nil ?_
          intro _ hw'
          obtain ⟨⟨dq, osq⟩, hw''⟩ := hw'
          subst hw''
          have NB5 := below_regrown w4 dq osq
          have B5 := below_step B4 NB5 B4.size
          have hS5 := Lib.hid (hS4.out.below NB5)
          have K5 := HKL.out.below NB5
          generalize grow (redrawn w4 dq) osq = W5 at *
          have k55 := K5.cell (i := 5) rfl
          clear cA q4 r5 k4 k5 d5 d6 HKL hS4 NB5
          have NB6 := below_new W5 (.cells #[.int .i64 x5] 2)
          have B6 := below_step B5 NB6 B5.size
          have hS6 := Lib.hid (hS5.out.below NB6)
          have K6 := K5.below NB6
          clear K5
          cases hr : amtB x5
          · have cR := right1 x5 W5 2 false hr
            have HR := Lib.hid (HST.out 10 (by rw [HE.out, if_neg (by rw [HQ.out]; simp), if_pos hr]) (by omega))
            clear hr
            go_wp2_with (fail)
            with_reducible refine cR.mono ?_
            rintro e w7 ⟨rfl, rfl⟩
            go_wp2
            go_ret
            exact ⟨ret_i HR.out.symm, RelP.of B6, fun h0 => (by rw [HR.out] at h0; omega), fun _ => B6⟩
          · have cR := right1 x5 W5 2 true hr
            have HN := Lib.hid (HGO.out (by rw [HE.out, if_neg (by rw [HQ.out]; simp), if_neg (by rw [hr]; simp)]))
            clear hr
            go_wp2_with (fail)
            with_reducible refine cR.mono ?_
            rintro e w7 ⟨rfl, rfl⟩
            clear k55 cR
            go_wp2_with (fail)
            generalize W5.alloc (.cells #[.int .i64 x5] 2) = W6 at *
            have k65 := K6.cell (i := 5) rfl
            have y5 : W6.cell? ⟨g, j * 7 + 5, none⟩ = some (.int .i64 (twF f n t i j).tk) := (hS6.out.2.2 j hj).2.2.2.2.2.1
            have y6 : W6.cell? ⟨g, j * 7 + 6, none⟩ = some (.int .i64 (twF f n t i j).ar) := (hS6.out.2.2 j hj).2.2.2.2.2.2
            have z5 : W6.frozen? ⟨g, j * 7 + 5, none⟩ = false := hS6.out.2.1 _
            have z6 : W6.frozen? ⟨g, j * 7 + 6, none⟩ = false := hS6.out.2.1 _
            have hu : (W6.setCell ⟨g, j * 7 + 5, none⟩ (.int .i64 (tk + x4))).cell? ⟨g, j * 7 + 6, none⟩ = some (.int .i64 (twF f n t i j).ar) := (World.cell?_setCell_other _ _ _ _ (by intro e2; simp only [Addr.mk.injEq] at e2; omega)).trans y6
            have R1 := Lib.hid (SB.upd hS6.out hj (t i)).drew
            rw [show (twF f n t i j).tk + (t i).t = tk + x4 by rw [HTK.out, HX.out], show (t i).c = x5 by rw [HX.out]] at R1
            have BB := Lib.hid ((B6.setCell (p := ⟨g, j * 7 + 5, none⟩) hg1 (.int .i64 (tk + x4))).setCell (p := ⟨g, j * 7 + 6, none⟩) hg1 (.int .i64 x5)).drew
            generalize (twF f n t i j).ar = ar at *
            rw [HTK.out] at y5
            clear K6
            go_region
            refine heldO_go (fun X => SB X g n (upF (twF f n t i) j (t i)) ∧ Below w.heap.size w X) ⟨R1.out, BB.out⟩ ?_
            rintro W9 ⟨RR, B9⟩
            clear R1 BB hu y5 y6 z5 z6 k65 hS6 hS5 B6 B5 B4 NB6
            go_wp2
            go_roundw
            case rel => exact ⟨i + 1, by omega, by go_num, HN.out, by rw [HU.out]; exact RR, B9⟩
            case measure => first | omega | (simp [intOf]; omega)
    · obtain rfl : i = m := by omega
      have hnl : ¬ (i : Int) < (i : Int) := by omega
      obtain ⟨A0, cc0, K, _⟩ := h.below hB
      have k0 := K.cell (i := 0) rfl
      have fr0 := K.fr 0
      have hgp : g ≠ p := by omega
      have KZ := Lib.hid (K.set 0 (.slice (some ⟨g, 0, none⟩) n c1))
      have OZ := Lib.hid (ors_set (v := .slice (some ⟨g, 0, none⟩) n c1) (p := p) hS hgp)
      have HF := Lib.hid hf0
      clear hA K hS hf0
      go_wp2
      go_ret
      exact ⟨ret_i HF.out.symm, ⟨wr, hB, .inr ⟨_, rfl⟩⟩, fun _ => ⟨some ⟨g, 0, none⟩, c1, KZ.out, OZ.out, fun e => (nomatch e), fun g' o' e => by simp only [Option.some.injEq, Addr.mk.injEq] at e; omega⟩, fun h0 => absurd HF.out h0⟩
end Go.Proofs.YthknjpmhomjobaaGreatDoor
