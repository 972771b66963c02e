/- The walk of the law ShareDelta. -/
import Derived.Test.YtifoapaoamhgcaaDoorShrE
import Derived.Test.YtifoapaoamhgcaaDoorOpenR
namespace Go.Proofs.YtifoapaoamhgcaaDoor
open Go.RowKit Go.Sort
set_option linter.unusedVariables false
set_option linter.unusedSimpArgs false

theorem lr_one (u v : Int) (r : Bool) (hr : (amtB u && amtB v) = r) (w : World) (n : Nat) (t : TypeId) (hn : w.heap.size = n) :
    Calls Tryd.prog 10 #[.slice (some ⟨n, 0, none⟩) 1 1] (w.alloc (.cells #[.int .i64 u, .int .i64 v] t)) fun e w' => e = .returned (.bool r) ∧ Below w.heap.size w w' := by
  have K := bx_at w [.int .i64 u, .int .i64 v] t hn
  have := lright_any (some ⟨n, 0, none⟩) 1 1 _ _ _ (shs_one K) (by omega)
  rw [show allS (fun _ => u) (fun _ => v) 1 = r by simp [allS, hr]] at this
  exact this.mono fun e w' hh => ⟨hh.1, below_step (below_new _ _) hh.2 (by simp)⟩
theorem lr_two (a b c d : Int) (r : Bool) (hr : ((amtB a && amtB b) && (amtB c && amtB d)) = r) (w : World) (n : Nat) (t : TypeId) (hn : w.heap.size = n) :
    Calls Tryd.prog 10 #[.slice (some ⟨n, 0, none⟩) 2 2] (w.alloc (.cells #[.int .i64 a, .int .i64 b, .int .i64 c, .int .i64 d] t)) fun e w' => e = .returned (.bool r) ∧ Below w.heap.size w w' := by
  have K := bx_at w [.int .i64 a, .int .i64 b, .int .i64 c, .int .i64 d] t hn
  have h : Shs (w.alloc (.cells #[.int .i64 a, .int .i64 b, .int .i64 c, .int .i64 d] t)) (some ⟨n, 0, none⟩) 2 (fun i => if i = 0 then a else c) (fun i => if i = 0 then b else d) := fun _ => ⟨n, 0, rfl, fun i hi => by
    rcases (show i = 0 ∨ i = 1 by omega) with rfl | rfl
    · exact ⟨K.cell rfl, K.cell rfl⟩
    · exact ⟨K.cell rfl, K.cell rfl⟩⟩
  have := lright_any (some ⟨n, 0, none⟩) 2 2 _ _ _ h (by omega)
  rw [show allS (fun i => if i = 0 then a else c) (fun i => if i = 0 then b else d) 2 = r by simp [allS, hr]] at this
  exact this.mono fun e w' hh => ⟨hh.1, below_step (below_new _ _) hh.2 (by simp)⟩
theorem le_two (a b c d : Int) : leB a b c d = (((amtB a && amtB b) && (amtB c && amtB d)) && (amtB (a - c) && amtB (b - d))) := by
  unfold leB
  cases amtB a <;> cases amtB b <;> cases amtB c <;> cases amtB d <;> cases amtB (a - c) <;> cases amtB (b - d) <;> rfl
theorem le_of {X Y U V : Nat → Int} {n i : Nat} (h : firstE (dlE X Y U V) n = 0) (hi : i < n) : leB (X i) (Y i) (U i) (V i) = true := by
  have := first_zero h i hi
  unfold dlE at this
  cases hq : leB (X i) (Y i) (U i) (V i)
  · rw [hq] at this; simp at this
  · rfl
set_option maxRecDepth 100000 in
set_option maxHeartbeats 8000000 in
theorem se_long (A : Option Addr) (n q : Nat) (X Y : Nat → Int) (A2 : Option Addr) (m q2 : Nat) (U V : Nat → Int) (w : World) (hT : Tab w) (h : Shs w A n X Y) (h2 : Shs w A2 m U V) (hn : 60 < n) :
    Calls Tryd.prog 3 #[.slice A n q, .slice A2 m q2] w fun e w' => e = .returned (.bool true) ∧ Below w.heap.size w w' := by
  have q0 : decide (60 < (n : Int)) = true := decide_eq_true (by omega)
  go_enter Tryd.func3, Tryd.ntmps3
  go_wp2_with (fail)
  with_reducible refine (posts_any _ hT).mono ?_
  rintro e w1 ⟨rfl, B1⟩
  go_wp2
  go_ret
  exact ⟨rfl, B1⟩
set_option maxRecDepth 100000 in
set_option maxHeartbeats 8000000 in
theorem se_long2 (A : Option Addr) (n q : Nat) (X Y : Nat → Int) (A2 : Option Addr) (m q2 : Nat) (U V : Nat → Int) (w : World) (hT : Tab w) (h : Shs w A n X Y) (h2 : Shs w A2 m U V) (hn : ¬ 60 < n) (hm : 60 < m) :
    Calls Tryd.prog 3 #[.slice A n q, .slice A2 m q2] w fun e w' => e = .returned (.bool true) ∧ Below w.heap.size w w' := by
  have q0 : decide (60 < (n : Int)) = false := decide_eq_false (by omega)
  have q00 : ¬ 60 < n := by omega
  have q1 : decide (60 < (m : Int)) = true := decide_eq_true (by omega)
  go_enter Tryd.func3, Tryd.ntmps3
  go_wp2_with (fail)
  with_reducible refine (posts_any _ hT).mono ?_
  rintro e w1 ⟨rfl, B1⟩
  go_wp2
  go_ret
  exact ⟨rfl, B1⟩
set_option maxRecDepth 100000 in
set_option maxHeartbeats 8000000 in
theorem se_len (A : Option Addr) (n q : Nat) (X Y : Nat → Int) (A2 : Option Addr) (m q2 : Nat) (U V : Nat → Int) (w : World) (hT : Tab w) (h : Shs w A n X Y) (h2 : Shs w A2 m U V) (hn : ¬ 60 < n) (hm : ¬ 60 < m) (hd : n ≠ m) :
    Calls Tryd.prog 3 #[.slice A n q, .slice A2 m q2] w fun e w' => e = .returned (.bool true) ∧ Below w.heap.size w w' := by
  have q0 : decide (60 < (n : Int)) = false := decide_eq_false (by omega)
  have q00 : ¬ 60 < n := by omega
  have q1 : decide (60 < (m : Int)) = false := decide_eq_false (by omega)
  have q11 : ¬ 60 < m := by omega
  have cD := fun w => delta_len A A2 n m q q2 w hd
  have cP := fun w => post_len A2 A m n q2 q w (fun e => hd e.symm)
  have q3 : ((n : Int) != (m : Int)) = true := by simp; omega
  go_enter Tryd.func3, Tryd.ntmps3
  go_wp2_with (fail)
  with_reducible refine (posts_any _ hT).mono ?_
  rintro e w1 ⟨rfl, B1⟩
  clear h h2
  go_wp2_with (fail)
  with_reducible refine (cD _).mono ?_
  rintro e w2 ⟨rfl, NB⟩
  have B2 := below_step B1 NB B1.size
  go_wp2_with (fail)
  with_reducible refine (cP _).mono ?_
  rintro e w3 ⟨rfl, NB2⟩
  have B3 := below_step B2 NB2 B2.size
  go_wp2
  go_ret
  exact ⟨rfl, B3⟩
set_option maxRecDepth 100000 in
set_option maxHeartbeats 8000000 in
theorem se_bad (A : Option Addr) (n q : Nat) (X Y : Nat → Int) (A2 : Option Addr) (q2 : Nat) (U V : Nat → Int) (w : World) (hT : Tab w) (h : Shs w A n X Y) (h2 : Shs w A2 n U V) (hn : ¬ 60 < n) (hE : firstE (dlE X Y U V) n ≠ 0) :
    Calls Tryd.prog 3 #[.slice A n q, .slice A2 n q2] w fun e w' => e = .returned (.bool true) ∧ Below w.heap.size w w' := by
  have q0 : decide (60 < (n : Int)) = false := decide_eq_false (by omega)
  have q00 : ¬ 60 < n := by omega
  have q3 : ((n : Int) != (n : Int)) = false := by simp
  have cD := fun w h h2 => delta_any A A2 n q q2 X Y U V w h h2 (by omega)
  go_enter Tryd.func3, Tryd.ntmps3
  go_wp2_with (fail)
  with_reducible refine (posts_any _ hT).mono ?_
  rintro e w1 ⟨rfl, B1⟩
  have h1 := h.below B1
  have h12 := h2.below B1
  have HE := Lib.hid hE
  clear hE hT
  go_wp2_with (fail)
  with_reducible refine (cD _ h1 h12).mono ?_
  rintro e w2 ⟨_, hbad, NB⟩
  obtain rfl := hbad HE.out
  have B2 := below_step B1 NB B1.size
  clear hbad cD h1 h12 NB B1
  have Bw := Below.refl w2.heap.size w2
  go_wp2
  go_loopw [60] (fun k W => ∃ i : Nat, i ≤ n ∧ k = .int .i64 i ∧ firstE (dlE X Y U V) i = 0 ∧ Below w2.heap.size w2 W) (fun k _ => n - (intOf k).toNat)
  case atStart => exact ⟨0, Nat.zero_le _, rfl, rfl, Bw⟩
  case round =>
    clear Bw
    obtain ⟨i, hi, rfl, hf, hB⟩ := hrel
    by_cases hlt : i < n
    · obtain ⟨b, o, rfl, hc⟩ := id (h (by omega))
      obtain ⟨b2, o2, rfl, hc2⟩ := id (h2 (by omega))
      have hB0 := below_step B2 hB B2.size
      obtain ⟨c0, c1⟩ := hc i hlt
      obtain ⟨d0, d1⟩ := hc2 i hlt
      replace c0 := cell_later hB0 c0
      replace c1 := cell_later hB0 c1
      replace d0 := cell_later hB0 d0
      replace d1 := cell_later hB0 d1
      have HDE : Hid (dlE X Y U V i = if leB (X i) (Y i) (U i) (V i) = true then 0 else 10) := Lib.hid rfl
      have hil : (i : Int) < (n : Int) := by omega
      have HF := Lib.hid hf
      have cL := fun r hr W nn t hn => lr_two (X i) (Y i) (U i) (V i) r hr W nn t hn
      have cM := fun r hr W nn t hn => lr_one (X i - U i) (Y i - V i) r hr W nn t hn
      have HLE := Lib.hid (le_two (X i) (Y i) (U i) (V i))
      clear hc hc2 hf h h2
      generalize X i = x at *
      generalize Y i = y at *
      generalize U i = u at *
      generalize V i = v at *
      have S1 : wr.drew.cell? ⟨b, o + i * 2, none⟩ = some (.int .i64 x) ∧ wr.drew.cell? ⟨b, o + i * 2 + 1, none⟩ = some (.int .i64 y) ∧ wr.drew.cell? ⟨b2, o2 + i * 2, none⟩ = some (.int .i64 u) ∧ wr.drew.cell? ⟨b2, o2 + i * 2 + 1, none⟩ = some (.int .i64 v) ∧ Below wr.heap.size wr wr.drew := ⟨c0, c1, d0, d1, (Below.refl _ _).drew⟩
      have mk : ∀ V : World, Below wr.heap.size wr V → (V.cell? ⟨b, o + i * 2, none⟩ = some (.int .i64 x) ∧ V.cell? ⟨b, o + i * 2 + 1, none⟩ = some (.int .i64 y) ∧ V.cell? ⟨b2, o2 + i * 2, none⟩ = some (.int .i64 u) ∧ V.cell? ⟨b2, o2 + i * 2 + 1, none⟩ = some (.int .i64 v) ∧ Below wr.heap.size wr V) := fun V hb => ⟨cell_later hb c0, cell_later hb c1, cell_later hb d0, cell_later hb d1, hb⟩
      go_wp2
      go_region_held3 (fun X => X.cell? ⟨b, o + i * 2, none⟩ = some (.int .i64 x) ∧ X.cell? ⟨b, o + i * 2 + 1, none⟩ = some (.int .i64 y) ∧ X.cell? ⟨b2, o2 + i * 2, none⟩ = some (.int .i64 u) ∧ X.cell? ⟨b2, o2 + i * 2 + 1, none⟩ = some (.int .i64 v) ∧ Below wr.heap.size wr X)
        ((first | exact S1 | assumption | exact mk _ ((below_new _ _).drew) | exact mk _ (((below_new _ _).alloc (by simp) _).drew)))
        (fail)
      all_goals
        first
          | refine held_go (fun X => Below wr.heap.size wr X ∧ Bx X wr.heap.size 29 [.int .i64 x, .int .i64 y] ∧ Bx X (wr.heap.size + 1) 29 [.int .i64 u, .int .i64 v]) ⟨((below_new _ _).alloc (by simp) _).drew, (bx_new wr [.int .i64 x, .int .i64 y] 29).alloc _, bx_at (wr.alloc (.cells #[.int .i64 x, .int .i64 y] 29)) [.int .i64 u, .int .i64 v] 29 (by simp)⟩ ?_
          | refine held_go (fun X => Below wr.heap.size wr X ∧ Bx X (wr.heap.size + 1) 29 [.int .i64 x, .int .i64 y] ∧ Bx X wr.heap.size 29 [.int .i64 u, .int .i64 v]) ⟨((below_new _ _).alloc (by simp) _).drew, bx_at (wr.alloc (.cells #[.int .i64 u, .int .i64 v] 29)) [.int .i64 x, .int .i64 y] 29 (by simp), (bx_new wr [.int .i64 u, .int .i64 v] 29).alloc _⟩ ?_
        rintro W9 ⟨H9, KX, KU⟩
        have B9 := below_step hB H9 hB.size
        have kx0 := KX.cell (i := 0) rfl
        have kx1 := KX.cell (i := 1) rfl
        have ku0 := KU.cell (i := 0) rfl
        have ku1 := KU.cell (i := 1) rfl
        clear S1 mk c0 c1 d0 d1
        go_wp2_with (fail)
        cases hq1 : (amtB x && amtB y) && (amtB u && amtB v)
        · with_reducible refine (cL false hq1 W9 _ _ rfl).mono ?_
          rintro e wb ⟨rfl, NB⟩
          have BE := below_step B2 (below_step B9 NB B9.size) B2.size
          clear NB hq1 B9
          go_wp2
          go_ret
          exact ⟨rfl, BE⟩
        · have hq1' := hq1
          simp only [Bool.and_eq_true] at hq1
          have x1 := amtB_yes hq1.1.1
          have x2 := amtB_yes hq1.1.2
          have x3 := amtB_yes hq1.2.1
          have x4 := amtB_yes hq1.2.2
          have hw0 : wrap64 (x - u) = x - u := IntWalk.wrap64_in _ (by omega)
          have hw1 : wrap64 (y - v) = y - v := IntWalk.wrap64_in _ (by omega)
          with_reducible refine (cL true hq1' W9 _ _ rfl).mono ?_
          rintro e wa ⟨rfl, NB⟩
          replace KX := KX.below NB
          replace KU := KU.below NB
          have Ba := below_step B9 NB B9.size
          clear kx0 kx1 ku0 ku1 cL NB
          have kx0 := KX.cell (i := 0) rfl
          have kx1 := KX.cell (i := 1) rfl
          have ku0 := KU.cell (i := 0) rfl
          have ku1 := KU.cell (i := 1) rfl
          go_wp2_with (fail)
          cases hq2 : amtB (x - u) && amtB (y - v)
          · with_reducible refine (cM false hq2 wa _ _ rfl).mono ?_
            rintro e wb ⟨rfl, NB⟩
            have BE := below_step B2 (below_step Ba NB Ba.size) B2.size
            clear NB hq1 hq1' hq2
            go_wp2
            go_ret
            exact ⟨rfl, BE⟩
          · with_reducible refine (cM true hq2 wa _ _ rfl).mono ?_
            rintro e wb ⟨rfl, NB⟩
            have HN := Lib.hid (first_succ HF.out (by rw [HDE.out, HLE.out, hq1', hq2]; rfl))
            replace KX := KX.below NB
            replace KU := KU.below NB
            have Bb := below_step Ba NB Ba.size
            clear kx0 kx1 ku0 ku1 cM NB hq1 hq1' hq2
            have kx0 := KX.cell (i := 0) rfl
            have kx1 := KX.cell (i := 1) rfl
            have ku0 := KU.cell (i := 0) rfl
            have ku1 := KU.cell (i := 1) rfl
            go_wp2
            go_quiet (fail)
            have Bc := below_drewN Bb nq
            go_wp2
            refine ⟨⟨i + 1, by omega, by go_num, HN.out, Bc⟩, ?_⟩
            simp [intOf]; omega
    · obtain rfl : i = n := by omega
      have hnl : ¬ (i : Int) < (i : Int) := by omega
      exact absurd hf HE.out
set_option maxRecDepth 100000 in
set_option maxHeartbeats 8000000 in
theorem se_ok (A : Option Addr) (n q : Nat) (X Y : Nat → Int) (A2 : Option Addr) (q2 : Nat) (U V : Nat → Int) (w : World) (hT : Tab w) (h : Shs w A n X Y) (h2 : Shs w A2 n U V) (hn : ¬ 60 < n) (hE : firstE (dlE X Y U V) n = 0) :
    Calls Tryd.prog 3 #[.slice A n q, .slice A2 n q2] w fun e w' => e = .returned (.bool true) ∧ Below w.heap.size w w' := by
  have q0 : decide (60 < (n : Int)) = false := decide_eq_false (by omega)
  have q00 : ¬ 60 < n := by omega
  have q3 : ((n : Int) != (n : Int)) = false := by simp
  have cD := fun w h h2 => delta_any A A2 n q q2 X Y U V w h h2 (by omega)
  go_enter Tryd.func3, Tryd.ntmps3
  go_wp2_with (fail)
  with_reducible refine (posts_any _ hT).mono ?_
  rintro e w1 ⟨rfl, B1⟩
  have h1 := h.below B1
  have h12 := h2.below B1
  have HE := Lib.hid hE
  clear hE hT
  go_wp2_with (fail)
  with_reducible refine (cD _ h1 h12).mono ?_
  rintro e w2 ⟨hok, _, NB⟩
  obtain ⟨v, rfl, HO⟩ := hok HE.out
  obtain ⟨Av, cv, rfl, _, hAv⟩ := own_len HO
  have hsv := shs_own HO
  have B2 := below_step B1 NB B1.size
  clear hok HO cD h1 h12 NB B1 hAv
  have Bw := Below.refl w2.heap.size w2
  go_wp2
  go_loopw [60] (fun k W => ∃ i : Nat, i ≤ n ∧ k = .int .i64 i ∧ firstE (dlE X Y U V) i = 0 ∧ Below w2.heap.size w2 W) (fun k _ => n - (intOf k).toNat)
  case atStart => exact ⟨0, Nat.zero_le _, rfl, rfl, Bw⟩
  case round =>
    clear Bw
    obtain ⟨i, hi, rfl, hf, hB⟩ := hrel
    by_cases hlt : i < n
    · obtain ⟨b, o, rfl, hc⟩ := id (h (by omega))
      obtain ⟨b2, o2, rfl, hc2⟩ := id (h2 (by omega))
      have hB0 := below_step B2 hB B2.size
      obtain ⟨c0, c1⟩ := hc i hlt
      obtain ⟨d0, d1⟩ := hc2 i hlt
      replace c0 := cell_later hB0 c0
      replace c1 := cell_later hB0 c1
      replace d0 := cell_later hB0 d0
      replace d1 := cell_later hB0 d1
      have HDE : Hid (dlE X Y U V i = if leB (X i) (Y i) (U i) (V i) = true then 0 else 10) := Lib.hid rfl
      have hil : (i : Int) < (n : Int) := by omega
      have HF := Lib.hid hf
      obtain ⟨bv, ov, hAvv, hcv⟩ := id (hsv (by omega))
      obtain ⟨v0, v1⟩ := hcv i hlt
      replace v0 : wr.cell? ⟨bv, ov + i * 2, none⟩ = some (.int .i64 (X i - U i)) := cell_later hB v0
      replace v1 : wr.cell? ⟨bv, ov + i * 2 + 1, none⟩ = some (.int .i64 (Y i - V i)) := cell_later hB v1
      subst hAvv
      clear hcv
      have HLB := Lib.hid (le_of HE.out hlt)
      have cL := fun r hr W nn t hn => lr_two (X i) (Y i) (U i) (V i) r hr W nn t hn
      have cM := fun r hr W nn t hn => lr_one (X i - U i) (Y i - V i) r hr W nn t hn
      have HLE := Lib.hid (le_two (X i) (Y i) (U i) (V i))
      clear hc hc2 hf h h2
      generalize X i = x at *
      generalize Y i = y at *
      generalize U i = u at *
      generalize V i = v at *
      have S1 : wr.drew.cell? ⟨b, o + i * 2, none⟩ = some (.int .i64 x) ∧ wr.drew.cell? ⟨b, o + i * 2 + 1, none⟩ = some (.int .i64 y) ∧ wr.drew.cell? ⟨b2, o2 + i * 2, none⟩ = some (.int .i64 u) ∧ wr.drew.cell? ⟨b2, o2 + i * 2 + 1, none⟩ = some (.int .i64 v) ∧ Below wr.heap.size wr wr.drew := ⟨c0, c1, d0, d1, (Below.refl _ _).drew⟩
      have mk : ∀ V : World, Below wr.heap.size wr V → (V.cell? ⟨b, o + i * 2, none⟩ = some (.int .i64 x) ∧ V.cell? ⟨b, o + i * 2 + 1, none⟩ = some (.int .i64 y) ∧ V.cell? ⟨b2, o2 + i * 2, none⟩ = some (.int .i64 u) ∧ V.cell? ⟨b2, o2 + i * 2 + 1, none⟩ = some (.int .i64 v) ∧ Below wr.heap.size wr V) := fun V hb => ⟨cell_later hb c0, cell_later hb c1, cell_later hb d0, cell_later hb d1, hb⟩
      go_wp2
      go_region_held3 (fun X => X.cell? ⟨b, o + i * 2, none⟩ = some (.int .i64 x) ∧ X.cell? ⟨b, o + i * 2 + 1, none⟩ = some (.int .i64 y) ∧ X.cell? ⟨b2, o2 + i * 2, none⟩ = some (.int .i64 u) ∧ X.cell? ⟨b2, o2 + i * 2 + 1, none⟩ = some (.int .i64 v) ∧ Below wr.heap.size wr X)
        ((first | exact S1 | assumption | exact mk _ ((below_new _ _).drew) | exact mk _ (((below_new _ _).alloc (by simp) _).drew)))
        (fail)
      all_goals
        first
          | refine held_go (fun X => Below wr.heap.size wr X ∧ Bx X wr.heap.size 29 [.int .i64 x, .int .i64 y] ∧ Bx X (wr.heap.size + 1) 29 [.int .i64 u, .int .i64 v]) ⟨((below_new _ _).alloc (by simp) _).drew, (bx_new wr [.int .i64 x, .int .i64 y] 29).alloc _, bx_at (wr.alloc (.cells #[.int .i64 x, .int .i64 y] 29)) [.int .i64 u, .int .i64 v] 29 (by simp)⟩ ?_
          | refine held_go (fun X => Below wr.heap.size wr X ∧ Bx X (wr.heap.size + 1) 29 [.int .i64 x, .int .i64 y] ∧ Bx X wr.heap.size 29 [.int .i64 u, .int .i64 v]) ⟨((below_new _ _).alloc (by simp) _).drew, bx_at (wr.alloc (.cells #[.int .i64 u, .int .i64 v] 29)) [.int .i64 x, .int .i64 y] 29 (by simp), (bx_new wr [.int .i64 u, .int .i64 v] 29).alloc _⟩ ?_
        rintro W9 ⟨H9, KX, KU⟩
        have B9 := below_step hB H9 hB.size
        have kx0 := KX.cell (i := 0) rfl
        have kx1 := KX.cell (i := 1) rfl
        have ku0 := KU.cell (i := 0) rfl
        have ku1 := KU.cell (i := 1) rfl
        clear S1 mk c0 c1 d0 d1
        replace v0 := cell_later H9 v0
        replace v1 := cell_later H9 v1
        go_wp2_with (fail)
        cases hq1 : (amtB x && amtB y) && (amtB u && amtB v)
        · exfalso
          have := HLB.out
          rw [HLE.out, hq1] at this
          cases this
        · have hq1' := hq1
          simp only [Bool.and_eq_true] at hq1
          have x1 := amtB_yes hq1.1.1
          have x2 := amtB_yes hq1.1.2
          have x3 := amtB_yes hq1.2.1
          have x4 := amtB_yes hq1.2.2
          have hw0 : wrap64 (x - u) = x - u := IntWalk.wrap64_in _ (by omega)
          have hw1 : wrap64 (y - v) = y - v := IntWalk.wrap64_in _ (by omega)
          with_reducible refine (cL true hq1' W9 _ _ rfl).mono ?_
          rintro e wa ⟨rfl, NB⟩
          replace KX := KX.below NB
          replace KU := KU.below NB
          have Ba := below_step B9 NB B9.size
          replace v0 := cell_later NB v0
          replace v1 := cell_later NB v1
          clear kx0 kx1 ku0 ku1 cL NB
          have kx0 := KX.cell (i := 0) rfl
          have kx1 := KX.cell (i := 1) rfl
          have ku0 := KU.cell (i := 0) rfl
          have ku1 := KU.cell (i := 1) rfl
          go_wp2_with (fail)
          cases hq2 : amtB (x - u) && amtB (y - v)
          · exfalso
            have := HLB.out
            rw [HLE.out, hq1', hq2] at this
            cases this
          · with_reducible refine (cM true hq2 wa _ _ rfl).mono ?_
            rintro e wb ⟨rfl, NB⟩
            have HN := Lib.hid (first_succ HF.out (by rw [HDE.out, HLE.out, hq1', hq2]; rfl))
            replace KX := KX.below NB
            replace KU := KU.below NB
            have Bb := below_step Ba NB Ba.size
            replace v0 := cell_later NB v0
            replace v1 := cell_later NB v1
            clear kx0 kx1 ku0 ku1 cM NB hq1 hq1' hq2
            have kx0 := KX.cell (i := 0) rfl
            have kx1 := KX.cell (i := 1) rfl
            have ku0 := KU.cell (i := 0) rfl
            have ku1 := KU.cell (i := 1) rfl
            go_wp2
            go_quiet (fail)
            have Bc := below_drewN Bb nq
            go_wp2
            refine ⟨⟨i + 1, by omega, by go_num, HN.out, Bc⟩, ?_⟩
            simp [intOf]; omega
    · obtain rfl : i = n := by omega
      have hnl : ¬ (i : Int) < (i : Int) := by omega
      have B3 := below_step B2 hB B2.size
      have hw1s := h.below B3
      have hw2s := h2.below B3
      have hw3s := hsv.below hB
      have hall := fun k hk => first_zero HE.out k hk
      have cP := post_ok A2 Av i q2 cv U V (fun j => X j - U j) (fun j => Y j - V j) wr hw2s hw3s (by omega) (fun j hj => by
        have := hall j hj
        unfold dlE at this
        cases hq : leB (X j) (Y j) (U j) (V j)
        · rw [hq] at this; simp at this
        · rw [le_two] at hq
          simp only [Bool.and_eq_true] at hq ⊢
          obtain ⟨⟨⟨a1, a2⟩, a3, a4⟩, a5, a6⟩ := hq
          exact ⟨⟨⟨a3, a4⟩, a5, a6⟩, by rw [show U j + (X j - U j) = X j by omega]; exact a1, by rw [show V j + (Y j - V j) = Y j by omega]; exact a2⟩)
      clear hf hw2s hw3s hall hsv
      go_wp2_with (fail)
      with_reducible refine cP.mono ?_
      rintro e wp ⟨bp, rfl, _, HP, NB⟩
      have HPS := HP.congr (X' := X) (Y' := Y) (fun j _ => by omega) (fun j _ => by omega)
      have B4 := below_step B3 NB B3.size
      have Bw := Below.refl wp.heap.size wp
      clear cP HP hw1s NB B3
      go_wp2
      go_loopw [148] (fun k W => ∃ j : Nat, j ≤ i ∧ k = .int .i64 j ∧ Below wp.heap.size wp W) (fun k _ => i - (intOf k).toNat)
      case atStart => exact ⟨0, Nat.zero_le _, rfl, Bw⟩
      case round =>
        clear Bw
        obtain ⟨j, hj, rfl, hW⟩ := hrel
        by_cases hjl : j < i
        · obtain ⟨b, o, rfl, hc⟩ := id (h (by omega))
          have hB0 := below_step B4 hW B4.size
          obtain ⟨c0, c1⟩ := hc j hjl
          replace c0 := cell_later hB0 c0
          replace c1 := cell_later hB0 c1
          obtain ⟨p0, p1, _, _⟩ := HPS.cells hjl
          replace p0 := cell_later hW p0
          replace p1 := cell_later hW p1
          have hil : (j : Int) < (i : Int) := by omega
          clear hc h h2 HPS
          generalize X j = x at *
          generalize Y j = y at *
          go_wp2
          go_quiet (fail)
          have Bc := below_drewN hW nq
          go_wp2
          refine ⟨⟨j + 1, by omega, by go_num, Bc⟩, ?_⟩
          simp [intOf]; omega
        · obtain rfl : j = i := by omega
          have hnl : ¬ (j : Int) < (j : Int) := by omega
          have B5 := below_step B4 hW B4.size
          clear h h2 HPS
          go_wp2
          go_ret
          exact ⟨rfl, B5⟩
theorem wShareDelta (A : Option Addr) (n q : Nat) (X Y : Nat → Int) (A2 : Option Addr) (m q2 : Nat) (U V : Nat → Int) (w : World) (hT : Tab w) (h : Shs w A n X Y) (hn : n ≤ 9223372036854775807) (hf : ∀ i, i < n → fitI (X i) ∧ fitI (Y i)) (h2 : Shs w A2 m U V) (hm : m ≤ 9223372036854775807) (hf2 : ∀ i, i < m → fitI (U i) ∧ fitI (V i)) :
    Calls Tryd.prog 3 #[.slice A n q, .slice A2 m q2] w fun e w' => e = .returned (.bool true) ∧ Below w.heap.size w w' := by
  by_cases hn : 60 < n
  · exact se_long A n q X Y A2 m q2 U V w hT h h2 hn
  · by_cases hm : 60 < m
    · exact se_long2 A n q X Y A2 m q2 U V w hT h h2 hn hm
    · by_cases hd : n = m
      · subst hd
        by_cases hE : firstE (dlE X Y U V) n = 0
        · exact se_ok A n q X Y A2 q2 U V w hT h h2 hn hE
        · exact se_bad A n q X Y A2 q2 U V w hT h h2 hn hE
      · exact se_len A n q X Y A2 m q2 U V w hT h h2 hn hm hd
end Go.Proofs.YtifoapaoamhgcaaDoor
