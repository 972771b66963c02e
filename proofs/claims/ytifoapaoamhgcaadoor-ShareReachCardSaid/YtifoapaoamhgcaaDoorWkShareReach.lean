/- The walk of the law ShareReach. -/
import Derived.Test.YtifoapaoamhgcaaDoorShrE
import Derived.Test.YtifoapaoamhgcaaDoorOpenR
namespace Go.Proofs.YtifoapaoamhgcaaDoor
open Go.RowKit Go.Sort
set_option linter.unusedVariables false
set_option linter.unusedSimpArgs false

/-- a row that doesn't lie in a block -/
def LaM (W : World) (A : Option Addr) (n p : Nat) (X Y : Nat → Int) : Prop := 0 < n → ∃ b o, A = some ⟨b, o, none⟩ ∧ b ≠ p ∧ ∀ i, i < n → W.cell? ⟨b, o + i * 2, none⟩ = some (.int .i64 (X i)) ∧ W.cell? ⟨b, o + i * 2 + 1, none⟩ = some (.int .i64 (Y i))
theorem LaM.shs {W : World} {A : Option Addr} {n p : Nat} {X Y : Nat → Int} (h : LaM W A n p X Y) : Shs W A n X Y := fun hn => by
  obtain ⟨b, o, e, _, hc⟩ := h hn
  exact ⟨b, o, e, hc⟩
theorem LaM.keep {W W' : World} {A : Option Addr} {n p : Nat} {X Y : Nat → Int} (h : LaM W A n p X Y) (hq : ∀ q, q < W.heap.size → q ≠ p → W'.heap[q]? = W.heap[q]?) : LaM W' A n p X Y := fun hn => by
  obtain ⟨b, o, e, hne, hc⟩ := h hn
  refine ⟨b, o, e, hne, fun i hi => ?_⟩
  have hb : b < W.heap.size := World.block_lt_of_cell? _ _ (hc i hi).1
  exact ⟨(World.cell?_of_block (a := ⟨b, o + i * 2, none⟩) (hq b hb hne)).trans (hc i hi).1, (World.cell?_of_block (a := ⟨b, o + i * 2 + 1, none⟩) (hq b hb hne)).trans (hc i hi).2⟩
theorem LaM.below {W W' : World} {A : Option Addr} {n p : Nat} {X Y : Nat → Int} (h : LaM W A n p X Y) (hb : Below W.heap.size W W') : LaM W' A n p X Y := h.keep fun q hq _ => hb.block q hq
theorem LaM.of {W : World} {A : Option Addr} {n p N : Nat} {X Y : Nat → Int} (h : Shs W A n X Y) (hN : 0 < n → ∃ b o, A = some ⟨b, o, none⟩ ∧ b ≠ p) : LaM W A n p X Y := fun hn => by
  obtain ⟨b, o, e, hc⟩ := h hn
  obtain ⟨b', o', e', hne⟩ := hN hn
  rw [e] at e'
  simp only [Option.some.injEq, Addr.mk.injEq, and_true] at e'
  obtain ⟨rfl, rfl⟩ := e'
  exact ⟨b, o, e, hne, hc⟩
theorem YrO.far {W : World} {B p n q : Nat} {X Y : Nat → Int} {k : Int} (h : YrO W B p n X Y k) (hq : ∀ b, b < q → True) (hp : p ≠ q) (hb : ∀ b, W.cell? ⟨p, 0, none⟩ = some (.slice (some ⟨b, 0, none⟩) n n) → b ≠ q) (j : Nat) (x : Value) : YrO (W.setCell ⟨q, j, none⟩ x) B p n X Y k := by
  obtain ⟨b, K, S, h1, h2, h3⟩ := h
  have hbq := hb b (K.cell rfl)
  exact ⟨b, K.other (fun e => hp e.symm) j x, World.rowIs.setOther S (a := ⟨q, j, none⟩) hbq x, h1, h2, h3⟩
theorem ShB.one {W : World} {b n : Nat} {X Y : Nat → Int} (h : ShB W b n X Y) {i : Nat} (hi : i < n) (u : Int) {X' : Nat → Int} (hX : ∀ j, j < n → X' j = if j = i then u else X j) : ShB (W.setCell ⟨b, i * 2, none⟩ (.int .i64 u)) b n X' Y := by
  have h1 := World.rowIs.set h (i * 2) (.int .i64 u)
  refine World.rowIs.congr h1 fun q hq => ?_
  by_cases e2 : q = i * 2
  · subst e2
    rw [if_pos rfl, if_pos (by omega), hX _ (by omega), if_pos (by omega)]
  · rw [if_neg e2]
    by_cases e : q % 2 = 0
    · have hne : q / 2 ≠ i := by omega
      rw [if_pos e, if_pos e, hX _ (by omega), if_neg hne]
    · rw [if_neg e, if_neg e]
/-- what the law's loop holds -/
def ReI (w1 : World) (p n : Nat) (La : Option Addr) (P Q : Nat → Int) (c : Int) (W : World) : Prop := LaM W La n p P Q ∧ YrO W w1.heap.size p n P Q c ∧ w1.heap.size ≤ W.heap.size ∧ Below w1.heap.size w1 W
theorem ReI.below {w1 W W' : World} {p n : Nat} {La : Option Addr} {P Q : Nat → Int} {c : Int} (h : ReI w1 p n La P Q c W) (hb : Below W.heap.size W W') : ReI w1 p n La P Q c W' :=
  ⟨h.1.below hb, h.2.1.below hb, Nat.le_trans h.2.2.1 hb.size, below_step h.2.2.2 hb h.2.2.1⟩
/-- a store into a block that is newer than all of it -/
theorem ReI.store {w1 W W0 : World} {p n : Nat} {La : Option Addr} {P Q : Nat → Int} {c : Int} (h : ReI w1 p n La P Q c W) (h0 : ReI w1 p n La P Q c W0) (hq : Nat) (hlt : W0.heap.size ≤ hq) (hb : Below W0.heap.size W0 W) (j : Nat) (x : Value) : ReI w1 p n La P Q c (W.setCell ⟨hq, j, none⟩ x) := by
  have hbb := hb.setCell (p := ⟨hq, j, none⟩) hlt x
  have := h0.below hbb
  exact this
set_option maxRecDepth 100000 in
set_option maxHeartbeats 8000000 in
theorem sr_long (n : Int) (A : Option Addr) (m q : Nat) (R : Nat → RB) (w : World) (hT : Tab w) (hr : 0 < m → ∃ b o, A = some ⟨b, o, none⟩ ∧ ∀ i, i < m → w.cell? ⟨b, o + i, none⟩ = some (.slice (R i).A (R i).n (R i).c) ∧ RbF w (R i)) (hm : 40 < m) :
    Calls Tryd.prog 4 #[.int .i64 n, .slice A m q] w fun e w' => e = .returned (.bool true) ∧ Below w.heap.size w w' := by
  have q0 : decide (40 < (m : Int)) = true := decide_eq_true (by omega)
  go_enter Tryd.func4, Tryd.ntmps4
  go_wp2_with (fail)
  with_reducible refine (posts_any _ hT).mono ?_
  rintro e w1 ⟨rfl, B1⟩
  go_wp2
  go_ret
  exact ⟨rfl, B1⟩
set_option maxRecDepth 100000 in
set_option maxHeartbeats 8000000 in
theorem sr_range (n : Int) (A : Option Addr) (m q : Nat) (R : Nat → RB) (w : World) (hT : Tab w) (hr : 0 < m → ∃ b o, A = some ⟨b, o, none⟩ ∧ ∀ i, i < m → w.cell? ⟨b, o + i, none⟩ = some (.slice (R i).A (R i).n (R i).c) ∧ RbF w (R i)) (hm : ¬ 40 < m) (hn : n < 0 ∨ 64 < n) :
    Calls Tryd.prog 4 #[.int .i64 n, .slice A m q] w fun e w' => e = .returned (.bool true) ∧ Below w.heap.size w w' := by
  have q0 : decide (40 < (m : Int)) = false := decide_eq_false (by omega)
  have q00 : ¬ 40 < m := by omega
  have cN := fun w => new_range n w hn
  have key : decide (n < 0) = true ∨ (decide (n < 0) = false ∧ decide (64 < n) = true) := by
    simp only [decide_eq_true_eq, decide_eq_false_iff_not]; omega
  clear hn hr
  go_enter Tryd.func4, Tryd.ntmps4
  go_wp2_with (fail)
  with_reducible refine (posts_any _ hT).mono ?_
  rintro e w1 ⟨rfl, B1⟩
  go_wp2_with (fail)
  with_reducible refine (cN _).mono ?_
  rintro e w2 ⟨rfl, NB⟩
  have B2 := below_step B1 NB B1.size
  rcases key with k1 | ⟨k1, k2⟩
  all_goals
    go_wp2
    go_ret
    exact ⟨rfl, B2⟩
set_option maxRecDepth 100000 in
set_option maxHeartbeats 8000000 in
theorem sr_ok (n : Nat) (A : Option Addr) (m q : Nat) (R : Nat → RB) (w : World) (hT : Tab w) (hr : 0 < m → ∃ b o, A = some ⟨b, o, none⟩ ∧ ∀ i, i < m → w.cell? ⟨b, o + i, none⟩ = some (.slice (R i).A (R i).n (R i).c) ∧ RbF w (R i)) (hm : ¬ 40 < m) (hn64 : n ≤ 64) :
    Calls Tryd.prog 4 #[.int .i64 (n : Int), .slice A m q] w fun e w' => e = .returned (.bool true) ∧ Below w.heap.size w w' := by
  have q0 : decide (40 < (m : Int)) = false := decide_eq_false (by omega)
  have q00 : ¬ 40 < m := by omega
  have q1 : decide ((n : Int) < 0) = false := decide_eq_false (by omega)
  have q2 : decide (64 < (n : Int)) = false := decide_eq_false (by omega)
  have q22 : ¬ 64 < n := by omega
  obtain ⟨cs, hmk, hsb⟩ := make_sh n (by omega)
  go_enter Tryd.func4, Tryd.ntmps4
  go_wp2_with (fail)
  with_reducible refine (posts_any _ hT).mono ?_
  rintro e w1 ⟨rfl, B1⟩
  go_wp2_with (fail)
  with_reducible refine (new_ok n w1 hn64).mono ?_
  rintro e w2 ⟨p, rfl, HY, NB⟩
  have hpl : p < w2.heap.size := by obtain ⟨b, K, _⟩ := HY; exact K.lt
  have hpB : w1.heap.size ≤ p := by obtain ⟨b, _, _, _, h, _⟩ := HY; exact h
  have SB := hsb w2
  have NB2 := below_new w2 (.cells cs 29)
  have hI : ReI w1 p n (some ⟨w2.heap.size, 0, none⟩) (fun _ => 0) (fun _ => 0) 0 (w2.alloc (.cells cs 29)) := ⟨LaM.of (N := 0) SB.shs (fun _ => ⟨_, _, rfl, by omega⟩), HY.below NB2, Nat.le_trans NB.size NB2.size, below_step NB NB2 NB.size⟩
  clear HY SB NB2 hsb NB
  go_wp2
  go_loopw [7, 8, 50] (fun l c k W => ∃ (k' c' : Nat) (La : Option Addr) (cl : Nat) (P Q : Nat → Int), k' ≤ m ∧ c' ≤ k' ∧ k = .int .i64 k' ∧ c = .int .i64 c' ∧ l = .slice La n cl ∧ ReI w1 p n La P Q c' W) (fun _ _ k _ => m - (intOf k).toNat)
  case atStart => exact ⟨0, 0, _, _, _, _, Nat.zero_le _, Nat.le_refl _, rfl, rfl, rfl, hI⟩
  case round =>
    clear hI hpl hmk
    obtain ⟨k, c, La, cl, P, Q, hk, hck, rfl, rfl, rfl, HI⟩ := hrel
    by_cases hlt : k < m
    · obtain ⟨b, o, rfl, hc⟩ := id (hr (by omega))
      obtain ⟨r0, hs, _, _, _⟩ := hc k hlt
      have BW := below_step B1 HI.2.2.2 B1.size
      replace r0 := cell_later BW r0
      have hs0 := hs
      replace hs := hs.below BW
      have hkm : (k : Int) < (m : Int) := by omega
      have hfar : 0 < (R k).n → ∃ b o, (R k).A = some ⟨b, o, none⟩ ∧ b ≠ p := fun h0 => by
        obtain ⟨b', o', e, hcc⟩ := hs0 h0
        have : b' < w.heap.size := World.block_lt_of_cell? _ _ (hcc 0 h0).1
        have := B1.size
        exact ⟨b', o', e, by omega⟩
      clear hc hs0
      generalize R k = r at *
      obtain ⟨rA, rn, rc, U, V⟩ := r
      dsimp only at *
      by_cases h80 : 80 < rn
      · have k80 : decide (80 < (rn : Int)) = true := decide_eq_true (by omega)
        clear hr hs hfar
        go_wp2
        go_ret
        exact ⟨rfl, BW⟩
      · have k80 : decide (80 < (rn : Int)) = false := decide_eq_false (by omega)
        have k81 : ¬ 80 < rn := by omega
        by_cases hd : rn = n
        · obtain rfl : n = rn := hd.symm
          by_cases hE : firstE (dlE U V P Q) n = 0
          · have cD := fun w h1 h2 => delta_any rA La n rc cl U V P Q w h1 h2 (by omega)
            have HE := Lib.hid hE
            clear hr hE
            have hs1 := HI.1.shs
            go_wp2_with (fail)
            with_reducible refine (cD _ hs hs1).mono ?_
            rintro e wa ⟨hok, _, NB⟩
            obtain ⟨v, rfl, HO⟩ := hok HE.out
            obtain ⟨Aw, cw, rfl, hw1, hw2⟩ := own_len HO
            have hwant := shs_own HO
            have hplt : p < wr.heap.size := by obtain ⟨b, K, _⟩ := HI.2.1; exact K.lt
            have hwfar : 0 < n → ∃ b o, Aw = some ⟨b, o, none⟩ ∧ b ≠ p := fun h0 => by
              obtain ⟨g, e⟩ := hw2 h0
              have := (HO.lt g (by rw [e]; rfl)).1
              exact ⟨g, 0, e, by omega⟩
            have LW := LaM.of (N := 0) (p := p) hwant hwfar
            replace HI := HI.below NB
            replace hs := hs.below NB
            have LD := LaM.of (N := 0) (p := p) hs hfar
            have hYc := HI.2.1
            have hBc := HI.2.2.1
            clear NB r0 hok HO hw1 hw2 hwant hwfar hs1 cD hfar hplt
            go_wp2_with (fail)
            with_reducible refine (reach_ok rA rc hYc hs hn64 hBc HE.out (by omega) (by omega)).mono ?_
            rintro e wb ⟨v2, rfl, HO2, HY2, hq, hsz, hfr⟩
            obtain ⟨Ag, cg, rfl, _, _⟩ := own_len HO2
            have hgot := shs_own HO2
            replace LW := LW.keep hq
            replace LD := LD.keep hq
            have HJ : ReI w1 p n rA U V ((c : Int) + 1) wb := ⟨LD, HY2, Nat.le_trans hBc hsz, hfr w1 HI.2.2.2⟩
            have hwc : wrap64 ((c : Int) + 1) = (c : Int) + 1 := IntWalk.wrap64_in _ (by omega)
            have Bz := Below.refl wb.heap.size wb
            clear HI hs hYc hBc HO2 HY2 hq hsz hfr LD
            go_wp2
            go_loopw [81] (fun k W => ∃ j : Nat, j ≤ n ∧ k = .int .i64 j ∧ Below wb.heap.size wb W) (fun k _ => n - (intOf k).toNat)
            case atStart => exact ⟨0, Nat.zero_le _, rfl, Bz⟩
            case round =>
              clear Bz
              obtain ⟨j, hj, rfl, hW⟩ := hrel
              by_cases hjl : j < n
              · obtain ⟨bg, og, hAg, hcg⟩ := hgot (by omega)
                obtain ⟨bw, ow, hAw, _, hcw⟩ := LW (by omega)
                obtain ⟨x0, x1⟩ := hcg j hjl
                obtain ⟨y0, y1⟩ := hcw j hjl
                replace x0 : wr.cell? ⟨bg, og + j * 2, none⟩ = some (.int .i64 (U j - P j)) := cell_later hW x0
                replace x1 : wr.cell? ⟨bg, og + j * 2 + 1, none⟩ = some (.int .i64 (V j - Q j)) := cell_later hW x1
                replace y0 : wr.cell? ⟨bw, ow + j * 2, none⟩ = some (.int .i64 (U j - P j)) := cell_later hW y0
                replace y1 : wr.cell? ⟨bw, ow + j * 2 + 1, none⟩ = some (.int .i64 (V j - Q j)) := cell_later hW y1
                have hjn : (j : Int) < (n : Int) := by omega
                clear hgot LW hcg hcw HJ
                subst hAg
                subst hAw
                generalize U j - P j = d0 at *
                generalize V j - Q j = d1 at *
                go_wp2
                go_quiet (fail)
                have Bc := below_drewN hW nq
                go_wp2
                refine ⟨⟨j + 1, by omega, by go_num, Bc⟩, ?_⟩
                simp [intOf]; omega
              · obtain rfl : n = j := by omega
                have hnl : ¬ (n : Int) < (n : Int) := by omega
                have HH := HJ.below hW
                clear hgot LW HJ hW
                obtain ⟨wx, hwx⟩ : ∃ wx, wx = wr := ⟨_, rfl⟩
                subst hwx
                have hY := HH.2.1
                go_wp2_with (fail)
                with_reducible refine (posted_ok hY hn64).mono ?_
                rintro e wp ⟨bp, rfl, hbp, HP, NB⟩
                have HI := HH.below NB
                have hY2 := HI.2.1
                clear hY
                go_wp2_with (fail)
                with_reducible refine (posts_is hY2).mono ?_
                rintro e w' ⟨rfl, rfl⟩
                have HPS : ShB wp bp n (fun i => if i < 0 then 77 else U i) V := HP.congr (fun i _ => by simp) (fun i _ => rfl)
                have Bz := NB
                clear HP hY2
                go_wp2
                go_loopw [113] (fun k W => ∃ j : Nat, j ≤ n ∧ k = .int .i64 j ∧ ShB W bp n (fun i => if i < j then 77 else U i) V ∧ Below wx.heap.size wx W) (fun k _ => n - (intOf k).toNat)
                case atStart => exact ⟨0, Nat.zero_le _, rfl, HPS, Bz⟩
                case round =>
                  clear HPS HI Bz
                  obtain ⟨j, hj, rfl, HPS, Bz⟩ := hrel
                  have HI := HH.below Bz
                  by_cases hjl : j < n
                  · obtain ⟨bl, ol, hEL, _, hcl⟩ := HI.1 (by omega)
                    obtain ⟨l0, l1⟩ := hcl j hjl
                    obtain ⟨s0, s1, f0, _⟩ := HPS.cells hjl
                    rw [if_neg (by omega)] at s0
                    have hjn : (j : Int) < (n : Int) := by omega
                    have HPH := Lib.hid HPS
                    have hD := fun nq => below_drewN (Below.refl wr.heap.size wr) nq
                    clear hcl HPS HI
                    generalize hpj : U j = pj at *
                    generalize hqj : V j = qj at *
                    clear hpj hqj
                    go_wp2
                    go_quiet (fail)
                    have hDq := hD nq
                    have HP2 := HPH.out.below hDq
                    have Bz2 := below_step Bz hDq Bz.size
                    obtain ⟨s0', s1', f0', _⟩ := HP2.cells hjl
                    have HS2 := Lib.hid (HP2.one hjl 77 (X' := fun i => if i < j + 1 then 77 else U i) (fun i _ => by
                      by_cases e : i = j
                      · subst e; simp
                      · rw [if_neg e]
                        by_cases e2 : i < j
                        · rw [if_pos (by omega), if_pos e2]
                        · rw [if_neg (by omega), if_neg e2]))
                    have Bz3 := Bz2.setCell (p := ⟨bp, j * 2, none⟩) hbp (.int .i64 77)
                    clear HP2 hD hDq s0 s1 l0 l1 f0 s1'
                    generalize wr.drewN nq = wy at *
                    go_wp2
                    refine ⟨⟨j + 1, by omega, by go_num, HS2.out, Bz3⟩, ?_⟩
                    simp [intOf]; omega
                  · obtain rfl : j = n := by omega
                    have hnl : ¬ (j : Int) < (j : Int) := by omega
                    clear HPS
                    go_wp2
                    refine ⟨⟨k + 1, (c + 1), rA, rc, U, V, by omega, by omega, by go_num, by go_num, rfl, (by rw [show ((c + 1 : Nat) : Int) = (c : Int) + 1 by omega]; exact HI)⟩, ?_⟩
                    simp [intOf]; omega
          · have cD := fun w h1 h2 => delta_any rA La n rc cl U V P Q w h1 h2 (by omega)
            have HE := Lib.hid hE
            clear hfar hr hE
            have hs1 := HI.1.shs
            go_wp2_with (fail)
            with_reducible refine (cD _ hs hs1).mono ?_
            rintro e wa ⟨_, hbad, NB⟩
            obtain rfl := hbad HE.out
            replace HI := HI.below NB
            replace hs := hs.below NB
            have hYc := HI.2.1
            clear NB r0 hbad hs1
            go_wp2_with (fail)
            with_reducible refine (reach_bad rA rc hYc hs (by omega) HE.out).mono ?_
            rintro e wb ⟨rfl, NB⟩
            have HH := HI.below NB
            clear NB HI cD hs hYc
            go_wp2
            go_loopw [81] (fun k W => k = .int .i64 0 ∧ W = wb) (fun _ _ => 0)
            case atStart => exact ⟨rfl, rfl⟩
            case round =>
              obtain ⟨rfl, hwb⟩ := hrel
              have hwb2 := hwb.symm
              clear hwb
              subst hwb2
              have hY := HH.2.1
              go_wp2_with (fail)
              with_reducible refine (posted_ok hY hn64).mono ?_
              rintro e wp ⟨bp, rfl, hbp, HP, NB⟩
              have HI := HH.below NB
              have hY2 := HI.2.1
              clear hY
              go_wp2_with (fail)
              with_reducible refine (posts_is hY2).mono ?_
              rintro e w' ⟨rfl, rfl⟩
              have HPS : ShB wp bp n (fun i => if i < 0 then 77 else P i) Q := HP.congr (fun i _ => by simp) (fun i _ => rfl)
              have Bz := NB
              clear HP hY2
              go_wp2
              go_loopw [113] (fun k W => ∃ j : Nat, j ≤ n ∧ k = .int .i64 j ∧ ShB W bp n (fun i => if i < j then 77 else P i) Q ∧ Below wb.heap.size wb W) (fun k _ => n - (intOf k).toNat)
              case atStart => exact ⟨0, Nat.zero_le _, rfl, HPS, Bz⟩
              case round =>
                clear HPS HI Bz
                obtain ⟨j, hj, rfl, HPS, Bz⟩ := hrel
                have HI := HH.below Bz
                by_cases hjl : j < n
                · obtain ⟨bl, ol, hEL, _, hcl⟩ := HI.1 (by omega)
                  obtain ⟨l0, l1⟩ := hcl j hjl
                  obtain ⟨s0, s1, f0, _⟩ := HPS.cells hjl
                  rw [if_neg (by omega)] at s0
                  have hjn : (j : Int) < (n : Int) := by omega
                  have HPH := Lib.hid HPS
                  have hD := fun nq => below_drewN (Below.refl wr.heap.size wr) nq
                  clear hcl HPS HI
                  subst hEL
                  generalize hpj : P j = pj at *
                  generalize hqj : Q j = qj at *
                  clear hpj hqj
                  go_wp2
                  go_quiet (fail)
                  have hDq := hD nq
                  have HP2 := HPH.out.below hDq
                  have Bz2 := below_step Bz hDq Bz.size
                  obtain ⟨s0', s1', f0', _⟩ := HP2.cells hjl
                  have HS2 := Lib.hid (HP2.one hjl 77 (X' := fun i => if i < j + 1 then 77 else P i) (fun i _ => by
                    by_cases e : i = j
                    · subst e; simp
                    · rw [if_neg e]
                      by_cases e2 : i < j
                      · rw [if_pos (by omega), if_pos e2]
                      · rw [if_neg (by omega), if_neg e2]))
                  have Bz3 := Bz2.setCell (p := ⟨bp, j * 2, none⟩) hbp (.int .i64 77)
                  clear HP2 hD hDq s0 s1 l0 l1 f0 s1'
                  generalize wr.drewN nq = wy at *
                  go_wp2
                  refine ⟨⟨j + 1, by omega, by go_num, HS2.out, Bz3⟩, ?_⟩
                  simp [intOf]; omega
                · obtain rfl : j = n := by omega
                  have hnl : ¬ (j : Int) < (j : Int) := by omega
                  clear HPS
                  go_wp2
                  refine ⟨⟨k + 1, c, La, cl, P, Q, by omega, by omega, by go_num, rfl, rfl, HI⟩, ?_⟩
                  simp [intOf]; omega
        · have cD := fun w => delta_len rA La rn n rc cl w hd
          clear hs hfar hr
          go_wp2_with (fail)
          with_reducible refine (cD _).mono ?_
          rintro e wa ⟨rfl, NB⟩
          replace HI := HI.below NB
          have hYc := HI.2.1
          clear NB r0
          go_wp2_with (fail)
          with_reducible refine (reach_len rA rn rc hYc hd).mono ?_
          rintro e wb ⟨rfl, NB⟩
          have HH := HI.below NB
          clear NB HI cD hYc
          go_wp2
          go_loopw [81] (fun k W => k = .int .i64 0 ∧ W = wb) (fun _ _ => 0)
          case atStart => exact ⟨rfl, rfl⟩
          case round =>
            obtain ⟨rfl, hwb⟩ := hrel
            have hwb2 := hwb.symm
            clear hwb
            subst hwb2
            have hY := HH.2.1
            go_wp2_with (fail)
            with_reducible refine (posted_ok hY hn64).mono ?_
            rintro e wp ⟨bp, rfl, hbp, HP, NB⟩
            have HI := HH.below NB
            have hY2 := HI.2.1
            clear hY
            go_wp2_with (fail)
            with_reducible refine (posts_is hY2).mono ?_
            rintro e w' ⟨rfl, rfl⟩
            have HPS : ShB wp bp n (fun i => if i < 0 then 77 else P i) Q := HP.congr (fun i _ => by simp) (fun i _ => rfl)
            have Bz := NB
            clear HP hY2
            go_wp2
            go_loopw [113] (fun k W => ∃ j : Nat, j ≤ n ∧ k = .int .i64 j ∧ ShB W bp n (fun i => if i < j then 77 else P i) Q ∧ Below wb.heap.size wb W) (fun k _ => n - (intOf k).toNat)
            case atStart => exact ⟨0, Nat.zero_le _, rfl, HPS, Bz⟩
            case round =>
              clear HPS HI Bz
              obtain ⟨j, hj, rfl, HPS, Bz⟩ := hrel
              have HI := HH.below Bz
              by_cases hjl : j < n
              · obtain ⟨bl, ol, hEL, _, hcl⟩ := HI.1 (by omega)
                obtain ⟨l0, l1⟩ := hcl j hjl
                obtain ⟨s0, s1, f0, _⟩ := HPS.cells hjl
                rw [if_neg (by omega)] at s0
                have hjn : (j : Int) < (n : Int) := by omega
                have HPH := Lib.hid HPS
                have hD := fun nq => below_drewN (Below.refl wr.heap.size wr) nq
                clear hcl HPS HI
                subst hEL
                generalize hpj : P j = pj at *
                generalize hqj : Q j = qj at *
                clear hpj hqj
                go_wp2
                go_quiet (fail)
                have hDq := hD nq
                have HP2 := HPH.out.below hDq
                have Bz2 := below_step Bz hDq Bz.size
                obtain ⟨s0', s1', f0', _⟩ := HP2.cells hjl
                have HS2 := Lib.hid (HP2.one hjl 77 (X' := fun i => if i < j + 1 then 77 else P i) (fun i _ => by
                  by_cases e : i = j
                  · subst e; simp
                  · rw [if_neg e]
                    by_cases e2 : i < j
                    · rw [if_pos (by omega), if_pos e2]
                    · rw [if_neg (by omega), if_neg e2]))
                have Bz3 := Bz2.setCell (p := ⟨bp, j * 2, none⟩) hbp (.int .i64 77)
                clear HP2 hD hDq s0 s1 l0 l1 f0 s1'
                generalize wr.drewN nq = wy at *
                go_wp2
                refine ⟨⟨j + 1, by omega, by go_num, HS2.out, Bz3⟩, ?_⟩
                simp [intOf]; omega
              · obtain rfl : j = n := by omega
                have hnl : ¬ (j : Int) < (j : Int) := by omega
                clear HPS
                go_wp2
                refine ⟨⟨k + 1, c, La, cl, P, Q, by omega, by omega, by go_num, rfl, rfl, HI⟩, ?_⟩
                simp [intOf]; omega
    · obtain rfl : k = m := by omega
      have hnl : ¬ (k : Int) < (k : Int) := by omega
      have BW := below_step B1 HI.2.2.2 B1.size
      clear hr HI
      go_wp2
      go_ret
      exact ⟨rfl, BW⟩
theorem wShareReach (n : Int) (A : Option Addr) (m q : Nat) (R : Nat → RB) (w : World) (hT : Tab w) (hr : 0 < m → ∃ b o, A = some ⟨b, o, none⟩ ∧ ∀ i, i < m → w.cell? ⟨b, o + i, none⟩ = some (.slice (R i).A (R i).n (R i).c) ∧ RbF w (R i)) :
    Calls Tryd.prog 4 #[.int .i64 n, .slice A m q] w fun e w' => e = .returned (.bool true) ∧ Below w.heap.size w w' := by
  by_cases hm : 40 < m
  · exact sr_long n A m q R w hT hr hm
  · by_cases hn : n < 0 ∨ 64 < n
    · exact sr_range n A m q R w hT hr hm hn
    · obtain ⟨k, rfl⟩ : ∃ k : Nat, n = (k : Int) := ⟨n.toNat, by omega⟩
      exact sr_ok k A m q R w hT hr hm (by omega)
end Go.Proofs.YtifoapaoamhgcaaDoor
