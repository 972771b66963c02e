/- The walk of WholeYears. -/
import Derived.Test.YtnpkpjnkbajnjaaDoorCuts
import Derived.Test.YtnpkpjnkbajnjaaDoorPerG
namespace Go.Proofs.YtnpkpjnkbajnjaaDoor
open Go.RowKit
set_option linter.unusedVariables false
set_option linter.unusedSimpArgs false

/-- a day in its place, and a year, held while something is asked -/
def ZS (w : World) (q p : Nat) (f y m d a b c : Int) (W : World) : Prop := W.cell? ⟨q, 0, none⟩ = some (.int .i64 a) ∧ W.cell? ⟨q, 1, none⟩ = some (.int .i64 b) ∧ W.cell? ⟨q, 2, none⟩ = some (.int .i64 c) ∧ Yr W p f y m d ∧ Below w.heap.size w W ∧ q < W.heap.size
theorem ZS.step {w : World} {q p : Nat} {f y m d a b c : Int} {W W' : World} (hb : Below W.heap.size W W') (S : ZS w q p f y m d a b c W) : ZS w q p f y m d a b c W' := by
  obtain ⟨h0, h1, h2, Y, hB, z1⟩ := S
  have hs := hB.size
  have g : ∀ (bb oo : Nat), bb < W.heap.size → W'.cell? ⟨bb, oo, none⟩ = W.cell? ⟨bb, oo, none⟩ := fun bb oo hl => hb.cell (p := ⟨bb, oo, none⟩) hl
  exact ⟨(g _ _ z1).trans h0, (g _ _ z1).trans h1, (g _ _ z1).trans h2, Y.below hb, below_step hB hb hs, by have := hb.size; omega⟩

set_option maxRecDepth 100000 in
set_option maxHeartbeats 1000000 in
theorem years_far (f y m d days : Int) (w : World) (hK : Kinds w) (ho : days < 0 ∨ 4000 < days) :
    Calls Tryd.prog 18 #[.int .i64 f, .agg #[.int .i64 y, .int .i64 m, .int .i64 d], .int .i64 days] w fun e w' => e = .returned (.bool true) ∧ Below w.heap.size w w' := by
  have hcases : days < 0 ∨ (¬ days < 0 ∧ 4000 < days) := by omega
  clear ho
  have hnu : ∀ w, Calls Tryd.prog 25 #[.agg #[.int .i64 1900, .int .i64 1, .int .i64 2]] w fun e w' => e = .returned (.tuple #[.int .i64 1, .int .i64 0]) ∧ Below w.heap.size w w' := fun w => number_yes 1900 1 2 (by decide) w
  have hno : ∀ w, Kinds w → Calls Tryd.prog 53 #[.int .i64 1] w fun e w' => e = .returned (.int .i64 52) ∧ w = w' := fun w K => nominal_any 1 w K
  have D0 := day_new w y m d 33
  have B0 : Below w.heap.size w (w.alloc (.cells #[.int .i64 y, .int .i64 m, .int .i64 d] 33)) := (Below.refl _ _).alloc (Nat.le_refl _) _
  have K0 := hK.below B0
  go_enter Tryd.func18, Tryd.ntmps18
  go_wp2_with (fail)
  refine (hnu _).mono ?_
  rintro e w0 ⟨rfl, hb⟩
  have D1 := D0.below hb (by simp)
  have K1 := K0.below hb
  have B1 := below_step B0 hb B0.size
  have z1 : w.heap.size < w0.heap.size := by have := hb.size; simp at this; omega
  obtain ⟨c0, c1, c2⟩ := id D1
  clear hb D0 K0 B0 hnu hK
  go_wp2_with (fail)
  refine (hno _ K1).mono ?_
  rintro e w1 ⟨rfl, rfl⟩
  clear hno
  rcases hcases with g | ⟨g0, g⟩
  · go_wp2
    go_ret
    exact ⟨rfl, B1⟩
  · go_wp2
    go_ret
    exact ⟨rfl, B1⟩
set_option maxRecDepth 100000 in
set_option maxHeartbeats 1000000 in
theorem years_nil (f y m d days e0 : Int) (w : World) (hK : Kinds w) (h0 : 0 ≤ days) (h1 : days ≤ 4000) (hn : ∀ w, Calls Tryd.prog 47 #[.int .i64 f, .agg #[.int .i64 y, .int .i64 m, .int .i64 d]] w fun e w' => e = .returned (.tuple #[.pointer none, .int .i64 e0]) ∧ Below w.heap.size w w') :
    Calls Tryd.prog 18 #[.int .i64 f, .agg #[.int .i64 y, .int .i64 m, .int .i64 d], .int .i64 days] w fun e w' => e = .returned (.bool true) ∧ Below w.heap.size w w' := by
  have hnu : ∀ w, Calls Tryd.prog 25 #[.agg #[.int .i64 1900, .int .i64 1, .int .i64 2]] w fun e w' => e = .returned (.tuple #[.int .i64 1, .int .i64 0]) ∧ Below w.heap.size w w' := fun w => number_yes 1900 1 2 (by decide) w
  have hno : ∀ w, Kinds w → Calls Tryd.prog 53 #[.int .i64 1] w fun e w' => e = .returned (.int .i64 52) ∧ w = w' := fun w K => nominal_any 1 w K
  have D0 := day_new w y m d 33
  have B0 : Below w.heap.size w (w.alloc (.cells #[.int .i64 y, .int .i64 m, .int .i64 d] 33)) := (Below.refl _ _).alloc (Nat.le_refl _) _
  have K0 := hK.below B0
  go_enter Tryd.func18, Tryd.ntmps18
  go_wp2_with (fail)
  refine (hnu _).mono ?_
  rintro e w0 ⟨rfl, hb⟩
  have D1 := D0.below hb (by simp)
  have K1 := K0.below hb
  have B1 := below_step B0 hb B0.size
  have z1 : w.heap.size < w0.heap.size := by have := hb.size; simp at this; omega
  obtain ⟨c0, c1, c2⟩ := id D1
  clear hb D0 K0 B0 hnu hK
  go_wp2_with (fail)
  refine (hno _ K1).mono ?_
  rintro e w1 ⟨rfl, rfl⟩
  clear hno
  go_wp2_with (fail)
  refine (hn _).mono ?_
  rintro e w2 ⟨rfl, hb⟩
  have B2 := below_step B1 hb B1.size
  go_wp2
  go_ret
  exact ⟨rfl, B2⟩

set_option maxRecDepth 100000 in
set_option maxHeartbeats 1000000 in
theorem years_out (f y m d days : Int) (w : World) (hK : Kinds w) (h0 : 0 ≤ days) (h1 : days ≤ 4000) (hf : 1 ≤ f) (hf' : f ≤ 4) (h : yrB y m d = true) (ho : 109573 ≤ num y m d + days) :
    Calls Tryd.prog 18 #[.int .i64 f, .agg #[.int .i64 y, .int .i64 m, .int .i64 d], .int .i64 days] w fun e w' => e = .returned (.bool true) ∧ Below w.heap.size w w' := by
  have hn := fun w K => new_ok f y m d hf hf' h w K
  have had := add_out y m d days (yrB_yes h).1 (by omega) (by omega) (.inr ho)
  have hnu : ∀ w, Calls Tryd.prog 25 #[.agg #[.int .i64 1900, .int .i64 1, .int .i64 2]] w fun e w' => e = .returned (.tuple #[.int .i64 1, .int .i64 0]) ∧ Below w.heap.size w w' := fun w => number_yes 1900 1 2 (by decide) w
  have hno : ∀ w, Kinds w → Calls Tryd.prog 53 #[.int .i64 1] w fun e w' => e = .returned (.int .i64 52) ∧ w = w' := fun w K => nominal_any 1 w K
  have D0 := day_new w y m d 33
  have B0 : Below w.heap.size w (w.alloc (.cells #[.int .i64 y, .int .i64 m, .int .i64 d] 33)) := (Below.refl _ _).alloc (Nat.le_refl _) _
  have K0 := hK.below B0
  go_enter Tryd.func18, Tryd.ntmps18
  go_wp2_with (fail)
  refine (hnu _).mono ?_
  rintro e w0 ⟨rfl, hb⟩
  have D1 := D0.below hb (by simp)
  have K1 := K0.below hb
  have B1 := below_step B0 hb B0.size
  have z1 : w.heap.size < w0.heap.size := by have := hb.size; simp at this; omega
  obtain ⟨c0, c1, c2⟩ := id D1
  clear hb D0 K0 B0 hnu hK
  go_wp2_with (fail)
  refine (hno _ K1).mono ?_
  rintro e w1 ⟨rfl, rfl⟩
  clear hno
  go_wp2_with (fail)
  refine (hn _ K1).mono ?_
  rintro e w2 ⟨p0, rfl, zp, Y2, hb⟩
  have B2 := below_step B1 hb B1.size
  have D2 := D1.below hb z1
  have hz2 : w.heap.size < w2.heap.size := by have := hb.size; omega
  clear hb K1 B1 D1 hn c0 c1 c2
  obtain ⟨c0, c1, c2⟩ := id D2
  go_wp2_with (fail)
  (with_reducible refine (had _).mono ?_)
  rintro e w3 ⟨rfl, hb⟩
  have B3 := below_step B2 hb B2.size
  have Y3 := Y2.below hb
  go_wp2
  go_ret
  exact ⟨rfl, B3.alloc B3.size _⟩

set_option maxRecDepth 100000 in
set_option maxHeartbeats 8000000 in
theorem years_in (f y m d days : Int) (w : World) (hK : Kinds w) (h0 : 0 ≤ days) (h1 : days ≤ 4000) (hf : 1 ≤ f) (hf' : f ≤ 4) (h : yrB y m d = true) (ho : num y m d + days < 109573) :
    Calls Tryd.prog 18 #[.int .i64 f, .agg #[.int .i64 y, .int .i64 m, .int .i64 d], .int .i64 days] w fun e w' => e = .returned (.bool true) ∧ Below w.heap.size w w' := by
  have hn := fun w K => new_ok f y m d hf hf' h w K
  obtain ⟨_, _, s1, s2⟩ := num_bd (yrB_yes h).1
  have had := add_yes y m d days (yrB_yes h).1 (by omega) ho
  have HO := Lib.hid (of_bd (num y m d + days) (by omega) ho)
  have HH := Lib.hid h
  generalize yOf (num y m d + days) = r1x at *
  generalize mOf (num y m d + days) = r2x at *
  generalize dOf (num y m d + days) = r3x at *
  have HN : num y m d + days ≤ num y m d + 4000 := by omega
  have HN1 : num y m d ≤ num y m d + days := by omega
  generalize num y m d + days = N at *
  generalize hs0 : num y m d = s0 at *
  have HS0 := Lib.hid hs0
  clear hs0 h
  have hnu : ∀ w, Calls Tryd.prog 25 #[.agg #[.int .i64 1900, .int .i64 1, .int .i64 2]] w fun e w' => e = .returned (.tuple #[.int .i64 1, .int .i64 0]) ∧ Below w.heap.size w w' := fun w => number_yes 1900 1 2 (by decide) w
  have hno : ∀ w, Kinds w → Calls Tryd.prog 53 #[.int .i64 1] w fun e w' => e = .returned (.int .i64 52) ∧ w = w' := fun w K => nominal_any 1 w K
  have D0 := day_new w y m d 33
  have B0 : Below w.heap.size w (w.alloc (.cells #[.int .i64 y, .int .i64 m, .int .i64 d] 33)) := (Below.refl _ _).alloc (Nat.le_refl _) _
  have K0 := hK.below B0
  go_enter Tryd.func18, Tryd.ntmps18
  go_wp2_with (fail)
  refine (hnu _).mono ?_
  rintro e w0 ⟨rfl, hb⟩
  have D1 := D0.below hb (by simp)
  have K1 := K0.below hb
  have B1 := below_step B0 hb B0.size
  have z1 : w.heap.size < w0.heap.size := by have := hb.size; simp at this; omega
  obtain ⟨c0, c1, c2⟩ := id D1
  clear hb D0 K0 B0 hnu hK
  go_wp2_with (fail)
  refine (hno _ K1).mono ?_
  rintro e w1 ⟨rfl, rfl⟩
  clear hno
  go_wp2_with (fail)
  refine (hn _ K1).mono ?_
  rintro e w2 ⟨p0, rfl, zp, Y2, hb⟩
  have B2 := below_step B1 hb B1.size
  have D2 := D1.below hb z1
  have hz2 : w.heap.size < w2.heap.size := by have := hb.size; omega
  clear hb K1 B1 D1 hn c0 c1 c2
  obtain ⟨c0, c1, c2⟩ := id D2
  go_wp2_with (fail)
  (with_reducible refine (had _).mono ?_)
  rintro e w3 ⟨rfl, hb⟩
  have B3 := below_step B2 hb B2.size
  have Y3 := Y2.below hb
  have hb2 : Below w3.heap.size w3 (w3.alloc (.cells #[.int .i64 r1x, .int .i64 r2x, .int .i64 r3x] 33)) := (Below.refl _ _).alloc (Nat.le_refl _) _
  have N4 := day_new w3 r1x r2x r3x 33
  have Z4 : ZS w w3.heap.size p0 f y m d r1x r2x r3x (w3.alloc (.cells #[.int .i64 r1x, .int .i64 r2x, .int .i64 r3x] 33)) := ⟨N4.1, N4.2.1, N4.2.2, Y3.below hb2, below_step B3 hb2 B3.size, by simp⟩
  clear hb hb2 N4 B2 Y2 D2 B3 Y3 c0 c1 c2 had
  go_wp2
  generalize w3.heap.size = q at *
  go_loopw [9, 72] (fun va vj wr => ∃ (W2 : World) (p : Nat) (yy j : Int), W2 = wr ∧ va = .pointer (some ⟨p, 0, none⟩) ∧ vj = .int .i64 j ∧ 0 ≤ j ∧ j ≤ 12 ∧ Hid (yrB yy m d = true ∧ num yy m d ≤ N ∧ s0 + 365 * j ≤ num yy m d) ∧ ZS w q p f yy m d r1x r2x r3x W2) (fun _ vj _ => (12 - intOf vj).toNat)
  case atStart => exact ⟨_, p0, y, 0, rfl, rfl, rfl, by omega, by omega, Lib.hid ⟨HH.out, by rw [HS0.out]; exact HN1, by rw [HS0.out]; omega⟩, Z4⟩
  case round =>
    obtain ⟨W2, p, yy, j, rfl, rfl, rfl, j0, j12, HI, Z⟩ := hrel
    clear Z4
    have hj : j < 12 := by have := HI.out.2; omega
    obtain ⟨t0, t1, t2, Y, B, zq⟩ := id Z
    have hyb := year_bd (y := yy) (d := d) (dayB_yes (yrB_yes HI.out.1).1).2.2.1
    by_cases hle : N ≤ yend yy m d
    · have hix := index_in p f yy m d r1x r2x r3x _ Y HI.out.1 HO.out.1 hf hf' (by rw [HO.out.2]; exact HI.out.2.1) (by rw [HO.out.2]; exact hle)
      rw [HO.out.2] at hix
      clear hyb
      go_wp2_with (fail)
      refine hix.mono ?_
      rintro e w5 ⟨k, k1, k2, k3, k4, rfl, hb⟩
      have Z5 := Z.step hb
      clear hb hix Z t0 t1 t2 Y B zq
      have hc53 := (cnt_bd (f := f) (y := yy) (m := m) (d := d) hf hf' (dayB_yes (yrB_yes HI.out.1).1).2.2.1).2
      go_wp2
      go_loopw [15, 16] (fun va vi wr => ∃ (W2 : World) (i : Int), W2 = wr ∧ vi = .int .i64 i ∧ va = .int .i64 (pb f yy m d i - num yy m d) ∧ 1 ≤ i ∧ i ≤ k ∧ ZS w q p f yy m d r1x r2x r3x W2) (fun _ vi _ => (k - intOf vi).toNat)
      case atStart => exact ⟨_, 1, rfl, rfl, by rw [pb_one (yrB_yes HI.out.1).1]; simp, by omega, k1, Z5⟩
      case round =>
        obtain ⟨W3, i, rfl, rfl, rfl, i1, i2, Z6⟩ := hrel
        clear Z5
        obtain ⟨t0, t1, t2, Y, B, zq⟩ := id Z6
        have hbi := pb_bd hf hf' HI.out.1 i1 (by omega)
        obtain ⟨bi1, bi2, bi3, bi4⟩ := hbi
        obtain ⟨_, _, sy1, sy2⟩ := num_bd (yrB_yes HI.out.1).1
        by_cases hik : i < k
        · have hsp := span_yes p f yy m d i _ Y HI.out.1 hf hf' i1 (by omega)
          obtain ⟨⟨d1, d2⟩, ⟨d3, d4⟩, d5, d6⟩ := per_days hf hf' HI.out.1 i1 (show i ≤ cnt f yy m d by omega)
          have hbt := between_yes _ _ _ _ _ _ d1 d3
          rw [d2, d4] at hbt
          obtain ⟨g1, g2, g3⟩ := pe_bd hf hf' HI.out.1 i1 (show i ≤ cnt f yy m d by omega)
          have hnx := Lib.hid (pe_next (f := f) (y := yy) (m := m) (d := d) (k := i) (by omega))
          clear d1 d2 d3 d4 d5 d6
          generalize yOf (pb f yy m d i) = u1 at *
          generalize mOf (pb f yy m d i) = u2 at *
          generalize dOf (pb f yy m d i) = u3 at *
          generalize yOf (pe f yy m d i) = u4 at *
          generalize mOf (pe f yy m d i) = u5 at *
          generalize dOf (pe f yy m d i) = u6 at *
          generalize pe f yy m d i = nb at *
          generalize pb f yy m d i = na at *
          generalize num yy m d = sy at *
          have hw1 : IntKind.i64.wrap (nb - na + 1) = nb - na + 1 := IntWalk.i64_in _ (by omega)
          go_wp2_with (fail)
          refine hsp.mono ?_
          rintro e w7 ⟨rfl, hb⟩
          have Z7 := Z6.step hb
          have hb2 := two_base w7 #[.int .i64 u1, .int .i64 u2, .int .i64 u3] #[.int .i64 u4, .int .i64 u5, .int .i64 u6] 33 33
          have T8 := box2_new w7 u1 u2 u3 u4 u5 u6 33 33
          have Z8 := Z7.step hb2
          clear hb hb2 hsp Z6 Z7 t0 t1 t2 Y B zq
          obtain ⟨⟨v0, v1, v2⟩, ⟨v3, v4, v5⟩, vz⟩ := id T8
          go_wp2_with (fail)
          refine (hbt _).mono ?_
          rintro e w8 ⟨rfl, hb⟩
          have Z9 := Z8.step hb
          clear hb hbt Z8 T8 v0 v1 v2 v3 v4 v5 vz
          go_wp2
          go_roundw
          case rel => exact ⟨_, i + 1, rfl, rfl, by rw [show pb f yy m d (i + 1) = nb + 1 by have := hnx.out; omega]; congr 1; omega, by omega, by omega, Z9⟩
          case measure => simp [intOf]; omega
        · obtain rfl : i = k := by omega
          have hsp := span_yes p f yy m d i _ Y HI.out.1 hf hf' i1 k2
          obtain ⟨⟨d1, d2⟩, ⟨d3, d4⟩, d5, d6⟩ := per_days hf hf' HI.out.1 i1 k2
          have hbt := between_yes _ _ _ _ _ _ d1 HO.out.1
          rw [d2, HO.out.2] at hbt
          have hst := fun W Y => start_any p f yy m d W Y
          have hbs := between_yes _ _ _ _ _ _ (yrB_yes HI.out.1).1 HO.out.1
          rw [HO.out.2] at hbs
          clear d1 d2 d3 d4 d5 d6 k4
          generalize yOf (pb f yy m d i) = u1 at *
          generalize mOf (pb f yy m d i) = u2 at *
          generalize dOf (pb f yy m d i) = u3 at *
          generalize yOf (pe f yy m d i) = u4 at *
          generalize mOf (pe f yy m d i) = u5 at *
          generalize dOf (pe f yy m d i) = u6 at *
          generalize pb f yy m d i = na at *
          generalize hsy : num yy m d = sy at *
          clear hsy
          have hfin : (na - sy + (N - na) == N - sy) = true := by simp; omega
          have hfin2 : 0 ≤ N - na := by omega
          have hfin3 : na ≤ N := by omega
          go_wp2_with (fail)
          refine hsp.mono ?_
          rintro e w7 ⟨rfl, hb⟩
          have Z7 := Z6.step hb
          have hb2 := two_base w7 #[.int .i64 u1, .int .i64 u2, .int .i64 u3] #[.int .i64 u4, .int .i64 u5, .int .i64 u6] 33 33
          have T8 := box2_new w7 u1 u2 u3 u4 u5 u6 33 33
          have Z8 := Z7.step hb2
          clear hb hb2 hsp Z6 Z7 t0 t1 t2 Y B zq
          obtain ⟨⟨v0, v1, v2⟩, ⟨v3, v4, v5⟩, vz⟩ := id T8
          obtain ⟨t0, t1, t2, Y, B, zq⟩ := id Z8
          go_wp2_with (fail)
          refine (hbt _).mono ?_
          rintro e w8 ⟨rfl, hb⟩
          have Z9 := Z8.step hb
          have Z10 := Z9.step (Below.refl _ _).drew
          have Y10 := Z10.2.2.2.1
          clear hb hbt Z8 T8 v0 v1 v2 v3 v4 v5 vz t0 t1 t2 Y B zq Z9
          go_wp2
          go_region_held3 (fun W => W.cell? ⟨q, 0, none⟩ = some (.int .i64 r1x) ∧ W.cell? ⟨q, 1, none⟩ = some (.int .i64 r2x) ∧ W.cell? ⟨q, 2, none⟩ = some (.int .i64 r3x) ∧ Yr W p f yy m d ∧ Below w.heap.size w W ∧ q < W.heap.size)
            ((first | exact Z10 | exact ZS.step hb (by assumption)))
            (first
              | (go_at_call 48; (with_reducible refine (hst _ Y10).mono ?_); rintro e w9 ⟨rfl, hb⟩)
              | (go_at_call 35; (with_reducible refine (hbs _).mono ?_); rintro e w9 ⟨rfl, hb⟩))
          rename_i hH
          obtain ⟨_, _, _, _, B, _⟩ := hH
          clear hb Z10 Y10
          go_wp2
          go_ret
          exact ⟨rfl, B⟩
    · have hix := index_late p f yy m d r1x r2x r3x _ Y HI.out.1 HO.out.1 (by rw [HO.out.2]; omega)
      obtain ⟨e1, e2, e3, e4⟩ := end_day HI.out.1
      have hbe := between_yes _ _ _ _ _ _ e1 HO.out.1
      rw [e2, HO.out.2] at hbe
      have hen := fun W Y => endd_any p f yy m d W Y
      have hpos : ¬ N - yend yy m d ≤ 0 := by omega
      obtain ⟨_, _, sy1, sy2⟩ := num_bd (yrB_yes HI.out.1).1
      go_wp2_with (fail)
      refine hix.mono ?_
      rintro e w5 ⟨rfl, hb⟩
      have Z5 := Z.step hb
      have Z6 := Z5.step (Below.refl _ _).drew
      have Y6 := Z6.2.2.2.1
      clear hb hix Z t0 t1 t2 Y B zq Z5
      go_wp2
      go_region_held3 (fun W => W.cell? ⟨q, 0, none⟩ = some (.int .i64 r1x) ∧ W.cell? ⟨q, 1, none⟩ = some (.int .i64 r2x) ∧ W.cell? ⟨q, 2, none⟩ = some (.int .i64 r3x) ∧ Yr W p f yy m d ∧ Below w.heap.size w W ∧ q < W.heap.size)
        ((first | exact Z6 | exact ZS.step hb (by assumption)))
        (first
          | (go_at_call 50; (with_reducible refine (hen _ Y6).mono ?_); rintro e w9 ⟨rfl, hb⟩)
          | (go_at_call 35; (with_reducible refine (hbe _).mono ?_); rintro e w9 ⟨rfl, hb⟩))
      rename_i hH
      have Z7 : ZS w q p f yy m d r1x r2x r3x w9 := hH
      clear hH hb Z6 Y6
      obtain ⟨t0, t1, t2, Y, B, zq⟩ := id Z7
      cases h' : yrB (yy + 1) m d
      · have hne := next_no p f yy m d _ Y HI.out.1 hf hf' h'
        clear h'
        go_wp2_with (fail)
        refine hne.mono ?_
        rintro e w10 ⟨rfl, hb⟩
        have B10 := below_step B hb B.size
        go_wp2
        go_ret
        exact ⟨rfl, B10⟩
      · have hne := next_ok p f yy m d _ Y HI.out.1 hf hf' h'
        have hst := fun p W Y => start_any p f (yy + 1) m d W Y
        have hbn := between_yes _ _ _ _ _ _ e1 (next_day HI.out.1)
        rw [e2, show num (yy + 1) m d - yend yy m d = 1 by unfold yend; omega] at hbn
        have hye : yend yy m d = num (yy + 1) m d - 1 := rfl
        have hq1 : num (yy + 1) m d ≤ N := by omega
        have hq2 : s0 + 365 * (j + 1) ≤ num (yy + 1) m d := by
          have := HI.out.2
          omega
        have HI2 := Lib.hid (And.intro h' (And.intro hq1 hq2))
        clear hye hq1 hq2
        clear h'
        go_wp2_with (fail)
        refine hne.mono ?_
        rintro e w10 ⟨p', rfl, zp', Y', hb⟩
        have Z8 := Z7.step hb
        clear hb hne Z7 t0 t1 t2 Y B zq
        obtain ⟨t0, t1, t2, Y, B, zq⟩ := id Z8
        go_wp2_with (fail)
        refine (hen _ Y).mono ?_
        rintro e w11 ⟨rfl, hb⟩
        have Z9 := Z8.step hb
        have Y'' := Y'.below hb
        clear hb Z8 t0 t1 t2 Y B zq Y'
        go_wp2_with (fail)
        refine (hst _ _ Y'').mono ?_
        rintro e w12 ⟨rfl, hb⟩
        have Z10 := Z9.step hb
        have Y3 := Y''.below hb
        clear hb Z9 Y''
        go_wp2_with (fail)
        (with_reducible refine (hbn _).mono ?_)
        rintro e w13 ⟨rfl, hb⟩
        have Z11 := Z10.step hb
        have Y4 := Y3.below hb
        clear hb Z10 Y3 hbn hen hst hbe
        obtain ⟨t0, t1, t2, Y, B, zq⟩ := Z11
        go_wp2
        go_roundw
        case rel => exact ⟨_, p', yy + 1, j + 1, rfl, rfl, rfl, by omega, by omega, HI2, ⟨t0, t1, t2, Y4, B, zq⟩⟩
        case measure => simp [intOf]; omega
theorem wWholeYears (f y m d days : Int) (W : World) (hK : Kinds W) : Calls Tryd.prog 18 #[.int .i64 f, .agg #[.int .i64 y, .int .i64 m, .int .i64 d], .int .i64 days] W fun e w' => e = .returned (.bool true) ∧ Below W.heap.size W w' := by
  by_cases hd : days < 0 ∨ 4000 < days
  · exact years_far f y m d days W hK hd
  · by_cases hf : 1 ≤ f ∧ f ≤ 4
    · cases h : yrB y m d
      · exact years_nil f y m d days 30 W hK (by omega) (by omega) (new_date f y m d hf.1 hf.2 h)
      · by_cases ho : num y m d + days < 109573
        · exact years_in f y m d days W hK (by omega) (by omega) hf.1 hf.2 h ho
        · exact years_out f y m d days W hK (by omega) (by omega) hf.1 hf.2 h (by omega)
    · exact years_nil f y m d days 40 W hK (by omega) (by omega) (new_freq f y m d (by omega))

end Go.Proofs.YtnpkpjnkbajnjaaDoor
