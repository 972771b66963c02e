/- The walk of PeriodCovers. -/
import Derived.Test.YtnpkpjnkbajnjaaDoorCuts
import Derived.Test.YtnpkpjnkbajnjaaDoorPerG
import Derived.Test.YtnpkpjnkbajnjaaDoorRefDateC
namespace Go.Proofs.YtnpkpjnkbajnjaaDoor
open Go.RowKit
set_option linter.unusedVariables false
set_option linter.unusedSimpArgs false

/-- where the next period begins -/
def bnx (f y m d k : Int) : Int := if k ≤ cnt f y m d then pb f y m d k else yend y m d + 1
theorem bnx_in {f y m d k : Int} (h : k ≤ cnt f y m d) : bnx f y m d k = pb f y m d k := by unfold bnx; rw [if_pos h]
theorem bnx_out {f y m d k : Int} (h : ¬ k ≤ cnt f y m d) : bnx f y m d k = yend y m d + 1 := by unfold bnx; rw [if_neg h]
theorem bnx_next {f y m d k : Int} (h : k ≤ cnt f y m d) : bnx f y m d (k + 1) = pe f y m d k + 1 := by
  unfold bnx pe
  split
  · rw [if_neg (by omega)]; omega
  · rw [if_pos (by omega)]
theorem index_at (p : Nat) (f y m d k n : Int) (W : World) (Y : Yr W p f y m d) (h : yrB y m d = true) (hf : 1 ≤ f) (hf' : f ≤ 4) (hk : 1 ≤ k) (hk' : k ≤ cnt f y m d) (h0 : pb f y m d k ≤ n) (h1 : n ≤ pe f y m d k) :
    Calls Tryd.prog 55 #[.pointer (some ⟨p, 0, none⟩), .agg #[.int .i64 (yOf n), .int .i64 (mOf n), .int .i64 (dOf n)]] W fun e w' => e = .returned (.tuple #[.int .i64 k, .int .i64 0]) ∧ Below W.heap.size W w' := by
  obtain ⟨b1, b2, b3, b4⟩ := pb_bd hf hf' h hk hk'
  obtain ⟨p1, p2, p3⟩ := pe_bd hf hf' h hk hk'
  obtain ⟨o1, o2⟩ := of_bd n (by omega) (by omega)
  exact (index_in p f y m d _ _ _ W Y h o1 hf hf' (by rw [o2]; omega) (by rw [o2]; omega)).mono fun e w' ⟨i, i1, i2, i3, i4, he, hb⟩ => by
    rw [o2] at i3 i4
    have hi : i = k := per_uniq hf hf' i2 hk' i3 i4 h0 h1
    subst hi
    exact ⟨he, hb⟩
/-- a year, its first day and two days more, held while something is asked -/
def QR (w : World) (q p : Nat) (f y m d : Int) (W : World) : Prop := Yr W p f y m d ∧ Day W w.heap.size y m d ∧ Below w.heap.size w W ∧ q + 1 < W.heap.size ∧ w.heap.size < W.heap.size
def QS (w : World) (q p : Nat) (f y m d a b c a' b' c' : Int) (W : World) : Prop := W.cell? ⟨q, 0, none⟩ = some (.int .i64 a) ∧ W.cell? ⟨q, 1, none⟩ = some (.int .i64 b) ∧ W.cell? ⟨q, 2, none⟩ = some (.int .i64 c) ∧ W.cell? ⟨q + 1, 0, none⟩ = some (.int .i64 a') ∧ W.cell? ⟨q + 1, 1, none⟩ = some (.int .i64 b') ∧ W.cell? ⟨q + 1, 2, none⟩ = some (.int .i64 c') ∧ QR w q p f y m d W
theorem QS.step {w : World} {q p : Nat} {f y m d a b c a' b' c' : Int} {W W' : World} (hb : Below W.heap.size W W') (S : QS w q p f y m d a b c a' b' c' W) : QS w q p f y m d a b c a' b' c' W' := by
  obtain ⟨h0, h1, h2, h3, h4, h5, Y, D, hB, z1, z2⟩ := S
  have hs := hB.size
  have g : ∀ (bb oo : Nat), bb < W.heap.size → W'.cell? ⟨bb, oo, none⟩ = W.cell? ⟨bb, oo, none⟩ := fun bb oo hl => hb.cell (p := ⟨bb, oo, none⟩) hl
  exact ⟨(g _ _ (by omega)).trans h0, (g _ _ (by omega)).trans h1, (g _ _ (by omega)).trans h2, (g _ _ z1).trans h3, (g _ _ z1).trans h4, (g _ _ z1).trans h5, Y.below hb, D.below hb z2, below_step hB hb hs, by have := hb.size; omega, by have := hb.size; omega⟩
theorem qs_new (w W : World) (p : Nat) (f y m d a b c a' b' c' : Int) (t t' : TypeId) (Y : Yr W p f y m d) (D : Day W w.heap.size y m d) (hB : Below w.heap.size w W) (hz : w.heap.size < W.heap.size) :
    QS w W.heap.size p f y m d a b c a' b' c' ((W.alloc (.cells #[.int .i64 a, .int .i64 b, .int .i64 c] t)).alloc (.cells #[.int .i64 a', .int .i64 b', .int .i64 c'] t')) := by
  obtain ⟨⟨x0, x1, x2⟩, ⟨x3, x4, x5⟩, xz⟩ := box2_new W a b c a' b' c' t t'
  have hb := two_base W #[.int .i64 a, .int .i64 b, .int .i64 c] #[.int .i64 a', .int .i64 b', .int .i64 c'] t t'
  exact ⟨x0, x1, x2, x3, x4, x5, Y.below hb, D.below hb hz, below_step hB hb hB.size, xz, by have := hb.size; omega⟩

set_option maxRecDepth 100000 in
theorem covers_nil (f y m d day e0 : Int) (w : World) (hK : Kinds w) (hn : ∀ w, Calls Tryd.prog 47 #[.int .i64 f, .agg #[.int .i64 y, .int .i64 m, .int .i64 d]] w fun e w' => e = .returned (.tuple #[.pointer none, .int .i64 e0]) ∧ Below w.heap.size w w') :
    Calls Tryd.prog 12 #[.int .i64 f, .agg #[.int .i64 y, .int .i64 m, .int .i64 d], .int .i64 day] w fun e w' => e = .returned (.bool true) ∧ Below w.heap.size w w' := by
  have hcu := cuts_any
  have D0 := day_new w y m d 33
  have B0 : Below w.heap.size w (w.alloc (.cells #[.int .i64 y, .int .i64 m, .int .i64 d] 33)) := (Below.refl _ _).alloc (Nat.le_refl _) _
  have K0 := hK.below B0
  go_enter Tryd.func12, Tryd.ntmps12
  go_wp2_with (fail)
  refine (hcu _ K0).mono ?_
  rintro e w1 ⟨rfl, hb⟩
  have D1 := D0.below hb (by simp)
  have K1 := K0.below hb
  have B1 := below_step B0 hb B0.size
  have z1 : w.heap.size < w1.heap.size := by have := hb.size; simp at this; omega
  obtain ⟨c0, c1, c2⟩ := id D1
  clear hb D0 K0 B0 hcu hK
  go_wp2_with (fail)
  refine (hn _).mono ?_
  rintro e w2 ⟨rfl, hb⟩
  have B2 := below_step B1 hb B1.size
  go_wp2
  go_ret
  exact ⟨rfl, B2⟩

set_option maxRecDepth 100000 in
set_option maxHeartbeats 4000000 in
theorem covers_yes (f y m d day : Int) (w : World) (hK : Kinds w) (hf : 1 ≤ f) (hf' : f ≤ 4) (h : yrB y m d = true) :
    Calls Tryd.prog 12 #[.int .i64 f, .agg #[.int .i64 y, .int .i64 m, .int .i64 d], .int .i64 day] w fun e w' => e = .returned (.bool true) ∧ Below w.heap.size w w' := by
  have hn := fun w K => new_ok f y m d hf hf' h w K
  have HC := Lib.hid (fun p W Y => count_any p f y m d W Y h hf hf')
  have HSP := Lib.hid (fun p W Y k hk hk' => span_yes p f y m d k W Y h hf hf' hk hk')
  have HIX := Lib.hid (fun p W Y k n hk hk' h0 h1 => index_at p f y m d k n W Y h hf hf' hk hk' h0 h1)
  have HPD := Lib.hid (fun k hk hk' => per_days (f := f) (y := y) (m := m) (d := d) (k := k) hf hf' h hk hk')
  have HPE := Lib.hid (fun k hk hk' => pe_bd (f := f) (y := y) (m := m) (d := d) (k := k) hf hf' h hk hk')
  have HEN := Lib.hid (fun p W Y => endd_any p f y m d W Y)
  have HH := Lib.hid h
  have hm1 := (dayB_yes (yrB_yes h).1).2.2.1
  have hcb := cnt_bd (f := f) (y := y) (d := d) hf hf' hm1
  have HP1 := Lib.hid (pb_one (f := f) (yrB_yes h).1)
  have hrs := rnumber_yes y m d (yrB_yes h).1
  obtain ⟨_, _, s1, s2⟩ := num_bd (yrB_yes h).1
  have hyb := year_bd (y := y) (d := d) hm1
  obtain ⟨e1, e2, e3, e4⟩ := end_day h
  have HRE := Lib.hid (fun w => by have := rnumber_yes _ _ _ e1 w; rwa [e2] at this)
  clear e1 e2
  have hcu := cuts_any
  have D0 := day_new w y m d 33
  have B0 : Below w.heap.size w (w.alloc (.cells #[.int .i64 y, .int .i64 m, .int .i64 d] 33)) := (Below.refl _ _).alloc (Nat.le_refl _) _
  have K0 := hK.below B0
  go_enter Tryd.func12, Tryd.ntmps12
  go_wp2_with (fail)
  refine (hcu _ K0).mono ?_
  rintro e w1 ⟨rfl, hb⟩
  have D1 := D0.below hb (by simp)
  have K1 := K0.below hb
  have B1 := below_step B0 hb B0.size
  have z1 : w.heap.size < w1.heap.size := by have := hb.size; simp at this; omega
  obtain ⟨c0, c1, c2⟩ := id D1
  clear hb D0 K0 B0 hcu hK
  go_wp2_with (fail)
  refine (hn _ K1).mono ?_
  rintro e w2 ⟨p, rfl, z2, Y2, hb⟩
  have B2 := below_step B1 hb B1.size
  have D2 := D1.below hb z1
  have hz2 : w.heap.size < w2.heap.size := by have := hb.size; omega
  clear hb K1 B1 D1 hn c0 c1 c2
  obtain ⟨c0, c1, c2⟩ := id D2
  go_wp2_with (fail)
  refine (hrs _).mono ?_
  rintro e w3 ⟨rfl, hb⟩
  have B3 := below_step B2 hb B2.size
  have Y3 := Y2.below hb
  have D3 := D2.below hb hz2
  have hz3 : w.heap.size < w3.heap.size := by have := hb.size; omega
  clear hb B2 Y2 D2 c0 c1 c2
  go_wp2
  obtain ⟨hcb1, hcb2⟩ := hcb
  go_loopw [9, 10] (fun va vk wr => ∃ (W2 : World) (κ : Int), W2 = wr ∧ vk = .int .i64 κ ∧ va = .int .i64 (bnx f y m d κ) ∧ 1 ≤ κ ∧ κ ≤ cnt f y m d + 1 ∧ Yr W2 p f y m d ∧ Day W2 w.heap.size y m d ∧ Below w.heap.size w W2 ∧ w.heap.size < W2.heap.size) (fun _ vk _ => (cnt f y m d + 1 - intOf vk).toNat)
  case atStart => exact ⟨_, 1, rfl, rfl, by rw [bnx_in (by omega), HP1.out], by omega, by omega, Y3, D3, B3, hz3⟩
  case round =>
    obtain ⟨W2, κ, rfl, rfl, rfl, hk1, hk2, Y4, D4, B4, hz4⟩ := hrel
    by_cases hgo : κ ≤ cnt f y m d
    · have hat := bnx_in hgo
      obtain ⟨⟨d1, d2⟩, ⟨d3, d4⟩, d5, d6⟩ := HPD.out κ hk1 hgo
      obtain ⟨g1, g2, g3⟩ := HPE.out κ hk1 hgo
      have hra := rnumber_yes _ _ _ d1
      have hrb := rnumber_yes _ _ _ d3
      rw [d2] at hra
      rw [d4] at hrb
      have hnx := Lib.hid (bnx_next hgo)
      have hia := fun W Y => HIX.out p W Y κ (pb f y m d κ) hk1 hgo (Int.le_refl _) g1
      have hib := fun W Y => HIX.out p W Y κ (pe f y m d κ) hk1 hgo g1 (Int.le_refl _)
      have hsp := fun W Y => HSP.out p W Y κ hk1 hgo
      have hct := fun W Y => HC.out p W Y
      rw [hat]
      clear d1 d2 d3 d4 hat
      generalize yOf (pb f y m d κ) = u1 at *
      generalize mOf (pb f y m d κ) = u2 at *
      generalize dOf (pb f y m d κ) = u3 at *
      generalize yOf (pe f y m d κ) = u4 at *
      generalize mOf (pe f y m d κ) = u5 at *
      generalize dOf (pe f y m d κ) = u6 at *
      generalize pb f y m d κ = na at *
      generalize pe f y m d κ = nb at *
      go_wp2_with (fail)
      refine (hct _ Y4).mono ?_
      rintro e w5 ⟨rfl, hb⟩
      have B5 := below_step B4 hb B4.size
      have Y5 := Y4.below hb
      have D5 := D4.below hb hz4
      have hz5 : w.heap.size < w5.heap.size := by have := hb.size; omega
      clear hb B4 Y4 D4
      go_wp2_with (fail)
      refine (hsp _ Y5).mono ?_
      rintro e w6 ⟨rfl, hb⟩
      have B6 := below_step B5 hb B5.size
      have Y6 := Y5.below hb
      have D6 := D5.below hb hz5
      have hz6 : w.heap.size < w6.heap.size := by have := hb.size; omega
      clear hb B5 Y5 D5
      have Q6 := qs_new w w6 p f y m d u1 u2 u3 u4 u5 u6 33 33 Y6 D6 B6 hz6
      have Q7 := Q6.step (Below.refl _ _).drew
      clear Q6
      go_wp2
      go_region_held3 (fun W => W.cell? ⟨w6.heap.size, 0, none⟩ = some (.int .i64 u1) ∧ W.cell? ⟨w6.heap.size, 1, none⟩ = some (.int .i64 u2) ∧ W.cell? ⟨w6.heap.size, 2, none⟩ = some (.int .i64 u3) ∧ W.cell? ⟨w6.heap.size + 1, 0, none⟩ = some (.int .i64 u4) ∧ W.cell? ⟨w6.heap.size + 1, 1, none⟩ = some (.int .i64 u5) ∧ W.cell? ⟨w6.heap.size + 1, 2, none⟩ = some (.int .i64 u6) ∧ QR w w6.heap.size p f y m d W)
        ((first | exact Q7 | exact QS.step hb (by assumption)))
        (first
          | (go_at_call 27; (with_reducible refine (hra _).mono ?_); rintro e w7 ⟨rfl, hb⟩)
          | (go_at_call 27; (with_reducible refine (hrb _).mono ?_); rintro e w7 ⟨rfl, hb⟩))
      rename_i hH
      have Q8 : QS w w6.heap.size p f y m d u1 u2 u3 u4 u5 u6 w7 := hH
      clear hH hb Q7
      obtain ⟨t0, t1, t2, t3, t4, t5, Y8, D8, B8, z8, hz8⟩ := id Q8
      go_wp2_with (fail)
      refine (hia _ Y8).mono ?_
      rintro e w8 ⟨rfl, hb⟩
      have Q9 := Q8.step hb
      clear hb Q8 t0 t1 t2 t3 t4 t5 Y8 D8 B8 z8 hz8
      obtain ⟨t0, t1, t2, t3, t4, t5, Y8, D8, B8, z8, hz8⟩ := id Q9
      go_wp2_with (fail)
      refine (hib _ Y8).mono ?_
      rintro e w9 ⟨rfl, hb⟩
      have Q10 := Q9.step hb
      clear hb Q9 t0 t1 t2 t3 t4 t5 Y8 D8 B8 z8 hz8
      obtain ⟨t0, t1, t2, t3, t4, t5, Y8, D8, B8, z8, hz8⟩ := Q10
      go_wp2
      go_roundw
      case rel => exact ⟨_, κ + 1, rfl, rfl, by rw [hnx.out], by omega, by omega, Y8, D8, B8, hz8⟩
      case measure => simp [intOf]; omega
    · have hat := bnx_out hgo
      rw [hat]
      clear hat
      go_wp2_with (fail)
      refine (HC.out p _ Y4).mono ?_
      rintro e w5 ⟨rfl, hb⟩
      have B5 := below_step B4 hb B4.size
      have Y5 := Y4.below hb
      have D5 := D4.below hb hz4
      have hz5 : w.heap.size < w5.heap.size := by have := hb.size; omega
      clear hb B4 Y4 D4
      go_wp2_with (fail)
      refine (HEN.out p _ Y5).mono ?_
      rintro e w6 ⟨rfl, hb⟩
      have B6 := below_step B5 hb B5.size
      have Y6 := Y5.below hb
      have D6 := D5.below hb hz5
      have hz6 : w.heap.size < w6.heap.size := by have := hb.size; omega
      clear hb B5 Y5 D5
      go_wp2_with (fail)
      refine (HRE.out _).mono ?_
      rintro e w7 ⟨rfl, hb⟩
      have B7 := below_step B6 hb B6.size
      have Y7 := Y6.below hb
      have D7 := D6.below hb hz6
      have hz7 : w.heap.size < w7.heap.size := by have := hb.size; omega
      clear hb B6 Y6 D6
      clear HC HEN HRE hgo
      by_cases q1 : day < 0
      · go_wp2
        go_ret
        exact ⟨rfl, B7⟩
      by_cases q2 : 400 < day
      · go_wp2
        go_ret
        exact ⟨rfl, B7⟩
      obtain ⟨s0, s1', s2'⟩ := id D7
      go_wp2_with (fail)
      refine (hrs _).mono ?_
      rintro e w8 ⟨rfl, hb⟩
      have B8 := below_step B7 hb B7.size
      have Y8 := Y7.below hb
      have D8 := D7.below hb hz7
      have hz8 : w.heap.size < w8.heap.size := by have := hb.size; omega
      clear hb
      by_cases q3 : 109573 ≤ num y m d + day
      · have hof := rof_far (num y m d + day) q3 (by omega)
        go_wp2_with (fail)
        (with_reducible refine (hof _).mono ?_)
        rintro e w9 ⟨rfl, hb⟩
        have B9 := below_step B8 hb B8.size
        go_wp2
        go_ret
        exact ⟨rfl, B9.alloc B9.size _⟩
      have hof := rof_yes (num y m d + day) (by omega) (by omega)
      obtain ⟨o1, o2⟩ := of_bd (num y m d + day) (by omega) (by omega)
      have hrn := rnumber_yes _ _ _ o1
      rw [o2] at hrn
      have hN : num y m d ≤ num y m d + day := by omega
      have hNb : num y m d + day < 109573 := by omega
      have hN0 : 0 ≤ num y m d + day := by omega
      have HO := Lib.hid (And.intro o1 o2)
      clear o1 o2
      generalize yOf (num y m d + day) = r1x at *
      generalize mOf (num y m d + day) = r2x at *
      generalize dOf (num y m d + day) = r3x at *
      go_wp2_with (fail)
      (with_reducible refine (hof _).mono ?_)
      rintro e w9 ⟨rfl, hb⟩
      have B9 := below_step B8 hb B8.size
      have Y9 := Y8.below hb
      clear hb
      have hb : Below w9.heap.size w9 (w9.alloc (.cells #[.int .i64 r1x, .int .i64 r2x, .int .i64 r3x] 33)) := (Below.refl _ _).alloc (Nat.le_refl _) _
      have D10 := day_new w9 r1x r2x r3x 33
      have B10 := below_step B9 hb B9.size
      have Y10 := Y9.below hb
      have hz10 : w9.heap.size < (w9.alloc (.cells #[.int .i64 r1x, .int .i64 r2x, .int .i64 r3x] 33)).heap.size := by simp
      clear hb hof
      by_cases q4 : num y m d + day ≤ yend y m d
      · have hix := index_in p f y m d r1x r2x r3x _ Y10 HH.out HO.out.1 hf hf' (by rw [HO.out.2]; omega) (by rw [HO.out.2]; omega)
        rw [HO.out.2] at hix
        obtain ⟨r0, r1, r2⟩ := id D10
        go_wp2_with (fail)
        refine hix.mono ?_
        rintro e w11 ⟨k, k1, k2, k3, k4, rfl, hb⟩
        have B11 := below_step B10 hb B10.size
        have Y11 := Y10.below hb
        have D11 := D10.below hb hz10
        have hz11 : w9.heap.size < w11.heap.size := by have := hb.size; omega
        clear hb r0 r1 r2 hix
        obtain ⟨r0, r1, r2⟩ := id D11
        go_wp2_with (fail)
        refine (hrn _).mono ?_
        rintro e w12 ⟨rfl, hb⟩
        have B12 := below_step B11 hb B11.size
        have Y12 := Y11.below hb
        have D12 := D11.below hb hz11
        have hz12 : w9.heap.size < w12.heap.size := by have := hb.size; omega
        clear hb r0 r1 r2 B11 Y11 D11 D10 Y10 B10
        have hsp := HSP.out p _ Y12 k k1 k2
        obtain ⟨⟨d1, d2⟩, ⟨d3, d4⟩, d5, d6⟩ := HPD.out k k1 k2
        have hca := compare_int (yOf (pb f y m d k)) (mOf (pb f y m d k)) (dOf (pb f y m d k)) r1x r2x r3x
        have hcc := compare_int r1x r2x r3x (yOf (pe f y m d k)) (mOf (pe f y m d k)) (dOf (pe f y m d k))
        have v1 : cmp3 (yOf (pb f y m d k)) (mOf (pb f y m d k)) (dOf (pb f y m d k)) r1x r2x r3x ≤ 0 := by
          rcases cmp3_cases _ _ _ _ _ _ d1 HO.out.1 with ⟨e, l⟩ | ⟨e, l⟩ | ⟨e, l, _⟩
          · rw [e]; omega
          · rw [d2, HO.out.2] at l; omega
          · rw [e]; omega
        have v2 : cmp3 r1x r2x r3x (yOf (pe f y m d k)) (mOf (pe f y m d k)) (dOf (pe f y m d k)) ≤ 0 := by
          rcases cmp3_cases _ _ _ _ _ _ HO.out.1 d3 with ⟨e, l⟩ | ⟨e, l⟩ | ⟨e, l, _⟩
          · rw [e]; omega
          · rw [d4, HO.out.2] at l; omega
          · rw [e]; omega
        clear d1 d2 d3 d4 d5 d6 k3 k4
        generalize cmp3 (yOf (pb f y m d k)) (mOf (pb f y m d k)) (dOf (pb f y m d k)) r1x r2x r3x = x1 at *
        generalize cmp3 r1x r2x r3x (yOf (pe f y m d k)) (mOf (pe f y m d k)) (dOf (pe f y m d k)) = x2 at *
        generalize yOf (pb f y m d k) = u1 at *
        generalize mOf (pb f y m d k) = u2 at *
        generalize dOf (pb f y m d k) = u3 at *
        generalize yOf (pe f y m d k) = u4 at *
        generalize mOf (pe f y m d k) = u5 at *
        generalize dOf (pe f y m d k) = u6 at *
        go_wp2_with (fail)
        refine hsp.mono ?_
        rintro e w13 ⟨rfl, hb⟩
        have B13 := below_step B12 hb B12.size
        have D13 := D12.below hb hz12
        have hz13 : w9.heap.size < w13.heap.size := by have := hb.size; omega
        have T14 := box2_new w13 u1 u2 u3 u4 u5 u6 33 33
        have hb2 := two_base w13 #[.int .i64 u1, .int .i64 u2, .int .i64 u3] #[.int .i64 u4, .int .i64 u5, .int .i64 u6] 33 33
        have D14 := D13.below hb2 hz13
        have B14 := below_step B13 hb2 B13.size
        have hz14 : w9.heap.size < ((w13.alloc (.cells #[.int .i64 u1, .int .i64 u2, .int .i64 u3] 33)).alloc (.cells #[.int .i64 u4, .int .i64 u5, .int .i64 u6] 33)).heap.size := by have := hb2.size; omega
        clear hb hb2 hsp B12 Y12 D12 B13 D13
        obtain ⟨r0, r1, r2⟩ := id D14
        obtain ⟨⟨t0, t1, t2⟩, ⟨t3, t4, t5⟩, tz⟩ := id T14
        go_wp2_with (fail)
        refine (hca _).mono ?_
        rintro e w15 ⟨rfl, hb⟩
        have B15 := below_step B14 hb B14.size
        have D15 := D14.below hb hz14
        have T15 := T14.below hb
        clear hb B14 D14 T14 r0 r1 r2 t0 t1 t2 t3 t4 t5
        obtain ⟨r0, r1, r2⟩ := id D15
        obtain ⟨⟨t0, t1, t2⟩, ⟨t3, t4, t5⟩, tz'⟩ := id T15
        go_wp2_with (fail)
        refine (hcc _).mono ?_
        rintro e w16 ⟨rfl, hb⟩
        have B16 := below_step B15 hb B15.size
        clear hb
        go_wp2
        go_ret
        exact ⟨rfl, B16⟩
      · have hix := index_late p f y m d r1x r2x r3x _ Y10 HH.out HO.out.1 (by rw [HO.out.2]; omega)
        obtain ⟨r0, r1, r2⟩ := id D10
        go_wp2_with (fail)
        refine hix.mono ?_
        rintro e w11 ⟨rfl, hb⟩
        have B11 := below_step B10 hb B10.size
        have D11 := D10.below hb hz10
        clear hb r0 r1 r2 hix
        obtain ⟨r0, r1, r2⟩ := id D11
        go_wp2_with (fail)
        refine (hrn _).mono ?_
        rintro e w12 ⟨rfl, hb⟩
        have B12 := below_step B11 hb B11.size
        clear hb
        go_wp2
        go_ret
        exact ⟨rfl, B12⟩
theorem wPeriodCovers (f y m d day : Int) (W : World) (hK : Kinds W) : Calls Tryd.prog 12 #[.int .i64 f, .agg #[.int .i64 y, .int .i64 m, .int .i64 d], .int .i64 day] W fun e w' => e = .returned (.bool true) ∧ Below W.heap.size W w' := by
  by_cases hf : 1 ≤ f ∧ f ≤ 4
  · cases h : yrB y m d
    · exact covers_nil f y m d day 30 W hK (new_date f y m d hf.1 hf.2 h)
    · exact covers_yes f y m d day W hK hf.1 hf.2 h
  · exact covers_nil f y m d day 40 W hK (new_freq f y m d (by omega))

end Go.Proofs.YtnpkpjnkbajnjaaDoor
