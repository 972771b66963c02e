/- What year.New, Count, Totals, Slip, stretch answer. -/
import Derived.Test.YtfnjhalpedccaaaYrJ
namespace Go.Proofs.Ytfnjhalpedccaaa
open Go.RowKit Go.Sort
set_option linter.unusedVariables false
set_option linter.unusedSimpArgs false

def newF (w w' : World) (q : Nat) : Prop := w.heap.size ≤ q ∧ q < w'.heap.size
theorem ynew_range (n : Int) (w : World) (h : n < 0 ∨ 64 < n) :
    Calls Try.prog 9 #[.int .i64 n] w fun e w' => e = .returned (.tuple #[.pointer none, .int .i64 1]) ∧ Below w.heap.size w w' := by
  have cS := tog_range n none 0 0 w h
  clear h
  go_enter Try.func9, Try.ntmps9
  go_wp2_with (fail)
  with_reducible refine cS.mono ?_
  rintro e w1 ⟨rfl, hb⟩
  have B := below_step hb (below_new w1 (.cells #[.int .i64 0, .int .i64 0, .int .i64 0, .int .i64 0, .int .i64 0, .slice none 0 0, .int .i64 0, .int .i64 0, .int .i64 0] 34)) hb.size
  have K := bx_new w1 [.int .i64 0, .int .i64 0, .int .i64 0, .int .i64 0, .int .i64 0, .slice none 0 0, .int .i64 0, .int .i64 0, .int .i64 0] 34
  have k_0 := K.cell (i := 0) rfl
  have k_1 := K.cell (i := 1) rfl
  have k_2 := K.cell (i := 2) rfl
  have k_3 := K.cell (i := 3) rfl
  have k_4 := K.cell (i := 4) rfl
  have k_5 := K.cell (i := 5) rfl
  have k_6 := K.cell (i := 6) rfl
  have k_7 := K.cell (i := 7) rfl
  have k_8 := K.cell (i := 8) rfl
  clear K cS hb
  go_wp2
  go_ret2
  exact ⟨rfl, B⟩
theorem ynew_ok (n : Nat) (g : Nat → Slp) (w : World) (hn : n ≤ 64) :
    Calls Try.prog 9 #[.int .i64 (n : Int)] w fun e w' => ∃ p, e = .returned (.tuple #[.pointer (some ⟨p, 0, none⟩), .int .i64 0]) ∧ YO w' p n 0 g Tot.z (newF w w') ∧ Below w.heap.size w w' := by
  have cS := tog_ok n none 0 0 g w (fun h0 => absurd h0 (Nat.lt_irrefl 0)) hn (by omega) (fun i hi => absurd hi (Nat.not_lt_zero i)) (fun i _ => by
    obtain rfl : i = 0 := by omega
    exact z_rB n)
  go_enter Try.func9, Try.ntmps9
  go_wp2_with (fail)
  with_reducible refine cS.mono ?_
  rintro e w1 ⟨b, rfl, hbl, HS, hb⟩
  have hlb := World.rowIs.lt HS
  have HS := Lib.hid (show ShB w1 b n Tot.z.X Tot.z.Y from HS)
  have N1 := below_new w1 (.cells #[.int .i64 (totG g 0).ca, .int .i64 (totG g 0).tb, .int .i64 (totG g 0).so, .int .i64 (totG g 0).tx, .int .i64 (totG g 0).sf, .slice (some ⟨b, 0, none⟩) n n, .int .i64 (totG g 0).net, .int .i64 (totG g 0).tk, .int .i64 (totG g 0).pay] 34)
  have B := below_step hb N1 hb.size
  have K := bx_new w1 [.int .i64 (totG g 0).ca, .int .i64 (totG g 0).tb, .int .i64 (totG g 0).so, .int .i64 (totG g 0).tx, .int .i64 (totG g 0).sf, .slice (some ⟨b, 0, none⟩) n n, .int .i64 (totG g 0).net, .int .i64 (totG g 0).tk, .int .i64 (totG g 0).pay] 34
  have hz1 : (w1.alloc (.cells #[.int .i64 (totG g 0).ca, .int .i64 (totG g 0).tb, .int .i64 (totG g 0).so, .int .i64 (totG g 0).tx, .int .i64 (totG g 0).sf, .slice (some ⟨b, 0, none⟩) n n, .int .i64 (totG g 0).net, .int .i64 (totG g 0).tk, .int .i64 (totG g 0).pay] 34)).heap.size = w1.heap.size + 1 := by simp
  have k_0 := K.cell (i := 0) rfl
  have k_1 := K.cell (i := 1) rfl
  have k_2 := K.cell (i := 2) rfl
  have k_3 := K.cell (i := 3) rfl
  have k_4 := K.cell (i := 4) rfl
  have k_5 := K.cell (i := 5) rfl
  have k_6 := K.cell (i := 6) rfl
  have k_7 := K.cell (i := 7) rfl
  have k_8 := K.cell (i := 8) rfl
  have N2 := below_new (w1.alloc (.cells #[.int .i64 (totG g 0).ca, .int .i64 (totG g 0).tb, .int .i64 (totG g 0).so, .int .i64 (totG g 0).tx, .int .i64 (totG g 0).sf, .slice (some ⟨b, 0, none⟩) n n, .int .i64 (totG g 0).net, .int .i64 (totG g 0).tk, .int .i64 (totG g 0).pay] 34)) (.cells #[.slice none 0 0, .int .i64 (totG g 0).ca, .int .i64 (totG g 0).tb, .int .i64 (totG g 0).so, .int .i64 (totG g 0).tx, .int .i64 (totG g 0).sf, .slice (some ⟨b, 0, none⟩) n n, .int .i64 (totG g 0).net, .int .i64 (totG g 0).tk, .int .i64 (totG g 0).pay] 86)
  have B2 := below_step B N2 B.size
  have KY := bx_at (w1.alloc (.cells #[.int .i64 (totG g 0).ca, .int .i64 (totG g 0).tb, .int .i64 (totG g 0).so, .int .i64 (totG g 0).tx, .int .i64 (totG g 0).sf, .slice (some ⟨b, 0, none⟩) n n, .int .i64 (totG g 0).net, .int .i64 (totG g 0).tk, .int .i64 (totG g 0).pay] 34)) [.slice none 0 0, .int .i64 (totG g 0).ca, .int .i64 (totG g 0).tb, .int .i64 (totG g 0).so, .int .i64 (totG g 0).tx, .int .i64 (totG g 0).sf, .slice (some ⟨b, 0, none⟩) n n, .int .i64 (totG g 0).net, .int .i64 (totG g 0).tk, .int .i64 (totG g 0).pay] 86 (n := w1.heap.size + 1) (by simp)
  have hsz : ((w1.alloc (.cells #[.int .i64 (totG g 0).ca, .int .i64 (totG g 0).tb, .int .i64 (totG g 0).so, .int .i64 (totG g 0).tx, .int .i64 (totG g 0).sf, .slice (some ⟨b, 0, none⟩) n n, .int .i64 (totG g 0).net, .int .i64 (totG g 0).tk, .int .i64 (totG g 0).pay] 34)).alloc (.cells #[.slice none 0 0, .int .i64 (totG g 0).ca, .int .i64 (totG g 0).tb, .int .i64 (totG g 0).so, .int .i64 (totG g 0).tx, .int .i64 (totG g 0).sf, .slice (some ⟨b, 0, none⟩) n n, .int .i64 (totG g 0).net, .int .i64 (totG g 0).tk, .int .i64 (totG g 0).pay] 86)).heap.size = w1.heap.size + 1 + 1 := by simp
  have HS2 := ((HS.out.below N1).below N2).shs
  have hY : Hid (YO ((w1.alloc (.cells #[.int .i64 (totG g 0).ca, .int .i64 (totG g 0).tb, .int .i64 (totG g 0).so, .int .i64 (totG g 0).tx, .int .i64 (totG g 0).sf, .slice (some ⟨b, 0, none⟩) n n, .int .i64 (totG g 0).net, .int .i64 (totG g 0).tk, .int .i64 (totG g 0).pay] 34)).alloc (.cells #[.slice none 0 0, .int .i64 (totG g 0).ca, .int .i64 (totG g 0).tb, .int .i64 (totG g 0).so, .int .i64 (totG g 0).tx, .int .i64 (totG g 0).sf, .slice (some ⟨b, 0, none⟩) n n, .int .i64 (totG g 0).net, .int .i64 (totG g 0).tk, .int .i64 (totG g 0).pay] 86)) (w1.heap.size + 1) n 0 g Tot.z (newF w ((w1.alloc (.cells #[.int .i64 (totG g 0).ca, .int .i64 (totG g 0).tb, .int .i64 (totG g 0).so, .int .i64 (totG g 0).tx, .int .i64 (totG g 0).sf, .slice (some ⟨b, 0, none⟩) n n, .int .i64 (totG g 0).net, .int .i64 (totG g 0).tk, .int .i64 (totG g 0).pay] 34)).alloc (.cells #[.slice none 0 0, .int .i64 (totG g 0).ca, .int .i64 (totG g 0).tb, .int .i64 (totG g 0).so, .int .i64 (totG g 0).tx, .int .i64 (totG g 0).sf, .slice (some ⟨b, 0, none⟩) n n, .int .i64 (totG g 0).net, .int .i64 (totG g 0).tk, .int .i64 (totG g 0).pay] 86)))) := Lib.hid ⟨none, 0, some ⟨b, 0, none⟩, n, {
    K := KY
    S := HS2
    sB := fun e => nomatch e
    O := World.ownsRow_nil _ _ _ _
    M := fun i hi => absurd hi (Nat.not_lt_zero i)
    lt := fun q h => h.2
    fp := ⟨by have := hb.size; omega, by rw [hsz]; omega⟩
    fB := fun q h => by
      obtain rfl : b = q := by simpa [atB] using h
      exact ⟨hbl, by rw [hsz]; omega⟩
    fA := fun q h => nomatch h
    fg := fun i hi => absurd hi (Nat.not_lt_zero i)
    dB := fun h => by
      have : b = w1.heap.size + 1 := by simpa [atB] using h
      omega
    dA := fun h => nomatch h
    dAB := fun q h => nomatch h
    dg := fun i hi => absurd hi (Nat.not_lt_zero i) }⟩
  clear K KY HS HS2 N1 N2 B hb cS hz1 hsz hbl hlb
  go_wp2
  go_ret2
  exact ⟨_, rfl, hY.out, B2⟩
theorem ycount_any {W : World} {p n cnt : Nat} {g : Nat → Slp} {t : Tot} {F : Nat → Prop} (h : YO W p n cnt g t F) :
    Calls Try.prog 18 #[.pointer (some ⟨p, 0, none⟩)] W fun e w' => e = .returned (.int .i64 (cnt : Int)) ∧ W = w' := by
  obtain ⟨A, c, B, bc, h⟩ := h
  have k0 := h.K.cell (i := 0) rfl
  clear h
  go_enter Try.func18, Try.ntmps18
  go_wp2
  go_ret
  exact ⟨rfl, rfl⟩
/-- what Totals leaves -/
def YtP (t : Tot) (n : Nat) (w : World) (e : Ending) (w' : World) : Prop := ∃ A c, e = .returned (.agg #[.int .i64 t.ca, .int .i64 t.tb, .int .i64 t.so, .int .i64 t.tx, .int .i64 t.sf, .slice A n c, .int .i64 t.net, .int .i64 t.tk, .int .i64 t.pay]) ∧ w'.ownsRow w.heap.size 53 2 (.slice A n c) n (sh2 t.X t.Y n) ∧ Below w.heap.size w w'
set_option maxRecDepth 100000 in
set_option maxHeartbeats 2000000 in
theorem ytotals_any {W : World} {p n cnt : Nat} {g : Nat → Slp} {t : Tot} {F : Nat → Prop} (h : YO W p n cnt g t F) (hn : n ≤ 64) :
    Calls Try.prog 17 #[.pointer (some ⟨p, 0, none⟩)] W (YtP t n W) := by
  unfold YtP
  obtain ⟨A0, c0, B0, b0, h⟩ := h
  have hKp := h.K
  have hS := h.S
  have hsB := h.sB
  have hpl := h.K.lt
  clear h
  unfold Tot.cs at hKp
  have K0 : Bx (W.alloc (.cells #[.int .i64 0, .int .i64 0, .int .i64 0, .int .i64 0, .int .i64 0, .slice none 0 0, .int .i64 0, .int .i64 0, .int .i64 0] 34)) (W.heap.size) 34 [.int .i64 0, .int .i64 0, .int .i64 0, .int .i64 0, .int .i64 0, .slice none 0 0, .int .i64 0, .int .i64 0, .int .i64 0] := bx_new W [.int .i64 0, .int .i64 0, .int .i64 0, .int .i64 0, .int .i64 0, .slice none 0 0, .int .i64 0, .int .i64 0, .int .i64 0] 34
  have B : Below W.heap.size W (W.alloc (.cells #[.int .i64 0, .int .i64 0, .int .i64 0, .int .i64 0, .int .i64 0, .slice none 0 0, .int .i64 0, .int .i64 0, .int .i64 0] 34)) := ((Below.refl _ _).alloc (Nat.le_refl _) _)
  have k0_0 := K0.cell (i := 0) rfl
  have k0_1 := K0.cell (i := 1) rfl
  have k0_2 := K0.cell (i := 2) rfl
  have k0_3 := K0.cell (i := 3) rfl
  have k0_4 := K0.cell (i := 4) rfl
  have k0_5 := K0.cell (i := 5) rfl
  have k0_6 := K0.cell (i := 6) rfl
  have k0_7 := K0.cell (i := 7) rfl
  have k0_8 := K0.cell (i := 8) rfl
  replace hKp := hKp.below (below_new W (.cells #[.int .i64 0, .int .i64 0, .int .i64 0, .int .i64 0, .int .i64 0, .slice none 0 0, .int .i64 0, .int .i64 0, .int .i64 0] 34))
  replace hS := hS.below (below_new W (.cells #[.int .i64 0, .int .i64 0, .int .i64 0, .int .i64 0, .int .i64 0, .slice none 0 0, .int .i64 0, .int .i64 0, .int .i64 0] 34))
  have y_0 := hKp.cell (i := 0) rfl
  have y_1 := hKp.cell (i := 1) rfl
  have y_2 := hKp.cell (i := 2) rfl
  have y_3 := hKp.cell (i := 3) rfl
  have y_4 := hKp.cell (i := 4) rfl
  have y_5 := hKp.cell (i := 5) rfl
  have y_6 := hKp.cell (i := 6) rfl
  have y_7 := hKp.cell (i := 7) rfl
  have y_8 := hKp.cell (i := 8) rfl
  have y_9 := hKp.cell (i := 9) rfl
  have N2 := below_new (W.alloc (.cells #[.int .i64 0, .int .i64 0, .int .i64 0, .int .i64 0, .int .i64 0, .slice none 0 0, .int .i64 0, .int .i64 0, .int .i64 0] 34)) (.cells #[.int .i64 t.ca, .int .i64 t.tb, .int .i64 t.so, .int .i64 t.tx, .int .i64 t.sf, .slice B0 n b0, .int .i64 t.net, .int .i64 t.tk, .int .i64 t.pay] 34)
  have K1 := bx_at (W.alloc (.cells #[.int .i64 0, .int .i64 0, .int .i64 0, .int .i64 0, .int .i64 0, .slice none 0 0, .int .i64 0, .int .i64 0, .int .i64 0] 34)) [.int .i64 t.ca, .int .i64 t.tb, .int .i64 t.so, .int .i64 t.tx, .int .i64 t.sf, .slice B0 n b0, .int .i64 t.net, .int .i64 t.tk, .int .i64 t.pay] 34 (n := W.heap.size + 1) (by simp)
  have B1 := below_step B N2 B.size
  have cC := fun w h => clo2r B0 n b0 w t.X t.Y h (by omega) hsB
  have hS1 := hS.below N2
  have K01 := K0.below N2
  have x_0 := K1.cell (i := 0) rfl
  have x_1 := K1.cell (i := 1) rfl
  have x_2 := K1.cell (i := 2) rfl
  have x_3 := K1.cell (i := 3) rfl
  have x_4 := K1.cell (i := 4) rfl
  have x_5 := K1.cell (i := 5) rfl
  have x_6 := K1.cell (i := 6) rfl
  have x_7 := K1.cell (i := 7) rfl
  have x_8 := K1.cell (i := 8) rfl
  go_enter Try.func17, Try.ntmps17
  go_wp2_with (fail)
  with_reducible refine (cC _ hS1).mono ?_
  rintro e w2 ⟨v, rfl, ho, hb⟩
  obtain ⟨A, c, rfl, -, -⟩ := own_len ho
  have B2 := below_step B1 hb B1.size
  have K12 := K1.below hb
  have K02 := K01.below hb
  have hz2 : W.heap.size + 1 < w2.heap.size := K12.lt
  have u_0 := K12.cell (i := 0) rfl
  have v_0 := K02.cell (i := 0) rfl
  have f_0 := K12.fr 0
  have g_0 := K02.fr 0
  have u_1 := K12.cell (i := 1) rfl
  have v_1 := K02.cell (i := 1) rfl
  have f_1 := K12.fr 1
  have g_1 := K02.fr 1
  have u_2 := K12.cell (i := 2) rfl
  have v_2 := K02.cell (i := 2) rfl
  have f_2 := K12.fr 2
  have g_2 := K02.fr 2
  have u_3 := K12.cell (i := 3) rfl
  have v_3 := K02.cell (i := 3) rfl
  have f_3 := K12.fr 3
  have g_3 := K02.fr 3
  have u_4 := K12.cell (i := 4) rfl
  have v_4 := K02.cell (i := 4) rfl
  have f_4 := K12.fr 4
  have g_4 := K02.fr 4
  have u_5 := K12.cell (i := 5) rfl
  have v_5 := K02.cell (i := 5) rfl
  have f_5 := K12.fr 5
  have g_5 := K02.fr 5
  have u_6 := K12.cell (i := 6) rfl
  have v_6 := K02.cell (i := 6) rfl
  have f_6 := K12.fr 6
  have g_6 := K02.fr 6
  have u_7 := K12.cell (i := 7) rfl
  have v_7 := K02.cell (i := 7) rfl
  have f_7 := K12.fr 7
  have g_7 := K02.fr 7
  have u_8 := K12.cell (i := 8) rfl
  have v_8 := K02.cell (i := 8) rfl
  have f_8 := K12.fr 8
  have g_8 := K02.fr 8
  have K13 := K12.set 5 (.slice A n c)
  have K03 := K02.other (q := W.heap.size + 1) (by omega) 5 (.slice A n c)
  have B3 := B2.setCell (p := ⟨W.heap.size + 1, 5, none⟩) (by show W.heap.size ≤ W.heap.size + 1; omega) (.slice A n c)
  have O3 := Lib.hid (own_mono (own_other ho (show W.heap.size + 1 < ((W.alloc (.cells #[.int .i64 0, .int .i64 0, .int .i64 0, .int .i64 0, .int .i64 0, .slice none 0 0, .int .i64 0, .int .i64 0, .int .i64 0] 34)).alloc (.cells #[.int .i64 t.ca, .int .i64 t.tb, .int .i64 t.so, .int .i64 t.tx, .int .i64 t.sf, .slice B0 n b0, .int .i64 t.net, .int .i64 t.tk, .int .i64 t.pay] 34)).heap.size by simp) 5 (.slice A n c)) (show W.heap.size + 1 ≤ ((W.alloc (.cells #[.int .i64 0, .int .i64 0, .int .i64 0, .int .i64 0, .int .i64 0, .slice none 0 0, .int .i64 0, .int .i64 0, .int .i64 0] 34)).alloc (.cells #[.int .i64 t.ca, .int .i64 t.tb, .int .i64 t.so, .int .i64 t.tx, .int .i64 t.sf, .slice B0 n b0, .int .i64 t.net, .int .i64 t.tk, .int .i64 t.pay] 34)).heap.size by simp))
  have s_0 := K13.cell (i := 0) rfl
  have r_0 := K03.cell (i := 0) rfl
  have d_0 := K03.fr 0
  have s_1 := K13.cell (i := 1) rfl
  have r_1 := K03.cell (i := 1) rfl
  have d_1 := K03.fr 1
  have s_2 := K13.cell (i := 2) rfl
  have r_2 := K03.cell (i := 2) rfl
  have d_2 := K03.fr 2
  have s_3 := K13.cell (i := 3) rfl
  have r_3 := K03.cell (i := 3) rfl
  have d_3 := K03.fr 3
  have s_4 := K13.cell (i := 4) rfl
  have r_4 := K03.cell (i := 4) rfl
  have d_4 := K03.fr 4
  have s_5 := K13.cell (i := 5) rfl
  have r_5 := K03.cell (i := 5) rfl
  have d_5 := K03.fr 5
  have s_6 := K13.cell (i := 6) rfl
  have r_6 := K03.cell (i := 6) rfl
  have d_6 := K03.fr 6
  have s_7 := K13.cell (i := 7) rfl
  have r_7 := K03.cell (i := 7) rfl
  have d_7 := K03.fr 7
  have s_8 := K13.cell (i := 8) rfl
  have r_8 := K03.cell (i := 8) rfl
  have d_8 := K03.fr 8
  have Z := stAll_self K03 [.int .i64 t.ca, .int .i64 t.tb, .int .i64 t.so, .int .i64 t.tx, .int .i64 t.sf, .slice A n c, .int .i64 t.net, .int .i64 t.tk, .int .i64 t.pay] rfl
  have z_0 := Z.cell (i := 0) rfl
  have z_1 := Z.cell (i := 1) rfl
  have z_2 := Z.cell (i := 2) rfl
  have z_3 := Z.cell (i := 3) rfl
  have z_4 := Z.cell (i := 4) rfl
  have z_5 := Z.cell (i := 5) rfl
  have z_6 := Z.cell (i := 6) rfl
  have z_7 := Z.cell (i := 7) rfl
  have z_8 := Z.cell (i := 8) rfl
  have BZ := stAll_below (p := W.heap.size) (Nat.le_refl _) [.int .i64 t.ca, .int .i64 t.tb, .int .i64 t.so, .int .i64 t.tx, .int .i64 t.sf, .slice A n c, .int .i64 t.net, .int .i64 t.tk, .int .i64 t.pay] (w2.setCell ⟨W.heap.size + 1, 5, none⟩ (.slice A n c)) 0 B3
  have OZ := Lib.hid (own_blk O3.out (w' := stAll (w2.setCell ⟨W.heap.size + 1, 5, none⟩ (.slice A n c)) W.heap.size 0 [.int .i64 t.ca, .int .i64 t.tb, .int .i64 t.so, .int .i64 t.tx, .int .i64 t.sf, .slice A n c, .int .i64 t.net, .int .i64 t.tk, .int .i64 t.pay]) (fun q hq => stAll_blk (by have := (O3.out.lt q hq).1; omega) _ _ _))
  clear K0 K1 K01 K12 K02 K13 K03 B B1 B2 B3 O3 ho hb hS hS1 N2 hKp Z cC
  clear y_0 x_0 k0_0 y_1 x_1 k0_1 y_2 x_2 k0_2 y_3 x_3 k0_3 y_4 x_4 k0_4 y_5 x_5 k0_5 y_6 x_6 k0_6 y_7 x_7 k0_7 y_8 x_8 k0_8 y_9
  go_wp2
  exact bodyPost_ret (v := .agg #[.int .i64 t.ca, .int .i64 t.tb, .int .i64 t.so, .int .i64 t.tx, .int .i64 t.sf, .slice A n c, .int .i64 t.net, .int .i64 t.tk, .int .i64 t.pay]) (by simp [results, Try.results17, go_sem, stAll] at z_0 z_1 z_2 z_3 z_4 z_5 z_6 z_7 z_8 ⊢; simp [results, Try.results17, go_sem, z_0, z_1, z_2, z_3, z_4, z_5, z_6, z_7, z_8]) rfl ⟨A, c, rfl, own_mono OZ.out (by omega), BZ⟩
end Go.Proofs.Ytfnjhalpedccaaa
