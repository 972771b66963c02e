/- What year.stretch, Upto answer. -/
import Derived.Test.YtfnjhalpedccaaaYrL
import Derived.Deep.RegionWith
import Derived.WalkMore
namespace Go.Proofs.Ytfnjhalpedccaaa
open Go.RowKit Go.Sort
set_option linter.unusedVariables false
set_option linter.unusedSimpArgs false

theorem stretch_any {W : World} {p n cnt : Nat} {g : Nat → Slp} {t : Tot} {F : Nat → Prop} (h : YO W p n cnt g t F) (k : Nat) (hk : k ≤ cnt) (hcnt : cnt ≤ 1000) :
    Calls Try.prog 46 #[.pointer (some ⟨p, 0, none⟩), .int .i64 0, .int .i64 (k : Int)] W fun e w' => ∃ A c, e = .returned (.slice A k c) ∧ Sls W A k g ∧ W = w' := by
  obtain ⟨A, c, y0, hSl, hA0, hcc⟩ := h.sls
  have hkk := Lib.hid (show Sls W A k g from fun h0 => by
    obtain ⟨b, o, e, hc⟩ := hSl (by omega)
    exact ⟨b, o, e, fun i hi => hc i (by omega)⟩)
  have b0 : (k : Int) ≤ (cnt : Int) := by omega
  have b1 : (k : Int) ≤ (c : Int) := by omega
  have b2 : (0 : Int) ≤ (k : Int) := by omega
  cases A with
  | none =>
    have h0 : cnt = 0 := by
      rcases Nat.eq_zero_or_pos cnt with e | e
      · exact e
      · obtain ⟨b, hb⟩ := hA0 e
        cases hb
    subst h0
    obtain rfl : k = 0 := by omega
    clear hSl hA0 h
    go_enter Try.func46, Try.ntmps46
    go_wp2
    go_ret
    exact ⟨_, _, rfl, hkk.out, rfl⟩
  | some a =>
    clear hSl hA0 h
    go_enter Try.func46, Try.ntmps46
    go_wp2
    go_ret
    exact ⟨_, _, rfl, hkk.out, rfl⟩
set_option maxRecDepth 100000 in
set_option maxHeartbeats 4000000 in
theorem yupto_no1 {W : World} {p n cnt : Nat} {g : Nat → Slp} {t : Tot} {F : Nat → Prop} (h : YO W p n cnt g t F) (k : Int) (hk : k < 0) :
    Calls Try.prog 19 #[.pointer (some ⟨p, 0, none⟩), .int .i64 k] W fun e w' => e = .returned (.tuple #[.agg #[.int .i64 0, .int .i64 0, .int .i64 0, .int .i64 0, .int .i64 0, .slice none 0 0, .int .i64 0, .int .i64 0, .int .i64 0], .int .i64 3]) ∧ Below W.heap.size W w' := by
  have K := bx_new W [.int .i64 0, .int .i64 0, .int .i64 0, .int .i64 0, .int .i64 0, .slice none 0 0, .int .i64 0, .int .i64 0, .int .i64 0] 34
  have B := below_new W (.cells #[.int .i64 0, .int .i64 0, .int .i64 0, .int .i64 0, .int .i64 0, .slice none 0 0, .int .i64 0, .int .i64 0, .int .i64 0] 34)
  have b1 : k < 0 := hk
  clear hk h
  have k_0 := K.cell (i := 0) rfl
  have g_0 := K.fr 0
  have k_1 := K.cell (i := 1) rfl
  have g_1 := K.fr 1
  have k_2 := K.cell (i := 2) rfl
  have g_2 := K.fr 2
  have k_3 := K.cell (i := 3) rfl
  have g_3 := K.fr 3
  have k_4 := K.cell (i := 4) rfl
  have g_4 := K.fr 4
  have k_5 := K.cell (i := 5) rfl
  have g_5 := K.fr 5
  have k_6 := K.cell (i := 6) rfl
  have g_6 := K.fr 6
  have k_7 := K.cell (i := 7) rfl
  have g_7 := K.fr 7
  have k_8 := K.cell (i := 8) rfl
  have g_8 := K.fr 8
  clear K
  go_enter Try.func19, Try.ntmps19
  go_wp2
  exact bodyPost_ret (v := .tuple #[.agg #[.int .i64 0, .int .i64 0, .int .i64 0, .int .i64 0, .int .i64 0, .slice none 0 0, .int .i64 0, .int .i64 0, .int .i64 0], .int .i64 3]) (by simp [results, Try.results19, go_sem, k_0, k_1, k_2, k_3, k_4, k_5, k_6, k_7, k_8]) rfl ⟨rfl, B⟩
set_option maxRecDepth 100000 in
set_option maxHeartbeats 4000000 in
theorem yupto_no2 {W : World} {p n cnt : Nat} {g : Nat → Slp} {t : Tot} {F : Nat → Prop} (h : YO W p n cnt g t F) (k : Int) (hk : ¬ k < 0 ∧ (cnt : Int) < k) :
    Calls Try.prog 19 #[.pointer (some ⟨p, 0, none⟩), .int .i64 k] W fun e w' => e = .returned (.tuple #[.agg #[.int .i64 0, .int .i64 0, .int .i64 0, .int .i64 0, .int .i64 0, .slice none 0 0, .int .i64 0, .int .i64 0, .int .i64 0], .int .i64 3]) ∧ Below W.heap.size W w' := by
  have K := bx_new W [.int .i64 0, .int .i64 0, .int .i64 0, .int .i64 0, .int .i64 0, .slice none 0 0, .int .i64 0, .int .i64 0, .int .i64 0] 34
  have B := below_new W (.cells #[.int .i64 0, .int .i64 0, .int .i64 0, .int .i64 0, .int .i64 0, .slice none 0 0, .int .i64 0, .int .i64 0, .int .i64 0] 34)
  have b1 : ¬ k < 0 := hk.1
  have b2 : (cnt : Int) < k := hk.2
  have cC := ycount_any (h.below B)
  clear hk h
  go_enter Try.func19, Try.ntmps19
  go_wp2_with (fail)
  with_reducible refine cC.mono ?_
  rintro e w1 ⟨rfl, rfl⟩
  have k_0 := K.cell (i := 0) rfl
  have g_0 := K.fr 0
  have k_1 := K.cell (i := 1) rfl
  have g_1 := K.fr 1
  have k_2 := K.cell (i := 2) rfl
  have g_2 := K.fr 2
  have k_3 := K.cell (i := 3) rfl
  have g_3 := K.fr 3
  have k_4 := K.cell (i := 4) rfl
  have g_4 := K.fr 4
  have k_5 := K.cell (i := 5) rfl
  have g_5 := K.fr 5
  have k_6 := K.cell (i := 6) rfl
  have g_6 := K.fr 6
  have k_7 := K.cell (i := 7) rfl
  have g_7 := K.fr 7
  have k_8 := K.cell (i := 8) rfl
  have g_8 := K.fr 8
  clear K cC
  go_wp2
  exact bodyPost_ret (v := .tuple #[.agg #[.int .i64 0, .int .i64 0, .int .i64 0, .int .i64 0, .int .i64 0, .slice none 0 0, .int .i64 0, .int .i64 0, .int .i64 0], .int .i64 3]) (by simp [results, Try.results19, go_sem, k_0, k_1, k_2, k_3, k_4, k_5, k_6, k_7, k_8]) rfl ⟨rfl, B⟩
set_option maxRecDepth 100000 in
set_option maxHeartbeats 4000000 in
theorem yupto_ok {W : World} {p n cnt : Nat} {g : Nat → Slp} {t : Tot} {F : Nat → Prop} (h : YO W p n cnt g t F) (hn : n ≤ 64) (hcnt : cnt ≤ 1000) (hg : ∀ i, i < cnt → (g i).OK n ∧ (g i).m ≤ 100000) (ht : ∀ i, i ≤ cnt → (totG g i).rB n = true) (k : Nat) (hk : k ≤ cnt) :
    Calls Try.prog 19 #[.pointer (some ⟨p, 0, none⟩), .int .i64 (k : Int)] W (TogP (totG g k) n W) := by
  unfold TogP
  have b1 : ¬ (k : Int) < 0 := by omega
  have b2 : ¬ (cnt : Int) < (k : Int) := by omega
  have K := bx_new W [.int .i64 0, .int .i64 0, .int .i64 0, .int .i64 0, .int .i64 0, .slice none 0 0, .int .i64 0, .int .i64 0, .int .i64 0] 34
  have B := below_new W (.cells #[.int .i64 0, .int .i64 0, .int .i64 0, .int .i64 0, .int .i64 0, .slice none 0 0, .int .i64 0, .int .i64 0, .int .i64 0] 34)
  have h1 := h.below B
  have cC := ycount_any h1
  generalize hWW : W.alloc (.cells #[.int .i64 0, .int .i64 0, .int .i64 0, .int .i64 0, .int .i64 0, .slice none 0 0, .int .i64 0, .int .i64 0, .int .i64 0] 34) = w1 at *
  have hz1 : W.heap.size < w1.heap.size := by rw [← hWW]; simp
  have hdd : Below w1.heap.size w1 w1.drew := (Below.refl _ _).drew
  have h2 := h1.below hdd
  have cS := stretch_any h2 k hk hcnt
  have cT := fun A c hA => tog_ok n A k c g w1.drew hA hn (by omega) (fun i hi => hg i (by omega)) (fun i hi => ht i (by omega))
  unfold TogP at cT
  obtain ⟨B6, b6, y6, hpl⟩ := h1.len
  obtain ⟨B6', b6', y6', _⟩ := h2.len
  have y6'' : w1.drew.cell? ⟨p, 6, none⟩ = some (.slice B6 n b6) := y6
  have Kd := K.below hdd
  have Bd := below_step B hdd B.size
  clear h h1 h2 hg ht y6' 
  go_enter Try.func19, Try.ntmps19
  go_wp2_with (fail)
  clear hWW
  with_reducible refine cC.mono ?_
  rintro e w1' ⟨rfl, rfl⟩
  go_wp2_with (fail)
  go_region_with (first
    | (go_at_call 46; refine cS.mono ?_; rintro e w7 ⟨A7, c7, rfl, hS7, rfl⟩)
    | (go_at_call 38; refine (cT _ _ hS7).mono ?_; rintro e w8 ⟨b, rfl, hbl, HS, hb⟩; have K8 := Kd.below hb; have B8 := below_step Bd hb Bd.size; have k_0 := K8.cell (i := 0) rfl; have g_0 := K8.fr 0; have k_1 := K8.cell (i := 1) rfl; have g_1 := K8.fr 1; have k_2 := K8.cell (i := 2) rfl; have g_2 := K8.fr 2; have k_3 := K8.cell (i := 3) rfl; have g_3 := K8.fr 3; have k_4 := K8.cell (i := 4) rfl; have g_4 := K8.fr 4; have k_5 := K8.cell (i := 5) rfl; have g_5 := K8.fr 5; have k_6 := K8.cell (i := 6) rfl; have g_6 := K8.fr 6; have k_7 := K8.cell (i := 7) rfl; have g_7 := K8.fr 7; have k_8 := K8.cell (i := 8) rfl; have g_8 := K8.fr 8))
  all_goals
    have HZ := Lib.hid (show ShB (stAll w8 W.heap.size 0 [.int .i64 (totG g k).ca, .int .i64 (totG g k).tb, .int .i64 (totG g k).so, .int .i64 (totG g k).tx, .int .i64 (totG g k).sf, .slice (some ⟨b, 0, none⟩) n n, .int .i64 (totG g k).net, .int .i64 (totG g k).tk, .int .i64 (totG g k).pay]) b n (totG g k).X (totG g k).Y from stAll_sh HS (p := W.heap.size) (by have : w1.drew.heap.size = w1.heap.size := rfl; omega) _ _)
    have hbw : W.heap.size ≤ b := by have : w1.drew.heap.size = w1.heap.size := rfl; omega
    have Z := (((((((((K8.set 0 (.int .i64 (totG g k).ca)).set 1 (.int .i64 (totG g k).tb)).set 2 (.int .i64 (totG g k).so)).set 3 (.int .i64 (totG g k).tx)).set 4 (.int .i64 (totG g k).sf)).set 5 (.slice (some ⟨b, 0, none⟩) n n)).set 6 (.int .i64 (totG g k).net)).set 7 (.int .i64 (totG g k).tk)).set 8 (.int .i64 (totG g k).pay))
    have z_0 := Z.cell (i := 0) rfl
    have z_1 := Z.cell (i := 1) rfl
    have z_2 := Z.cell (i := 2) rfl
    have z_3 := Z.cell (i := 3) rfl
    have z_4 := Z.cell (i := 4) rfl
    have z_5 := Z.cell (i := 5) rfl
    have z_6 := Z.cell (i := 6) rfl
    have z_7 := Z.cell (i := 7) rfl
    have z_8 := Z.cell (i := 8) rfl
    have BZ := (((((((((B8.setCell (p := ⟨W.heap.size, 0, none⟩) (Nat.le_refl _) (.int .i64 (totG g k).ca)).setCell (p := ⟨W.heap.size, 1, none⟩) (Nat.le_refl _) (.int .i64 (totG g k).tb)).setCell (p := ⟨W.heap.size, 2, none⟩) (Nat.le_refl _) (.int .i64 (totG g k).so)).setCell (p := ⟨W.heap.size, 3, none⟩) (Nat.le_refl _) (.int .i64 (totG g k).tx)).setCell (p := ⟨W.heap.size, 4, none⟩) (Nat.le_refl _) (.int .i64 (totG g k).sf)).setCell (p := ⟨W.heap.size, 5, none⟩) (Nat.le_refl _) (.slice (some ⟨b, 0, none⟩) n n)).setCell (p := ⟨W.heap.size, 6, none⟩) (Nat.le_refl _) (.int .i64 (totG g k).net)).setCell (p := ⟨W.heap.size, 7, none⟩) (Nat.le_refl _) (.int .i64 (totG g k).tk)).setCell (p := ⟨W.heap.size, 8, none⟩) (Nat.le_refl _) (.int .i64 (totG g k).pay))
    clear Z K8 B8 K B Kd Bd HS hb cC cS cT hbl y6 y6'' hS7 hdd
    go_wp2
    exact bodyPost_ret (v := .tuple #[.agg #[.int .i64 (totG g k).ca, .int .i64 (totG g k).tb, .int .i64 (totG g k).so, .int .i64 (totG g k).tx, .int .i64 (totG g k).sf, .slice (some ⟨b, 0, none⟩) n n, .int .i64 (totG g k).net, .int .i64 (totG g k).tk, .int .i64 (totG g k).pay], .int .i64 0]) (by simp [results, Try.results19, go_sem, z_0, z_1, z_2, z_3, z_4, z_5, z_6, z_7, z_8]) rfl ⟨b, rfl, hbw, HZ.out, BZ⟩
end Go.Proofs.Ytfnjhalpedccaaa
