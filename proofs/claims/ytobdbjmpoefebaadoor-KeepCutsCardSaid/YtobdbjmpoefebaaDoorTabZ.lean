/- What the calls of keep answer of a table: Room, Check, Components, Window, Pieces; and which tables are tried. -/
import Derived.Test.YtobdbjmpoefebaaDoorTabY
import Derived.Lib.MinMaxS
namespace Go.Proofs.YtobdbjmpoefebaaDoor
open Go.RowKit Go.Sort
set_option linter.unusedVariables false
set_option linter.unusedSimpArgs false

theorem worst_any (w : World) (T : TB) (h : Tm w T) (hz : Tsz T) : Calls Tryd.prog 16 #[T.v] w fun e w' =>
    ∃ A n c, e = .returned (.tuple #[.agg #[.int .i64 (if T.chk = 0 then (allW T.S T.L T.nS).1 else 0), .int .i64 (if T.chk = 0 then (allW T.S T.L T.nS).2.1 else 0), .slice A n c, .int .i64 (if T.chk = 0 then keptW T else 0)], .int .i64 T.chk]) ∧
      (T.chk = 0 → Ro w' w.heap.size (.slice A n c) T.nC (fun i => (steep (T.C i).b.R (T.C i).b.n : Nat)) ∧ n = T.nC) ∧ (T.chk ≠ 0 → n = 0) ∧ Below w.heap.size w w' := by
  by_cases hc : T.chk = 0
  · refine (worst_ok w T h hz hc).mono ?_
    rintro e w' ⟨v, he, hr, hb⟩
    obtain ⟨A, c, rfl⟩ := own_slice hr
    refine ⟨A, T.nC, c, ?_, fun _ => ⟨hr, rfl⟩, fun q => absurd hc q, hb⟩
    rw [he, hc]
    rfl
  · refine (worst_bad w T h hz hc).mono ?_
    rintro e w' ⟨he, hb⟩
    refine ⟨none, 0, 0, ?_, fun q => absurd q hc, fun _ => rfl, hb⟩
    rw [he, if_neg hc, if_neg hc, if_neg hc]
def roomV (T : TB) : Int := if T.chk = 0 then keptW T - 500 else 0
def kchk (T : TB) : Int := if T.chk = 0 then (if keptW T < 500 then 100 else 0) else T.chk
theorem kept_bd {T : TB} (h : T.chk = 0) : -60000 ≤ keptW T ∧ keptW T ≤ 10000 := by
  have a := rate_bd (tok_of h)
  have b := sum_bd (tok_of h) T.nC (Nat.le_refl _)
  have c := (tok_of h).c6
  unfold keptW
  omega
set_option maxHeartbeats 1000000 in
theorem room_any (w : World) (T : TB) (h : Tm w T) (hz : Tsz T) :
    Calls Tryd.prog 13 #[T.v] w fun e w' => e = .returned (.tuple #[.int .i64 (roomV T), .int .i64 T.chk]) ∧ Below w.heap.size w w' := by
  have wo := fun w' (q : Tm w' T) => worst_any w' T q hz
  unfold roomV
  by_cases hc : T.chk = 0
  · have hb := kept_bd hc
    simp only [hc, if_true] at wo ⊢
    generalize keptW T = kw at *
    generalize (allW T.S T.L T.nS).1 = a1 at *
    generalize (allW T.S T.L T.nS).2.1 = a2 at *
    clear hc
    obtain ⟨AS, nS, cS, AC, nC, cC, AK, nK, cK, L, W, S, C, K⟩ := T
    dsimp only [TB.v] at *
    have B0 := below_new w (.cells #[.slice AS nS cS, .slice AC nC cC, .slice AK nK cK, .int .i64 L, .int .i64 W] 26)
    have M0 := h.below B0
    obtain ⟨z0, z1, z2, z3, z4⟩ := cells5 w (.slice AS nS cS) (.slice AC nC cC) (.slice AK nK cK) (.int .i64 L) (.int .i64 W) 26
    generalize hw1 : w.alloc (.cells #[.slice AS nS cS, .slice AC nC cC, .slice AK nK cK, .int .i64 L, .int .i64 W] 26) = w1 at *
    clear h
    go_enter Tryd.func13, Tryd.ntmps13
    go_wp2_with (fail)
    refine (wo _ M0).mono ?_
    rintro e w2 ⟨A, n, c, rfl, _, _, hb2⟩
    have B1 := below_step B0 hb2 B0.size
    clear wo
    go_wp2
    go_ret2
    exact ⟨rfl, B1.alloc B1.size _⟩
  · simp only [hc, if_false] at wo ⊢
    have t1 : (T.chk != 0) = true := by simpa using hc
    generalize T.chk = v at *
    clear hc
    obtain ⟨AS, nS, cS, AC, nC, cC, AK, nK, cK, L, W, S, C, K⟩ := T
    dsimp only [TB.v] at *
    have B0 := below_new w (.cells #[.slice AS nS cS, .slice AC nC cC, .slice AK nK cK, .int .i64 L, .int .i64 W] 26)
    have M0 := h.below B0
    obtain ⟨z0, z1, z2, z3, z4⟩ := cells5 w (.slice AS nS cS) (.slice AC nC cC) (.slice AK nK cK) (.int .i64 L) (.int .i64 W) 26
    generalize hw1 : w.alloc (.cells #[.slice AS nS cS, .slice AC nC cC, .slice AK nK cK, .int .i64 L, .int .i64 W] 26) = w1 at *
    clear h
    go_enter Tryd.func13, Tryd.ntmps13
    go_wp2_with (fail)
    refine (wo _ M0).mono ?_
    rintro e w2 ⟨A, n, c, rfl, _, _, hb2⟩
    have B1 := below_step B0 hb2 B0.size
    clear wo
    go_wp2
    go_ret2
    exact ⟨rfl, B1.alloc B1.size _⟩
set_option maxHeartbeats 1000000 in
theorem kcheck_any (w : World) (T : TB) (h : Tm w T) (hz : Tsz T) :
    Calls Tryd.prog 17 #[T.v] w fun e w' => e = .returned (.int .i64 (kchk T)) ∧ Below w.heap.size w w' := by
  have ro := fun w' (q : Tm w' T) => room_any w' T q hz
  unfold kchk
  unfold roomV at ro
  by_cases hc : T.chk = 0
  · have hb := kept_bd hc
    simp only [hc, if_true] at ro ⊢
    generalize keptW T = kw at *
    clear hc
    by_cases hk : kw < 500
    · rw [if_pos hk]
      obtain ⟨AS, nS, cS, AC, nC, cC, AK, nK, cK, L, W, S, C, K⟩ := T
      dsimp only [TB.v] at *
      have B0 := below_new w (.cells #[.slice AS nS cS, .slice AC nC cC, .slice AK nK cK, .int .i64 L, .int .i64 W] 26)
      have M0 := h.below B0
      obtain ⟨z0, z1, z2, z3, z4⟩ := cells5 w (.slice AS nS cS) (.slice AC nC cC) (.slice AK nK cK) (.int .i64 L) (.int .i64 W) 26
      generalize hw1 : w.alloc (.cells #[.slice AS nS cS, .slice AC nC cC, .slice AK nK cK, .int .i64 L, .int .i64 W] 26) = w1 at *
      clear h
      go_enter Tryd.func17, Tryd.ntmps17
      go_wp2_with (fail)
      refine (ro _ M0).mono ?_
      rintro e w2 ⟨rfl, hb2⟩
      have B1 := below_step B0 hb2 B0.size
      clear ro
      go_wp2
      go_ret
      exact ⟨rfl, B1⟩
    · rw [if_neg hk]
      obtain ⟨AS, nS, cS, AC, nC, cC, AK, nK, cK, L, W, S, C, K⟩ := T
      dsimp only [TB.v] at *
      have B0 := below_new w (.cells #[.slice AS nS cS, .slice AC nC cC, .slice AK nK cK, .int .i64 L, .int .i64 W] 26)
      have M0 := h.below B0
      obtain ⟨z0, z1, z2, z3, z4⟩ := cells5 w (.slice AS nS cS) (.slice AC nC cC) (.slice AK nK cK) (.int .i64 L) (.int .i64 W) 26
      generalize hw1 : w.alloc (.cells #[.slice AS nS cS, .slice AC nC cC, .slice AK nK cK, .int .i64 L, .int .i64 W] 26) = w1 at *
      clear h
      go_enter Tryd.func17, Tryd.ntmps17
      go_wp2_with (fail)
      refine (ro _ M0).mono ?_
      rintro e w2 ⟨rfl, hb2⟩
      have B1 := below_step B0 hb2 B0.size
      clear ro
      go_wp2
      go_ret
      exact ⟨rfl, B1⟩
  · simp only [hc, if_false] at ro ⊢
    have t1 : (T.chk == 0) = false := by simpa using hc
    generalize T.chk = v at *
    clear hc
    obtain ⟨AS, nS, cS, AC, nC, cC, AK, nK, cK, L, W, S, C, K⟩ := T
    dsimp only [TB.v] at *
    have B0 := below_new w (.cells #[.slice AS nS cS, .slice AC nC cC, .slice AK nK cK, .int .i64 L, .int .i64 W] 26)
    have M0 := h.below B0
    obtain ⟨z0, z1, z2, z3, z4⟩ := cells5 w (.slice AS nS cS) (.slice AC nC cC) (.slice AK nK cK) (.int .i64 L) (.int .i64 W) 26
    generalize hw1 : w.alloc (.cells #[.slice AS nS cS, .slice AC nC cC, .slice AK nK cK, .int .i64 L, .int .i64 W] 26) = w1 at *
    clear h
    go_enter Tryd.func17, Tryd.ntmps17
    go_wp2_with (fail)
    refine (ro _ M0).mono ?_
    rintro e w2 ⟨rfl, hb2⟩
    have B1 := below_step B0 hb2 B0.size
    clear ro
    go_wp2
    go_ret
    exact ⟨rfl, B1⟩
theorem comps_any (w : World) (T : TB) (h : Tm w T) (hn : T.nC ≤ 1000) :
    Calls Tryd.prog 37 #[T.v] w fun e w' => e = .returned (.int .i64 (1 + T.nC)) ∧ Below w.heap.size w w' := by
  obtain ⟨AS, nS, cS, AC, nC, cC, AK, nK, cK, L, W, S, C, K⟩ := T
  dsimp only [TB.v] at *
  have B0 := below_new w (.cells #[.slice AS nS cS, .slice AC nC cC, .slice AK nK cK, .int .i64 L, .int .i64 W] 26)
  have M0 := h.below B0
  obtain ⟨z0, z1, z2, z3, z4⟩ := cells5 w (.slice AS nS cS) (.slice AC nC cC) (.slice AK nK cK) (.int .i64 L) (.int .i64 W) 26
  generalize hw1 : w.alloc (.cells #[.slice AS nS cS, .slice AC nC cC, .slice AK nK cK, .int .i64 L, .int .i64 W] 26) = w1 at *
  clear h
  go_enter Tryd.func37, Tryd.ntmps37
  go_wp2
  go_ret
  exact ⟨rfl, B0⟩
theorem window_any (w : World) (T : TB) (h : Tm w T) (hn : T.nC ≤ 1000) :
    Calls Tryd.prog 38 #[T.v] w fun e w' => e = .returned (.int .i64 (2 * (1 + T.nC) * 20 + 2)) ∧ Below w.heap.size w w' := by
  have co := fun w' (q : Tm w' T) => comps_any w' T q hn
  obtain ⟨AS, nS, cS, AC, nC, cC, AK, nK, cK, L, W, S, C, K⟩ := T
  dsimp only [TB.v] at *
  have B0 := below_new w (.cells #[.slice AS nS cS, .slice AC nC cC, .slice AK nK cK, .int .i64 L, .int .i64 W] 26)
  have M0 := h.below B0
  obtain ⟨z0, z1, z2, z3, z4⟩ := cells5 w (.slice AS nS cS) (.slice AC nC cC) (.slice AK nK cK) (.int .i64 L) (.int .i64 W) 26
  generalize hw1 : w.alloc (.cells #[.slice AS nS cS, .slice AC nC cC, .slice AK nK cK, .int .i64 L, .int .i64 W] 26) = w1 at *
  clear h
  go_enter Tryd.func38, Tryd.ntmps38
  go_wp2_with (fail)
  refine (co _ M0).mono ?_
  rintro e w2 ⟨rfl, hb2⟩
  have B1 := below_step B0 hb2 B0.size
  clear co
  go_wp2
  go_ret
  exact ⟨rfl, B1⟩
def numbB (n m : Int) : Bool := decide (0 ≤ n) && decide (n < m)
theorem numbered_b (n m : Int) (v : Bool) (h : numbB n m = v) (w : World) : Calls Tryd.prog 80 #[.int .i64 n, .int .i64 m] w fun e w' => e = .returned (.bool v) ∧ w = w' := by
  subst h
  unfold numbB
  by_cases h1 : 0 ≤ n
  · rw [decide_eq_true h1]
    by_cases h2 : n < m
    · rw [decide_eq_true h2]
      go_enter Tryd.func80, Tryd.ntmps80
      go_wp2
      go_ret
      exact ⟨rfl, rfl⟩
    · rw [decide_eq_false h2]
      go_enter Tryd.func80, Tryd.ntmps80
      go_wp2
      go_ret
      exact ⟨rfl, rfl⟩
  · rw [decide_eq_false h1]
    go_enter Tryd.func80, Tryd.ntmps80
    go_wp2
    go_ret
    exact ⟨rfl, rfl⟩
def limB (s b : Int) : Bool := decide (s = -1) && decide (b = -1)
theorem limited_b (s b k : Int) (A : Option Addr) (n c : Nat) (v : Bool) (h : limB s b = v) (w : World) : Calls Tryd.prog 81 #[.agg #[.int .i64 s, .int .i64 b, .slice A n c, .int .i64 k]] w fun e w' => e = .returned (.bool v) ∧ Below w.heap.size w w' := by
  subst h
  unfold limB
  by_cases h1 : s = -1
  · have t1 : (s == -1) = true := by simpa using h1
    rw [decide_eq_true h1]
    by_cases h2 : b = -1
    · have t2 : (b == -1) = true := by simpa using h2
      rw [decide_eq_true h2]
      clear h1 h2
      go_enter Tryd.func81, Tryd.ntmps81
      go_wp2
      go_ret
      exact ⟨rfl, (Below.refl _ _).alloc (Nat.le_refl _) _⟩
    · have t2 : (b == -1) = false := by simpa using h2
      rw [decide_eq_false h2]
      clear h1 h2
      go_enter Tryd.func81, Tryd.ntmps81
      go_wp2
      go_ret
      exact ⟨rfl, (Below.refl _ _).alloc (Nat.le_refl _) _⟩
  · have t1 : (s == -1) = false := by simpa using h1
    rw [decide_eq_false h1]
    clear h1
    go_enter Tryd.func81, Tryd.ntmps81
    go_wp2
    go_ret
    exact ⟨rfl, (Below.refl _ _).alloc (Nat.le_refl _) _⟩
/-- tables with which it is tried -/
structure SmP (T : TB) : Prop where
  s : T.nS ≤ 20
  c : T.nC ≤ 20
  k : T.nK ≤ 30
  sb : ∀ i, i < T.nS → (T.S i).n ≤ 20
  cb : ∀ i, i < T.nC → (T.C i).b.n ≤ 20
theorem SmP.sz {T : TB} (h : SmP T) : Tsz T := ⟨by have := h.c; omega, by have := h.k; omega, fun _ i hi => by have := h.sb i hi; omega, fun _ i hi => by have := h.cb i hi; omega⟩
def SmlP (T : TB) (w : World) (e : Ending) (w' : World) : Prop := ∃ b : Bool, e = .returned (.bool b) ∧ (b = true → SmP T) ∧ Below w.heap.size w w'
set_option maxHeartbeats 2000000 in
theorem small_tab (w : World) (T : TB) (h : Tm w T) :
    Calls Tryd.prog 11 #[T.v] w (SmlP T w) := by
  by_cases hb : T.nS ≤ 20 ∧ T.nC ≤ 20 ∧ T.nK ≤ 30
  · obtain ⟨h1, h2, h3⟩ := hb
    have mk := fun a b => SmP.mk (T := T) h1 h2 h3 a b
    have HMK := Lib.hid mk
    clear mk

    obtain ⟨AS, nS, cS, AC, nC, cC, AK, nK, cK, L, W, S, C, K⟩ := T
    dsimp only [TB.v] at *
    have B0 := below_new w (.cells #[.slice AS nS cS, .slice AC nC cC, .slice AK nK cK, .int .i64 L, .int .i64 W] 26)
    have M0 := h.below B0
    obtain ⟨z0, z1, z2, z3, z4⟩ := cells5 w (.slice AS nS cS) (.slice AC nC cC) (.slice AK nK cK) (.int .i64 L) (.int .i64 W) 26
    generalize hw1 : w.alloc (.cells #[.slice AS nS cS, .slice AC nC cC, .slice AK nK cK, .int .i64 L, .int .i64 W] 26) = w1 at *
    clear h
    have MS : SchM w1 AS nS S := M0.1
    have MC : ConM w1 AC nC C := M0.2.1
    go_enter Tryd.func11, Tryd.ntmps11
    go_wp2
    go_loopw [26] (fun k X => ∃ i : Nat, i ≤ nS ∧ k = .int .i64 i ∧ Hid (∀ j, j < i → (S j).n ≤ 20) ∧ Below w1.heap.size w1 X) (fun k _ => nS - (intOf k).toNat)
    case atStart => exact ⟨0, Nat.zero_le _, rfl, Lib.hid fun j hj => absurd hj (Nat.not_lt_zero _), Below.refl _ _⟩
    case round =>
      obtain ⟨i, hi, rfl, HS, hB⟩ := hrel
      by_cases hlt : i < nS
      · obtain ⟨b, o, rfl, hcc⟩ := id (MS (by omega))
        obtain ⟨g0, _⟩ := hcc i hlt
        have d0 := cell_later hB g0
        clear hcc g0
        by_cases h20 : (S i).n ≤ 20
        · have HS' : Hid (∀ j, j < i + 1 → (S j).n ≤ 20) := Lib.hid fun j hj => by
            by_cases e : j = i
            · subst e; exact h20
            · exact HS.out j (by omega)
          generalize (S i).n = sn at *
          generalize (S i).A = sA at *
          generalize (S i).c = sc at *
          clear HS
          go_wp2
          go_roundw
          case rel => exact ⟨i + 1, by omega, by go_num, HS', hB⟩
          case measure => first | omega | (simp [intOf]; omega)
        · generalize (S i).n = sn at *
          generalize (S i).A = sA at *
          generalize (S i).c = sc at *
          go_wp2
          go_ret
          exact ⟨false, rfl, fun q => Bool.noConfusion q, below_step B0 hB B0.size⟩
      · obtain rfl : i = nS := by omega
        have y1 := cell_later hB z1
        have HMK2 := Lib.hid (fun b => HMK.out HS.out b)
        clear HMK HS
        go_wp2
        go_loopw [37] (fun k X => ∃ m : Nat, m ≤ nC ∧ k = .int .i64 m ∧ Hid (∀ j, j < m → (C j).b.n ≤ 20) ∧ Below w1.heap.size w1 X) (fun k _ => nC - (intOf k).toNat)
        case atStart => exact ⟨0, Nat.zero_le _, rfl, Lib.hid fun j hj => absurd hj (Nat.not_lt_zero _), hB⟩
        case round =>
          obtain ⟨m, hm, rfl, HC, hB2⟩ := hrel
          by_cases hlm : m < nC
          · obtain ⟨b, o, rfl, hcc⟩ := id (MC (by omega))
            obtain ⟨g0, g1, g2, g3, g4, g5, _⟩ := hcc m hlm
            have d0 := cell_later hB2 g0
            have d1 := cell_later hB2 g1
            have d2 := cell_later hB2 g2
            have d3 := cell_later hB2 g3
            have d4 := cell_later hB2 g4
            have d5 := cell_later hB2 g5
            clear hcc g0 g1 g2 g3 g4 g5
            have B3 := hB2.alloc (o := .cells #[.string (C m).N, .int .i64 (C m).B, .slice (C m).b.A (C m).b.n (C m).b.c, .int .i64 (C m).P, .int .i64 (C m).Y, .int .i64 (C m).W] 80) hB2.size
            by_cases h20 : (C m).b.n ≤ 20
            · have HC' : Hid (∀ j, j < m + 1 → (C j).b.n ≤ 20) := Lib.hid fun j hj => by
                by_cases e : j = m
                · subst e; exact h20
                · exact HC.out j (by omega)
              have t2 : ¬ (20 : Int) < ((C m).b.n : Nat) := by omega
              by_cases h60 : (C m).N.size ≤ 60
              · have t1 : ¬ (60 : Int) < (C m).N.size := by omega
                clear HC
                go_wp2
                go_roundw
                case rel => exact ⟨m + 1, by omega, by go_num, HC', B3⟩
                case measure => first | omega | (simp [intOf]; omega)
              · have t1 : (60 : Int) < (C m).N.size := by omega
                clear HC
                go_wp2
                go_ret
                exact ⟨false, rfl, fun q => Bool.noConfusion q, below_step B0 B3 B0.size⟩
            · have t2 : (20 : Int) < ((C m).b.n : Nat) := by omega
              go_wp2
              go_ret
              exact ⟨false, rfl, fun q => Bool.noConfusion q, below_step B0 B3 B0.size⟩
          · obtain rfl : m = nC := by omega
            go_wp2
            go_ret
            exact ⟨true, rfl, fun _ => HMK2.out HC.out, below_step B0 hB2 B0.size⟩
  · skip
    obtain ⟨AS, nS, cS, AC, nC, cC, AK, nK, cK, L, W, S, C, K⟩ := T
    dsimp only [TB.v] at *
    have B0 := below_new w (.cells #[.slice AS nS cS, .slice AC nC cC, .slice AK nK cK, .int .i64 L, .int .i64 W] 26)
    have M0 := h.below B0
    obtain ⟨z0, z1, z2, z3, z4⟩ := cells5 w (.slice AS nS cS) (.slice AC nC cC) (.slice AK nK cK) (.int .i64 L) (.int .i64 W) 26
    generalize hw1 : w.alloc (.cells #[.slice AS nS cS, .slice AC nC cC, .slice AK nK cK, .int .i64 L, .int .i64 W] 26) = w1 at *
    clear h
    go_enter Tryd.func11, Tryd.ntmps11
    rcases (show 20 < nS ∨ (nS ≤ 20 ∧ 20 < nC) ∨ (nS ≤ 20 ∧ nC ≤ 20 ∧ 30 < nK) by omega) with q | ⟨q, q2⟩ | ⟨q, q2, q3⟩
    · have u1 : (20 : Int) < nS := by omega
      clear hb
      go_wp2
      go_ret
      exact ⟨false, rfl, fun q => Bool.noConfusion q, B0⟩
    · have u1 : ¬ (20 : Int) < nS := by omega
      have u2 : (20 : Int) < nC := by omega
      clear hb
      go_wp2
      go_ret
      exact ⟨false, rfl, fun q => Bool.noConfusion q, B0⟩
    · have u1 : ¬ (20 : Int) < nS := by omega
      have u2 : ¬ (20 : Int) < nC := by omega
      have u3 : (30 : Int) < nK := by omega
      clear hb
      go_wp2
      go_ret
      exact ⟨false, rfl, fun q => Bool.noConfusion q, B0⟩
end Go.Proofs.YtobdbjmpoefebaaDoor

