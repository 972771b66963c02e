/- What the document's own answers of bands are: Check, Exact, Part. -/
import Derived.Test.YtkiefceomgbbhaaBandA
namespace Go.Proofs.Ytkiefceomgbbhaa
open Go.RowKit

set_option maxHeartbeats 4000000 in
set_option maxRecDepth 100000 in
theorem refcheck_any (A : Option Addr) (n c : Nat) (w : World) (F R E : Nat → Int) (h : Bds w A n F R E) (hn : n ≤ 9223372036854775807) :
    Calls Try.prog 15 #[.slice A n c] w fun e w' => e = .returned (.int .i64 (chk F R E n)) ∧ Below w.heap.size w w' := by
  by_cases h1 : n < 1 ∨ 8 < n
  · have hE : chk F R E n = 2 := if_pos h1
    have HE := Lib.hid hE
    clear hE
    rcases h1 with h1 | h1
    · go_enter Try.func15, Try.ntmps15
      go_wp2
      go_ret
      exact ⟨ret_i HE.out.symm, Below.refl _ _⟩
    · have n1 : 1 ≤ n := by omega
      have n2 : decide ((n : Int) < 1) = false := by simp; omega
      go_enter Try.func15, Try.ntmps15
      go_wp2
      go_ret
      exact ⟨ret_i HE.out.symm, Below.refl _ _⟩
  · have hE : chk F R E n = scanC F R E n := if_neg h1
    have HE := Lib.hid hE
    obtain ⟨b, o, rfl, hc⟩ := h (by omega)
    have n1 : 1 ≤ n := by omega
    have n8 : n ≤ 8 := by omega
    have n2 : decide ((n : Int) < 1) = false := by simp; omega
    have n3 : decide (8 < (n : Int)) = false := by simp; omega
    clear hE h1
    go_enter Try.func15, Try.ntmps15
    go_wp2
    go_loopw [3] (fun k W => ∃ i : Nat, i ≤ n ∧ scanC F R E i = 0 ∧ k = .int .i64 i ∧ Below w.heap.size w W) (fun k _ => n - (intOf k).toNat)
    case atStart => exact ⟨0, Nat.zero_le _, rfl, rfl, Below.refl _ _⟩
    case round =>
      obtain ⟨i, hi, hs, rfl, hb⟩ := hrel
      by_cases hlt : i < n
      · obtain ⟨x0, x1, x2⟩ := hc i hlt
        have c0 := cell_later hb x0
        have c1 := cell_later hb x1
        have c2 := cell_later hb x2
        clear x0 x1 x2
        by_cases hF1 : F i < 0
        · have hst : stepC F R E i = 1 := if_pos (.inl hF1)
          have HS := Lib.hid ((scan_stop hlt hs (by omega)).trans hst)
          clear hst hs hc h
          go_wp2
          go_ret
          exact ⟨ret_i (HE.out.trans HS.out).symm, by first | exact hb | exact below_drewN hb _⟩
        · by_cases hA : 100000000000 < F i
          · have hst : stepC F R E i = 1 := if_pos (by omega)
            have HS := Lib.hid ((scan_stop hlt hs (by omega)).trans hst)
            have a3 : decide (F i < 0) = false := by simp; omega
            clear hst hs hc h
            go_wp2
            go_ret
            exact ⟨ret_i (HE.out.trans HS.out).symm, by first | exact hb | exact below_drewN hb _⟩
          · by_cases h0 : i = 0 ∧ 0 < F i
            · have hst : stepC F R E i = 1 := if_pos (by omega)
              have HS := Lib.hid ((scan_stop hlt hs (by omega)).trans hst)
              have t1 : ((i : Int) == 0) = true := by simp; omega
              have a3 : decide (F i < 0) = false := by simp; omega
              have a4 : decide (100000000000 < F i) = false := by simp; omega
              obtain ⟨h0a, h0b⟩ := h0
              have h0c : i ≤ 0 := by omega
              clear hst hs hc h h0a
              go_wp2
              go_ret
              exact ⟨ret_i (HE.out.trans HS.out).symm, by first | exact hb | exact below_drewN hb _⟩
            · have a1 : 0 ≤ F i := by omega
              have a2 : F i ≤ 100000000000 := by omega
              have a3 : decide (F i < 0) = false := by simp; omega
              have a4 : decide (100000000000 < F i) = false := by simp; omega
              by_cases h6 : 0 < i ∧ F i ≤ F (i - 1)
              · have hst : stepC F R E i = 6 := by
                  unfold stepC
                  rw [if_neg (by omega), if_pos h6]
                have HS := Lib.hid ((scan_stop hlt hs (by omega)).trans hst)
                have t1 : ((i : Int) == 0) = false := by simp; omega
                obtain ⟨p00, _⟩ := hc (i - 1) (by omega)
                have p0 := cell_later hb p00
                clear p00
                obtain ⟨h6a, h6b⟩ := h6
                have e1 : ((i : Int) - 1).toNat = i - 1 := by omega
                have w1 : IntKind.i64.wrap ((i : Int) - 1) = (i : Int) - 1 := IntWalk.i64_in _ (by omega)
                have i0 : 0 ≤ (i : Int) - 1 := by omega
                have i2 : (1 : Int) ≤ (i : Int) := by omega
                have i3 : 1 ≤ i := h6a
                have i1 : (i : Int) - 1 < (n : Int) := by omega
                have i4 : (i : Int) < (n : Int) := by omega
                have g0 : decide (0 < (i : Int)) = true := by simp; omega
                have g1 : decide (0 < i) = true := by simp; omega
                clear hst hs hc h h0
                go_wp2
                go_quiet (fail)
                go_wp2
                go_ret
                exact ⟨ret_i (HE.out.trans HS.out).symm, by first | exact hb | exact below_drewN hb _⟩
              · have f0 : i = 0 → F i = 0 := by omega
                have f6 : 0 < i → F (i - 1) < F i := by omega
                clear h0 h6
                by_cases hi0 : i = 0
                · have t1 : ((i : Int) == 0) = true := by simp; omega
                  have g0 : decide (0 < (i : Int)) = false := by simp; omega
                  have g1 : decide (0 < i) = false := by simp; omega
                  have g2 : decide (0 < F i) = false := by have := f0 hi0; simp; omega
                  have g3 : F i ≤ 0 := by have := f0 hi0; omega
                  have g4 : i ≤ 0 := by omega
                  cases hr : rateB (R i)
                  · have hst : stepC F R E i = 50 := by
                      unfold stepC
                      rw [if_neg (by omega), if_neg (by omega), hr]
                      rfl
                    have HS := Lib.hid ((scan_stop hlt hs (by omega)).trans hst)
                    rcases rateB_no hr with hr1 | hr1
                    all_goals
                      clear hst hs hc h f0 f6 hi0 hr
                      go_wp2
                      go_quiet (fail)
                      go_wp2
                      go_ret
                      exact ⟨ret_i (HE.out.trans HS.out).symm, by first | exact hb | exact below_drewN hb _⟩
                  · obtain ⟨r1, r2⟩ := rateB_yes hr
                    have a5 : decide (R i < 0) = false := by simp; omega
                    have a6 : decide (10000 < R i) = false := by simp; omega
                    cases he : rateB (E i)
                    · have hst : stepC F R E i = 50 := by
                        unfold stepC
                        rw [if_neg (by omega), if_neg (by omega), hr, he]
                        rfl
                      have HS := Lib.hid ((scan_stop hlt hs (by omega)).trans hst)
                      rcases rateB_no he with he1 | he1
                      all_goals
                        clear hst hs hc h f0 f6 hi0 hr he
                        go_wp2
                        go_quiet (fail)
                        go_wp2
                        go_ret
                        exact ⟨ret_i (HE.out.trans HS.out).symm, by first | exact hb | exact below_drewN hb _⟩
                    · obtain ⟨e3, e4⟩ := rateB_yes he
                      have a7 : decide (E i < 0) = false := by simp; omega
                      have a8 : decide (10000 < E i) = false := by simp; omega
                      have hst : stepC F R E i = 0 := by
                        unfold stepC
                        rw [if_neg (by omega), if_neg (by omega), hr, he]
                        rfl
                      have HS := Lib.hid (scan_succ hs hst)
                      clear hst hs hc h f0 f6 hi0 hr he
                      go_wp2
                      go_quiet (fail)
                      go_wp2
                      go_roundw
                      case rel => exact ⟨i + 1, by omega, HS.out, by go_num, by first | exact hb | exact below_drewN hb _⟩
                      case measure => first | omega | (simp [intOf]; omega)
                · have t1 : ((i : Int) == 0) = false := by simp; omega
                  obtain ⟨p00, _⟩ := hc (i - 1) (by omega)
                  have p0 := cell_later hb p00
                  clear p00
                  have h6a : 0 < i := by omega
                  have h6b : ¬ F i ≤ F (i - 1) := by have := f6 h6a; omega
                  have e1 : ((i : Int) - 1).toNat = i - 1 := by omega
                  have w1 : IntKind.i64.wrap ((i : Int) - 1) = (i : Int) - 1 := IntWalk.i64_in _ (by omega)
                  have i0 : 0 ≤ (i : Int) - 1 := by omega
                  have i2 : (1 : Int) ≤ (i : Int) := by omega
                  have i3 : 1 ≤ i := h6a
                  have i1 : (i : Int) - 1 < (n : Int) := by omega
                  have i4 : (i : Int) < (n : Int) := by omega
                  have g0 : decide (0 < (i : Int)) = true := by simp; omega
                  have g1 : decide (0 < i) = true := by simp; omega
                  cases hr : rateB (R i)
                  · have hst : stepC F R E i = 50 := by
                      unfold stepC
                      rw [if_neg (by omega), if_neg (by omega), hr]
                      rfl
                    have HS := Lib.hid ((scan_stop hlt hs (by omega)).trans hst)
                    rcases rateB_no hr with hr1 | hr1
                    all_goals
                      clear hst hs hc h f0 f6 hi0 hr
                      go_wp2
                      go_quiet (fail)
                      go_wp2
                      go_ret
                      exact ⟨ret_i (HE.out.trans HS.out).symm, by first | exact hb | exact below_drewN hb _⟩
                  · obtain ⟨r1, r2⟩ := rateB_yes hr
                    have a5 : decide (R i < 0) = false := by simp; omega
                    have a6 : decide (10000 < R i) = false := by simp; omega
                    cases he : rateB (E i)
                    · have hst : stepC F R E i = 50 := by
                        unfold stepC
                        rw [if_neg (by omega), if_neg (by omega), hr, he]
                        rfl
                      have HS := Lib.hid ((scan_stop hlt hs (by omega)).trans hst)
                      rcases rateB_no he with he1 | he1
                      all_goals
                        clear hst hs hc h f0 f6 hi0 hr he
                        go_wp2
                        go_quiet (fail)
                        go_wp2
                        go_ret
                        exact ⟨ret_i (HE.out.trans HS.out).symm, by first | exact hb | exact below_drewN hb _⟩
                    · obtain ⟨e3, e4⟩ := rateB_yes he
                      have a7 : decide (E i < 0) = false := by simp; omega
                      have a8 : decide (10000 < E i) = false := by simp; omega
                      have hst : stepC F R E i = 0 := by
                        unfold stepC
                        rw [if_neg (by omega), if_neg (by omega), hr, he]
                        rfl
                      have HS := Lib.hid (scan_succ hs hst)
                      clear hst hs hc h f0 f6 hi0 hr he
                      go_wp2
                      go_quiet (fail)
                      go_wp2
                      go_roundw
                      case rel => exact ⟨i + 1, by omega, HS.out, by go_num, by first | exact hb | exact below_drewN hb _⟩
                      case measure => first | omega | (simp [intOf]; omega)
      · obtain rfl : i = n := by omega
        have HS := Lib.hid hs
        clear hs hc h
        go_wp2
        go_ret
        exact ⟨ret_i (HE.out.trans HS.out).symm, by first | exact hb | exact below_drewN hb _⟩

set_option maxHeartbeats 2000000 in
theorem refexact_any (x : Int) (A : Option Addr) (n c : Nat) (u : Bool) (w : World) (F R E V : Nat → Int) (h : Bds w A n F R E) (hV : V = if u = true then E else R) (hok : Okb F R E n) (hx : x ≤ 100000000000) (hx' : -100000000000 ≤ x) :
    Calls Try.prog 20 #[.int .i64 x, .slice A n c, .bool u] w fun e w' => e = .returned (.int .i64 (refb F V x n)) ∧ w = w' := by
  obtain ⟨o1, o2, oI, oF, oR, oE⟩ := hok
  obtain ⟨b, o, rfl, hc⟩ := h (by omega)
  have oV : Rts V n := by rw [hV]; split <;> assumption
  have hbd : ∀ i, i ≤ n → 0 ≤ refb F V x i ∧ refb F V x i ≤ 1000000000000000 := fun i hi => by
    rw [refb_G oI x hi]
    exact G_bd (fun j hj => oF j (by omega)) (fun j hj => oV j (by omega)) hx
  cases u
  all_goals
    simp only [Bool.false_eq_true, if_true, if_false] at hV
    subst hV
    go_enter Try.func20, Try.ntmps20
    go_wp2
    go_loop [7, 8, 9] (fun s l k => ∃ i : Nat, i ≤ n ∧ s = .int .i64 (refb F V x i) ∧ l = .int .i64 (prv V i) ∧ k = .int .i64 i) (fun _ _ k => n - (intOf k).toNat)
    case atStart => exact ⟨0, Nat.zero_le _, rfl, rfl, rfl⟩
    case round =>
      obtain ⟨i, hi, rfl, rfl, rfl⟩ := hrel
      by_cases hlt : i < n
      · obtain ⟨c0, c1, c2⟩ := hc i hlt
        obtain ⟨b1, b2⟩ := hbd i hi
        obtain ⟨b3, b4⟩ := hbd (i + 1) (by omega)
        obtain ⟨f1, f2⟩ := oF i hlt
        obtain ⟨r1, r2⟩ := oV i hlt
        have p1 : 0 ≤ prv V i ∧ prv V i ≤ 10000 := by
          unfold prv
          split
          · omega
          · exact oV (i - 1) (by omega)
        obtain ⟨p1, p2⟩ := p1
        have hp : prv V (i + 1) = V i := by simp [prv]
        have HP := Lib.hid hp
        have hs : refb F V x (i + 1) = refb F V x i + (if F i < x then (x - F i) * (V i - prv V i) else 0) := rfl
        by_cases hxF : F i < x
        · rw [if_pos hxF] at hs
          have HS := Lib.hid hs
          have b5 := b3
          have b6 := b4
          rw [hs] at b5 b6
          have m1 : -1000000000000000 ≤ (x - F i) * (V i - prv V i) := by omega
          have m2 : (x - F i) * (V i - prv V i) ≤ 1000000000000000 := by omega
          have l3 : 0 ≤ refb F V x i + (x - F i) * (V i - prv V i) := by omega
          have l4 : refb F V x i + (x - F i) * (V i - prv V i) ≤ 1000000000000000 := by omega
          clear hp hs b3 b4 hbd oF oV oI oR oE hc h
          generalize refb F V x i = s0 at *
          generalize prv V i = v0 at *
          go_wp2
          go_round
          case rel => exact ⟨i + 1, by omega, by rw [HS.out], by rw [HP.out], by go_num⟩
          case measure => first | omega | (simp [intOf]; omega)
        · rw [if_neg hxF, Int.add_zero] at hs
          have HS := Lib.hid hs
          clear hp hs b3 b4 hbd oF oV oI oR oE hc h
          generalize refb F V x i = s0 at *
          generalize prv V i = v0 at *
          go_wp2
          go_round
          case rel => exact ⟨i + 1, by omega, by rw [HS.out], by rw [HP.out], by go_num⟩
          case measure => first | omega | (simp [intOf]; omega)
      · obtain rfl : i = n := by omega
        clear hbd oF oV oI oR oE hc h
        go_wp2
        go_ret
        exact ⟨rfl, rfl⟩

theorem refpart_any (x n d : Int) (w : World) (hx : 0 ≤ x) (hx' : x ≤ 100000000000) (hn : 0 ≤ n) (hn' : n ≤ 1048576) (hd : 1 ≤ d) (hd' : d ≤ 1048576) :
    Calls Try.prog 25 #[.int .i64 x, .int .i64 n, .int .i64 d] w fun e w' => e = .returned (.int .i64 (x * n / d)) ∧ w = w' := by
  have h1 := Int.mul_nonneg hx hn
  have h2 := (mul_bd 1048576 (x := x) (by omega) hx' hn hn').2
  go_enter Try.func25, Try.ntmps25
  go_wp2
  go_ret
  exact ⟨rfl, rfl⟩
end Go.Proofs.Ytkiefceomgbbhaa
