/- What the calls of band answer that look bands over: Check, Find, Top. -/
import Derived.Test.YtffihnbpjcgicaaFracE
import Derived.Test.YtffihnbpjcgicaaBnd
import Derived.WalkLawsBesides
import Derived.WalkSpells
import Derived.Deep.QuietTactic
import Derived.BigQuiet
import Derived.BigGuardPart
import Derived.LoopN
namespace Go.Proofs.Ytffihnbpjcgicaa
open Go.RowKit

/-- a slice's bands, wherever they lie -/
def Bds (w : World) (A : Option Addr) (n : Nat) (F R E : Nat → Int) : Prop :=
  0 < n → ∃ b o, A = some ⟨b, o, none⟩ ∧ ∀ i, i < n → w.cell? ⟨b, o + i * 3, none⟩ = some (.int .i64 (F i)) ∧ w.cell? ⟨b, o + i * 3 + 1, none⟩ = some (.int .i64 (R i)) ∧ w.cell? ⟨b, o + i * 3 + 2, none⟩ = some (.int .i64 (E i))
theorem below_cell {B : Nat} {w w' : World} {a : Addr} {v : Value} (hb : Below B w w') (hB : w.heap.size ≤ B) (h : w.cell? a = some v) : w'.cell? a = some v :=
  (hb.cell (Nat.lt_of_lt_of_le (World.block_lt_of_cell? _ _ h) hB)).trans h
theorem Bds.below {w w' : World} {A : Option Addr} {n : Nat} {F R E : Nat → Int} (h : Bds w A n F R E) (hb : Below w.heap.size w w') : Bds w' A n F R E := fun hn => by
  obtain ⟨b, o, e, hc⟩ := h hn
  exact ⟨b, o, e, fun i hi => ⟨below_cell hb (Nat.le_refl _) (hc i hi).1, below_cell hb (Nat.le_refl _) (hc i hi).2.1, below_cell hb (Nat.le_refl _) (hc i hi).2.2⟩⟩

set_option maxHeartbeats 2000000 in
theorem check_any (A : Option Addr) (n c : Nat) (w : World) (F R E : Nat → Int) (h : Bds w A n F R E) (hn : n ≤ 9223372036854775807) :
    Calls Try.prog 34 #[.slice A n c] w fun e w' => e = .returned (.int .i64 (chk F R E n)) ∧ Below w.heap.size w w' := by
  by_cases h1 : n < 1 ∨ 8 < n
  · have hE : chk F R E n = 2 := if_pos h1
    have HE := Lib.hid hE
    clear hE
    rcases h1 with h1 | h1
    · have b1 : ((n : Int) == 0) = true := by simp; omega
      have HB := Lib.hid h1
      clear h1
      go_enter Try.func34, Try.ntmps34
      go_wp2
      go_ret
      exact ⟨ret_i HE.out.symm, Below.refl _ _⟩
    · have b1 : ((n : Int) == 0) = false := by simp; omega
      go_enter Try.func34, Try.ntmps34
      go_wp2
      go_ret
      exact ⟨ret_i HE.out.symm, Below.refl _ _⟩
  · have hE : chk F R E n = scanC F R E n := if_neg h1
    have HE := Lib.hid hE
    obtain ⟨b, o, rfl, hc⟩ := h (by omega)
    have b1 : ((n : Int) == 0) = false := by simp; omega
    have n1 : 1 ≤ n := by omega
    have n8 : n ≤ 8 := by omega
    clear hE h1
    go_enter Try.func34, Try.ntmps34
    go_wp2
    go_loopw [15] (fun k W => ∃ i : Nat, i ≤ n ∧ scanC F R E i = 0 ∧ k = .int .i64 i ∧ Below w.heap.size w W) (fun k _ => n - (intOf k).toNat)
    case atStart => exact ⟨0, Nat.zero_le _, rfl, rfl, Below.refl _ _⟩
    case round =>
      obtain ⟨i, hi, hs, rfl, hb⟩ := hrel
      by_cases hlt : i < n
      · obtain ⟨c0, c1, c2⟩ := hc i hlt
        have d0 := cell_later hb c0
        have d1 := cell_later hb c1
        have d2 := cell_later hb c2
        rename_i W _ _
        by_cases hF1 : F i < 0
        · have hst : stepC F R E i = 1 := if_pos (.inl hF1)
          have HS := Lib.hid ((scan_stop hlt hs (by omega)).trans hst)
          clear hst hs hc h c0 c1 c2
          go_wp2
          go_ret
          exact ⟨ret_i (HE.out.trans HS.out).symm, hb.alloc hb.size _⟩
        · cases hA : amtB (F i)
          · have hA2 := amtB_no hA
            have hst : stepC F R E i = 1 := if_pos (by omega)
            have HS := Lib.hid ((scan_stop hlt hs (by omega)).trans hst)
            have rt := fun W b o => right_at (F i) W b o false hA
            clear hst hs hc h c0 c1 c2 hA2
            go_wp2_with (fail)
            refine (rt _ _ _ (by simp [go_sem])).mono ?_
            rintro e w' ⟨rfl, rfl⟩
            go_wp2
            go_ret
            exact ⟨ret_i (HE.out.trans HS.out).symm, (hb.alloc hb.size _).alloc (by have := hb.size; simp; omega) _⟩
          · have hA2 := amtB_yes hA
            have rt := fun W b o => right_at (F i) W b o true hA
            have hsz := hb.size
            by_cases h0 : i = 0 ∧ F i ≠ 0
            · have hst : stepC F R E i = 1 := if_pos (by omega)
              have HS := Lib.hid ((scan_stop hlt hs (by omega)).trans hst)
              have t1 : ((i : Int) == 0) = true := by simp; omega
              have t2 : (F i != 0) = true := by simp; omega
              clear hst hs hc h c0 c1 c2 hA2 h0
              go_wp2_with (fail)
              refine (rt _ _ _ (by simp [go_sem])).mono ?_
              rintro e w' ⟨rfl, rfl⟩
              go_wp2
              go_ret
              exact ⟨ret_i (HE.out.trans HS.out).symm, (hb.alloc hb.size _).alloc (by simp; omega) _⟩
            · by_cases h6 : 0 < i ∧ F i ≤ F (i - 1)
              · have hst : stepC F R E i = 6 := by
                  unfold stepC
                  rw [if_neg (by omega), if_pos h6]
                have HS := Lib.hid ((scan_stop hlt hs (by omega)).trans hst)
                have t1 : ((i : Int) == 0) = false := by simp; omega
                obtain ⟨p0, _⟩ := hc (i - 1) (by omega)
                have q0 := cell_later hb p0
                have hbl : b < wr.heap.size := World.block_lt_of_cell? _ _ q0
                have hb2 : b ≠ wr.heap.size := by omega
                have hb3 : b ≠ wr.heap.size + 1 := by omega
                obtain ⟨h6a, h6b⟩ := h6
                have e1 : ((i : Int) - 1).toNat = i - 1 := by omega
                have w1 : IntKind.i64.wrap ((i : Int) - 1) = (i : Int) - 1 := IntWalk.i64_in _ (by omega)
                have i0 : 0 ≤ (i : Int) - 1 := by omega
                have i2 : (1 : Int) ≤ (i : Int) := by omega
                have i3 : 1 ≤ i := h6a
                have i1 : (i : Int) - 1 < (n : Int) := by omega
                have g0 : decide (0 < (i : Int)) = true := by simp; omega
                have g1 : decide (0 < i) = true := by simp; omega
                clear hst hs hc h c0 c1 c2 hA2 h0 p0
                go_wp2_with (fail)
                refine (rt _ _ _ (by simp [go_sem])).mono ?_
                rintro e w' ⟨rfl, rfl⟩
                go_wp2
                go_quiet (fail)
                go_wp2
                go_ret
                exact ⟨ret_i (HE.out.trans HS.out).symm, below_drewN ((hb.alloc hb.size _).alloc (by simp; omega) _) _⟩
              · have a1 : 0 ≤ F i := by omega
                have f0 : i = 0 → F i = 0 := by omega
                have f6 : 0 < i → F (i - 1) < F i := by omega
                have a3 : decide (F i < 0) = false := by simp; omega
                clear h0 h6
                by_cases hi0 : i = 0
                · have t1 : ((i : Int) == 0) = true := by simp; omega
                  have t2 : (F i != 0) = false := by have := f0 hi0; simp; omega
                  have g0 : decide (0 < (i : Int)) = false := by simp; omega
                  have g1 : decide (0 < i) = false := by simp; omega
                  cases hr : rateB (R i)
                  · have hst : stepC F R E i = 50 := by
                      unfold stepC
                      rw [if_neg (by omega), if_neg (by omega), hr]
                      rfl
                    have HS := Lib.hid ((scan_stop hlt hs (by omega)).trans hst)
                    have cr := rate_b (R i) false hr
                    clear hst hs hc h c0 c1 c2 hA2 f0 f6 hi0
                    go_wp2_with (fail)
                    refine (rt _ _ _ (by simp [go_sem])).mono ?_
                    rintro e w' ⟨rfl, rfl⟩
                    go_wp2
                    go_quiet (fail)
                    go_wp2_with (fail)
                    refine (cr _).mono ?_
                    rintro e w' ⟨rfl, rfl⟩
                    go_wp2
                    go_ret
                    exact ⟨ret_i (HE.out.trans HS.out).symm, below_drewN ((hb.alloc hb.size _).alloc (by simp; omega) _) _⟩
                  · cases he : rateB (E i)
                    · have hst : stepC F R E i = 50 := by
                        unfold stepC
                        rw [if_neg (by omega), if_neg (by omega), hr, he]
                        rfl
                      have HS := Lib.hid ((scan_stop hlt hs (by omega)).trans hst)
                      have cr := rate_b (R i) true hr
                      have ce := rate_b (E i) false he
                      clear hst hs hc h c0 c1 c2 hA2 f0 f6 hi0
                      go_wp2_with (fail)
                      refine (rt _ _ _ (by simp [go_sem])).mono ?_
                      rintro e w' ⟨rfl, rfl⟩
                      go_wp2
                      go_quiet (fail)
                      go_wp2_with (fail)
                      refine (cr _).mono ?_
                      rintro e w' ⟨rfl, rfl⟩
                      go_wp2_with (fail)
                      refine (ce _).mono ?_
                      rintro e w' ⟨rfl, rfl⟩
                      go_wp2
                      go_ret
                      exact ⟨ret_i (HE.out.trans HS.out).symm, below_drewN ((hb.alloc hb.size _).alloc (by simp; omega) _) _⟩
                    · have hst : stepC F R E i = 0 := by
                        unfold stepC
                        rw [if_neg (by omega), if_neg (by omega), hr, he]
                        rfl
                      have HS := Lib.hid (scan_succ hs hst)
                      have cr := rate_b (R i) true hr
                      have ce := rate_b (E i) true he
                      clear hst hs hc h c0 c1 c2 hA2 f0 f6 hi0
                      go_wp2_with (fail)
                      refine (rt _ _ _ (by simp [go_sem])).mono ?_
                      rintro e w' ⟨rfl, rfl⟩
                      go_wp2
                      go_quiet (fail)
                      go_wp2_with (fail)
                      refine (cr _).mono ?_
                      rintro e w' ⟨rfl, rfl⟩
                      go_wp2_with (fail)
                      refine (ce _).mono ?_
                      rintro e w' ⟨rfl, rfl⟩
                      go_wp2
                      go_roundw
                      case rel => exact ⟨i + 1, by omega, HS.out, by go_num, below_drewN ((hb.alloc hb.size _).alloc (by simp; omega) _) _⟩
                      case measure => first | omega | (simp [intOf]; omega)
                · have t1 : ((i : Int) == 0) = false := by simp; omega
                  obtain ⟨p0, _⟩ := hc (i - 1) (by omega)
                  have q0 := cell_later hb p0
                  have hbl : b < wr.heap.size := World.block_lt_of_cell? _ _ q0
                  have hb2 : b ≠ wr.heap.size := by omega
                  have hb3 : b ≠ wr.heap.size + 1 := by omega
                  have h6a : 0 < i := by omega
                  have h6b : ¬ F i ≤ F (i - 1) := by have := f6 h6a; omega
                  have e1 : ((i : Int) - 1).toNat = i - 1 := by omega
                  have w1 : IntKind.i64.wrap ((i : Int) - 1) = (i : Int) - 1 := IntWalk.i64_in _ (by omega)
                  have i0 : 0 ≤ (i : Int) - 1 := by omega
                  have i2 : (1 : Int) ≤ (i : Int) := by omega
                  have i3 : 1 ≤ i := h6a
                  have i1 : (i : Int) - 1 < (n : Int) := by omega
                  have g0 : decide (0 < (i : Int)) = true := by simp; omega
                  have g1 : decide (0 < i) = true := by simp; omega
                  cases hr : rateB (R i)
                  · have hst : stepC F R E i = 50 := by
                      unfold stepC
                      rw [if_neg (by omega), if_neg (by omega), hr]
                      rfl
                    have HS := Lib.hid ((scan_stop hlt hs (by omega)).trans hst)
                    have cr := rate_b (R i) false hr
                    clear hst hs hc h c0 c1 c2 hA2 f0 f6 hi0
                    go_wp2_with (fail)
                    refine (rt _ _ _ (by simp [go_sem])).mono ?_
                    rintro e w' ⟨rfl, rfl⟩
                    go_wp2
                    go_quiet (fail)
                    go_wp2_with (fail)
                    refine (cr _).mono ?_
                    rintro e w' ⟨rfl, rfl⟩
                    go_wp2
                    go_ret
                    exact ⟨ret_i (HE.out.trans HS.out).symm, below_drewN ((hb.alloc hb.size _).alloc (by simp; omega) _) _⟩
                  · cases he : rateB (E i)
                    · have hst : stepC F R E i = 50 := by
                        unfold stepC
                        rw [if_neg (by omega), if_neg (by omega), hr, he]
                        rfl
                      have HS := Lib.hid ((scan_stop hlt hs (by omega)).trans hst)
                      have cr := rate_b (R i) true hr
                      have ce := rate_b (E i) false he
                      clear hst hs hc h c0 c1 c2 hA2 f0 f6 hi0
                      go_wp2_with (fail)
                      refine (rt _ _ _ (by simp [go_sem])).mono ?_
                      rintro e w' ⟨rfl, rfl⟩
                      go_wp2
                      go_quiet (fail)
                      go_wp2_with (fail)
                      refine (cr _).mono ?_
                      rintro e w' ⟨rfl, rfl⟩
                      go_wp2_with (fail)
                      refine (ce _).mono ?_
                      rintro e w' ⟨rfl, rfl⟩
                      go_wp2
                      go_ret
                      exact ⟨ret_i (HE.out.trans HS.out).symm, below_drewN ((hb.alloc hb.size _).alloc (by simp; omega) _) _⟩
                    · have hst : stepC F R E i = 0 := by
                        unfold stepC
                        rw [if_neg (by omega), if_neg (by omega), hr, he]
                        rfl
                      have HS := Lib.hid (scan_succ hs hst)
                      have cr := rate_b (R i) true hr
                      have ce := rate_b (E i) true he
                      clear hst hs hc h c0 c1 c2 hA2 f0 f6 hi0
                      go_wp2_with (fail)
                      refine (rt _ _ _ (by simp [go_sem])).mono ?_
                      rintro e w' ⟨rfl, rfl⟩
                      go_wp2
                      go_quiet (fail)
                      go_wp2_with (fail)
                      refine (cr _).mono ?_
                      rintro e w' ⟨rfl, rfl⟩
                      go_wp2_with (fail)
                      refine (ce _).mono ?_
                      rintro e w' ⟨rfl, rfl⟩
                      go_wp2
                      go_roundw
                      case rel => exact ⟨i + 1, by omega, HS.out, by go_num, below_drewN ((hb.alloc hb.size _).alloc (by simp; omega) _) _⟩
                      case measure => first | omega | (simp [intOf]; omega)
      · obtain rfl : i = n := by omega
        have HS := Lib.hid hs
        clear hs hc h
        go_wp2
        go_ret
        exact ⟨ret_i (HE.out.trans HS.out).symm, hb⟩
end Go.Proofs.Ytffihnbpjcgicaa
