/- Merged: BandA, BandB, BandC. -/
import Derived.Test.YtffihnbpjcgicaaDoorFracE
import Derived.Test.YtffihnbpjcgicaaDoorBnd
import Derived.WalkLawsBesides
import Derived.WalkSpells
import Derived.Deep.QuietTactic
import Derived.BigQuiet
import Derived.BigGuardPart
import Derived.LoopN
import Derived.Lib.QuietBelow
import Derived.WalkMore
import Derived.ScopeJumps
/- What the calls of band answer that look bands over: Check, Find, Top. -/
namespace Go.Proofs.YtffihnbpjcgicaaDoor
open Go.RowKit

/-- a slice's bands, wherever they lie -/
def Bds (w : World) (A : Option Addr) (n : Nat) (F R E : Nat → Int) : Prop :=
  0 < n → ∃ b o, A = some ⟨b, o, none⟩ ∧ ∀ i, i < n → w.cell? ⟨b, o + i * 3, none⟩ = some (.int .i64 (F i)) ∧ w.cell? ⟨b, o + i * 3 + 1, none⟩ = some (.int .i64 (R i)) ∧ w.cell? ⟨b, o + i * 3 + 2, none⟩ = some (.int .i64 (E i))
theorem below_cell {B : Nat} {w w' : World} {a : Addr} {v : Value} (hb : Below B w w') (hB : w.heap.size ≤ B) (h : w.cell? a = some v) : w'.cell? a = some v :=
  (hb.cell (Nat.lt_of_lt_of_le (World.block_lt_of_cell? _ _ h) hB)).trans h
theorem Bds.below {w w' : World} {A : Option Addr} {n : Nat} {F R E : Nat → Int} (h : Bds w A n F R E) (hb : Below w.heap.size w w') : Bds w' A n F R E := fun hn => by
  obtain ⟨b, o, e, hc⟩ := h hn
  exact ⟨b, o, e, fun i hi => ⟨below_cell hb (Nat.le_refl _) (hc i hi).1, below_cell hb (Nat.le_refl _) (hc i hi).2.1, below_cell hb (Nat.le_refl _) (hc i hi).2.2⟩⟩

set_option maxHeartbeats 2000000 in
theorem check_any (A : Option Addr) (n c : Nat) (w : World) (F R E : Nat → Int) (h : Bds w A n F R E) (hn : n ≤ 9223372036854775807) :
    Calls Tryd.prog 137 #[.slice A n c] w fun e w' => e = .returned (.int .i64 (chk F R E n)) ∧ Below w.heap.size w w' := by
  by_cases h1 : n < 1 ∨ 8 < n
  · have hE : chk F R E n = 2 := if_pos h1
    have HE := Lib.hid hE
    clear hE
    rcases h1 with h1 | h1
    · have b1 : ((n : Int) == 0) = true := by simp; omega
      have HB := Lib.hid h1
      clear h1
      go_enter Tryd.func137, Tryd.ntmps137
      go_wp2
      go_ret
      exact ⟨ret_i HE.out.symm, Below.refl _ _⟩
    · have b1 : ((n : Int) == 0) = false := by simp; omega
      go_enter Tryd.func137, Tryd.ntmps137
      go_wp2
      go_ret
      exact ⟨ret_i HE.out.symm, Below.refl _ _⟩
  · have hE : chk F R E n = scanC F R E n := if_neg h1
    have HE := Lib.hid hE
    obtain ⟨b, o, rfl, hc⟩ := h (by omega)
    have b1 : ((n : Int) == 0) = false := by simp; omega
    have n1 : 1 ≤ n := by omega
    have n8 : n ≤ 8 := by omega
    clear hE h1
    go_enter Tryd.func137, Tryd.ntmps137
    go_wp2
    go_loopw [15] (fun k W => ∃ i : Nat, i ≤ n ∧ scanC F R E i = 0 ∧ k = .int .i64 i ∧ Below w.heap.size w W) (fun k _ => n - (intOf k).toNat)
    case atStart => exact ⟨0, Nat.zero_le _, rfl, rfl, Below.refl _ _⟩
    case round =>
      obtain ⟨i, hi, hs, rfl, hb⟩ := hrel
      by_cases hlt : i < n
      · obtain ⟨c0, c1, c2⟩ := hc i hlt
        have d0 := cell_later hb c0
        have d1 := cell_later hb c1
        have d2 := cell_later hb c2
        rename_i W _ _
        by_cases hF1 : F i < 0
        · have hst : stepC F R E i = 1 := if_pos (.inl hF1)
          have HS := Lib.hid ((scan_stop hlt hs (by omega)).trans hst)
          clear hst hs hc h c0 c1 c2
          go_wp2
          go_ret
          exact ⟨ret_i (HE.out.trans HS.out).symm, hb.alloc hb.size _⟩
        · cases hA : amtB (F i)
          · have hA2 := amtB_no hA
            have hst : stepC F R E i = 1 := if_pos (by omega)
            have HS := Lib.hid ((scan_stop hlt hs (by omega)).trans hst)
            have rt := fun W b o => right_at (F i) W b o false hA
            clear hst hs hc h c0 c1 c2 hA2
            go_wp2_with (fail)
            refine (rt _ _ _ (by simp [go_sem])).mono ?_
            rintro e w' ⟨rfl, rfl⟩
            go_wp2
            go_ret
            exact ⟨ret_i (HE.out.trans HS.out).symm, (hb.alloc hb.size _).alloc (by have := hb.size; simp; omega) _⟩
          · have hA2 := amtB_yes hA
            have rt := fun W b o => right_at (F i) W b o true hA
            have hsz := hb.size
            by_cases h0 : i = 0 ∧ F i ≠ 0
            · have hst : stepC F R E i = 1 := if_pos (by omega)
              have HS := Lib.hid ((scan_stop hlt hs (by omega)).trans hst)
              have t1 : ((i : Int) == 0) = true := by simp; omega
              have t2 : (F i != 0) = true := by simp; omega
              clear hst hs hc h c0 c1 c2 hA2 h0
              go_wp2_with (fail)
              refine (rt _ _ _ (by simp [go_sem])).mono ?_
              rintro e w' ⟨rfl, rfl⟩
              go_wp2
              go_ret
              exact ⟨ret_i (HE.out.trans HS.out).symm, (hb.alloc hb.size _).alloc (by simp; omega) _⟩
            · by_cases h6 : 0 < i ∧ F i ≤ F (i - 1)
              · have hst : stepC F R E i = 6 := by
                  unfold stepC
                  rw [if_neg (by omega), if_pos h6]
                have HS := Lib.hid ((scan_stop hlt hs (by omega)).trans hst)
                have t1 : ((i : Int) == 0) = false := by simp; omega
                obtain ⟨p0, _⟩ := hc (i - 1) (by omega)
                have q0 := cell_later hb p0
                have hbl : b < wr.heap.size := World.block_lt_of_cell? _ _ q0
                have hb2 : b ≠ wr.heap.size := by omega
                have hb3 : b ≠ wr.heap.size + 1 := by omega
                obtain ⟨h6a, h6b⟩ := h6
                have e1 : ((i : Int) - 1).toNat = i - 1 := by omega
                have w1 : IntKind.i64.wrap ((i : Int) - 1) = (i : Int) - 1 := IntWalk.i64_in _ (by omega)
                have i0 : 0 ≤ (i : Int) - 1 := by omega
                have i2 : (1 : Int) ≤ (i : Int) := by omega
                have i3 : 1 ≤ i := h6a
                have i1 : (i : Int) - 1 < (n : Int) := by omega
                have g0 : decide (0 < (i : Int)) = true := by simp; omega
                have g1 : decide (0 < i) = true := by simp; omega
                clear hst hs hc h c0 c1 c2 hA2 h0 p0
                go_wp2_with (fail)
                refine (rt _ _ _ (by simp [go_sem])).mono ?_
                rintro e w' ⟨rfl, rfl⟩
                go_wp2
                go_quiet (fail)
                go_wp2
                go_ret
                exact ⟨ret_i (HE.out.trans HS.out).symm, below_drewN ((hb.alloc hb.size _).alloc (by simp; omega) _) _⟩
              · have a1 : 0 ≤ F i := by omega
                have f0 : i = 0 → F i = 0 := by omega
                have f6 : 0 < i → F (i - 1) < F i := by omega
                have a3 : decide (F i < 0) = false := by simp; omega
                clear h0 h6
                by_cases hi0 : i = 0
                · have t1 : ((i : Int) == 0) = true := by simp; omega
                  have t2 : (F i != 0) = false := by have := f0 hi0; simp; omega
                  have g0 : decide (0 < (i : Int)) = false := by simp; omega
                  have g1 : decide (0 < i) = false := by simp; omega
                  cases hr : rateB (R i)
                  · have hst : stepC F R E i = 50 := by
                      unfold stepC
                      rw [if_neg (by omega), if_neg (by omega), hr]
                      rfl
                    have HS := Lib.hid ((scan_stop hlt hs (by omega)).trans hst)
                    have cr := rate_b (R i) false hr
                    clear hst hs hc h c0 c1 c2 hA2 f0 f6 hi0
                    go_wp2_with (fail)
                    refine (rt _ _ _ (by simp [go_sem])).mono ?_
                    rintro e w' ⟨rfl, rfl⟩
                    go_wp2
                    go_quiet (fail)
                    go_wp2_with (fail)
                    refine (cr _).mono ?_
                    rintro e w' ⟨rfl, rfl⟩
                    go_wp2
                    go_ret
                    exact ⟨ret_i (HE.out.trans HS.out).symm, below_drewN ((hb.alloc hb.size _).alloc (by simp; omega) _) _⟩
                  · cases he : rateB (E i)
                    · have hst : stepC F R E i = 50 := by
                        unfold stepC
                        rw [if_neg (by omega), if_neg (by omega), hr, he]
                        rfl
                      have HS := Lib.hid ((scan_stop hlt hs (by omega)).trans hst)
                      have cr := rate_b (R i) true hr
                      have ce := rate_b (E i) false he
                      clear hst hs hc h c0 c1 c2 hA2 f0 f6 hi0
                      go_wp2_with (fail)
                      refine (rt _ _ _ (by simp [go_sem])).mono ?_
                      rintro e w' ⟨rfl, rfl⟩
                      go_wp2
                      go_quiet (fail)
                      go_wp2_with (fail)
                      refine (cr _).mono ?_
                      rintro e w' ⟨rfl, rfl⟩
                      go_wp2_with (fail)
                      refine (ce _).mono ?_
                      rintro e w' ⟨rfl, rfl⟩
                      go_wp2
                      go_ret
                      exact ⟨ret_i (HE.out.trans HS.out).symm, below_drewN ((hb.alloc hb.size _).alloc (by simp; omega) _) _⟩
                    · have hst : stepC F R E i = 0 := by
                        unfold stepC
                        rw [if_neg (by omega), if_neg (by omega), hr, he]
                        rfl
                      have HS := Lib.hid (scan_succ hs hst)
                      have cr := rate_b (R i) true hr
                      have ce := rate_b (E i) true he
                      clear hst hs hc h c0 c1 c2 hA2 f0 f6 hi0
                      go_wp2_with (fail)
                      refine (rt _ _ _ (by simp [go_sem])).mono ?_
                      rintro e w' ⟨rfl, rfl⟩
                      go_wp2
                      go_quiet (fail)
                      go_wp2_with (fail)
                      refine (cr _).mono ?_
                      rintro e w' ⟨rfl, rfl⟩
                      go_wp2_with (fail)
                      refine (ce _).mono ?_
                      rintro e w' ⟨rfl, rfl⟩
                      go_wp2
                      go_roundw
                      case rel => exact ⟨i + 1, by omega, HS.out, by go_num, below_drewN ((hb.alloc hb.size _).alloc (by simp; omega) _) _⟩
                      case measure => first | omega | (simp [intOf]; omega)
                · have t1 : ((i : Int) == 0) = false := by simp; omega
                  obtain ⟨p0, _⟩ := hc (i - 1) (by omega)
                  have q0 := cell_later hb p0
                  have hbl : b < wr.heap.size := World.block_lt_of_cell? _ _ q0
                  have hb2 : b ≠ wr.heap.size := by omega
                  have hb3 : b ≠ wr.heap.size + 1 := by omega
                  have h6a : 0 < i := by omega
                  have h6b : ¬ F i ≤ F (i - 1) := by have := f6 h6a; omega
                  have e1 : ((i : Int) - 1).toNat = i - 1 := by omega
                  have w1 : IntKind.i64.wrap ((i : Int) - 1) = (i : Int) - 1 := IntWalk.i64_in _ (by omega)
                  have i0 : 0 ≤ (i : Int) - 1 := by omega
                  have i2 : (1 : Int) ≤ (i : Int) := by omega
                  have i3 : 1 ≤ i := h6a
                  have i1 : (i : Int) - 1 < (n : Int) := by omega
                  have g0 : decide (0 < (i : Int)) = true := by simp; omega
                  have g1 : decide (0 < i) = true := by simp; omega
                  cases hr : rateB (R i)
                  · have hst : stepC F R E i = 50 := by
                      unfold stepC
                      rw [if_neg (by omega), if_neg (by omega), hr]
                      rfl
                    have HS := Lib.hid ((scan_stop hlt hs (by omega)).trans hst)
                    have cr := rate_b (R i) false hr
                    clear hst hs hc h c0 c1 c2 hA2 f0 f6 hi0
                    go_wp2_with (fail)
                    refine (rt _ _ _ (by simp [go_sem])).mono ?_
                    rintro e w' ⟨rfl, rfl⟩
                    go_wp2
                    go_quiet (fail)
                    go_wp2_with (fail)
                    refine (cr _).mono ?_
                    rintro e w' ⟨rfl, rfl⟩
                    go_wp2
                    go_ret
                    exact ⟨ret_i (HE.out.trans HS.out).symm, below_drewN ((hb.alloc hb.size _).alloc (by simp; omega) _) _⟩
                  · cases he : rateB (E i)
                    · have hst : stepC F R E i = 50 := by
                        unfold stepC
                        rw [if_neg (by omega), if_neg (by omega), hr, he]
                        rfl
                      have HS := Lib.hid ((scan_stop hlt hs (by omega)).trans hst)
                      have cr := rate_b (R i) true hr
                      have ce := rate_b (E i) false he
                      clear hst hs hc h c0 c1 c2 hA2 f0 f6 hi0
                      go_wp2_with (fail)
                      refine (rt _ _ _ (by simp [go_sem])).mono ?_
                      rintro e w' ⟨rfl, rfl⟩
                      go_wp2
                      go_quiet (fail)
                      go_wp2_with (fail)
                      refine (cr _).mono ?_
                      rintro e w' ⟨rfl, rfl⟩
                      go_wp2_with (fail)
                      refine (ce _).mono ?_
                      rintro e w' ⟨rfl, rfl⟩
                      go_wp2
                      go_ret
                      exact ⟨ret_i (HE.out.trans HS.out).symm, below_drewN ((hb.alloc hb.size _).alloc (by simp; omega) _) _⟩
                    · have hst : stepC F R E i = 0 := by
                        unfold stepC
                        rw [if_neg (by omega), if_neg (by omega), hr, he]
                        rfl
                      have HS := Lib.hid (scan_succ hs hst)
                      have cr := rate_b (R i) true hr
                      have ce := rate_b (E i) true he
                      clear hst hs hc h c0 c1 c2 hA2 f0 f6 hi0
                      go_wp2_with (fail)
                      refine (rt _ _ _ (by simp [go_sem])).mono ?_
                      rintro e w' ⟨rfl, rfl⟩
                      go_wp2
                      go_quiet (fail)
                      go_wp2_with (fail)
                      refine (cr _).mono ?_
                      rintro e w' ⟨rfl, rfl⟩
                      go_wp2_with (fail)
                      refine (ce _).mono ?_
                      rintro e w' ⟨rfl, rfl⟩
                      go_wp2
                      go_roundw
                      case rel => exact ⟨i + 1, by omega, HS.out, by go_num, below_drewN ((hb.alloc hb.size _).alloc (by simp; omega) _) _⟩
                      case measure => first | omega | (simp [intOf]; omega)
      · obtain rfl : i = n := by omega
        have HS := Lib.hid hs
        clear hs hc h
        go_wp2
        go_ret
        exact ⟨ret_i (HE.out.trans HS.out).symm, hb⟩
end Go.Proofs.YtffihnbpjcgicaaDoor

/- What the calls of band answer that seek among bands: Find, Top. -/
namespace Go.Proofs.YtffihnbpjcgicaaDoor
open Go.RowKit

set_option maxHeartbeats 1000000 in
theorem find_any (x : Int) (A : Option Addr) (n c : Nat) (w : World) (F R E : Nat → Int) (h : Bds w A n F R E) (h1 : 1 ≤ n) (hn : n ≤ 9223372036854775807) :
    Calls Tryd.prog 190 #[.int .i64 x, .slice A n c] w fun e w' => e = .returned (.int .i64 (fnd F x n : Nat)) ∧ w = w' := by
  obtain ⟨b, o, rfl, hc⟩ := h (by omega)
  have w1 : IntKind.i64.wrap ((n : Int) - 1) = (n : Int) - 1 := IntWalk.i64_in _ (by omega)
  have k1 : (n : Int) - 1 = ((n - 1 : Nat) : Int) := by omega
  have K1 := Lib.hid k1
  clear k1
  go_enter Tryd.func190, Tryd.ntmps190
  go_wp2
  go_loop [5] (fun v => ∃ k : Nat, k + 1 ≤ n ∧ fnd F x n = fnd F x (k + 1) ∧ v = .int .i64 k) (fun v => (intOf v).toNat)
  case atStart => exact ⟨n - 1, by omega, by congr 1; omega, by rw [← K1.out]⟩
  case round =>
    obtain ⟨k, hk, hf, rfl⟩ := hrel
    obtain ⟨c0, -, -⟩ := hc k (by omega)
    by_cases h0 : 0 < k
    · by_cases hx : F k < x
      · have e : fnd F x n = k := hf.trans (if_pos ⟨h0, hx⟩)
        have HE := Lib.hid e
        clear e hf hc h
        go_wp2
        go_ret
        exact ⟨ret_i (by rw [HE.out]), rfl⟩
      · have e : fnd F x n = fnd F x (k - 1 + 1) := hf.trans ((if_neg (by omega)).trans (by congr 1; omega))
        have HE := Lib.hid e
        clear e hf hc h
        go_wp2
        go_round
        case rel => exact ⟨k - 1, by omega, HE.out, by congr 1; omega⟩
        case measure => first | omega | (simp [intOf]; omega)
    · have e : fnd F x n = 0 := by
        rw [hf]
        have : k = 0 := by omega
        subst this
        rfl
      have HE := Lib.hid e
      clear e hf hc h
      go_wp2
      go_ret
      exact ⟨ret_i (by rw [HE.out]; rfl), rfl⟩

end Go.Proofs.YtffihnbpjcgicaaDoor

/- What the calls of band answer that reckon: by, Exact, Employer, Between. -/
namespace Go.Proofs.YtffihnbpjcgicaaDoor
open Go.RowKit Go.Sort
set_option linter.unusedVariables false

theorem mixedAll : Tryd.prog.follows .mixedOrders = true := by kernel_rfl

theorem clo_Exact (i n c p : Nat) (A : Option Addr) (F R E : Nat → Int) (W : World) (h : Bds W A n F R E) (hp : W.cell? ⟨p, 0, none⟩ = some (.slice A n c)) (hi : i < n) (hn : n ≤ 9223372036854775807) :
    Calls Tryd.prog 185 #[.int .i64 i, .pointer (some ⟨p, 0, none⟩)] W fun e w' => e = .returned (.int .i64 (R i)) ∧ Below W.heap.size W w' := by
  obtain ⟨b, o, rfl, hc⟩ := h (by omega)
  have c1 := (hc i hi).2.1
  clear hc h
  go_enter Tryd.func185, Tryd.ntmps185
  go_wp2
  go_ret
  exact ⟨rfl, Below.refl _ _⟩

def fvR (p : Nat) : Value := .func (.func 185) #[] #[.pointer (some ⟨p, 0, none⟩)]
/-- what holds at each pass of by's label -/
def ByJ (w : World) (fv : Value) (x : Int) (A : Option Addr) (n c : Nat) (F V : Nat → Int) (S : Int) (a : Act) (W : World) : Prop :=
  ∃ (i : Nat) (l s : Int) (u3 u4 u5 u8 u12 u13 u14 u15 u16 u17 u18 u19 u20 u21 u22 u23 u24 u25 u26 u27 u28 u29 u30 u31 u32 u33 u34 u35 u36 u37 u38 u39 u40 u41 u42 u43 u44 u45 u46 u47 u48 u49 u50 u51 u52 u53 u54 : Value), a = { tmps := #[fv, .int .i64 x, .slice A n c, u3, u4, u5, .int .i64 0, .int .i64 0, u8, .int .i64 s, .int .i64 l, .int .i64 (i : Nat), u12, u13, u14, u15, u16, u17, u18, u19, u20, u21, u22, u23, u24, u25, u26, u27, u28, u29, u30, u31, u32, u33, u34, u35, u36, u37, u38, u39, u40, u41, u42, u43, u44, u45, u46, u47, u48, u49, u50, u51, u52, u53, u54], defers := [] } ∧ i < n ∧ F i ≤ l ∧ l ≤ 100000000000 ∧ 0 ≤ s ∧ s + lowb F V i l = S ∧ Below w.heap.size w W
def ByM (a : Act) : Nat := (intOf (a.tmps.getD 11 undef)).toNat

theorem jump_mono {l : Nat} {J J' : Act → World → Prop} {Q : Exit → Act → World → Prop} (h : ∀ a w, J a w → J' a w) (e : Exit) (a : Act) (w : World) (k : Exit.jump l J Q e a w) : Exit.jump l J' Q e a w := by
  cases e <;> first | exact k | exact ⟨k.1, h _ _ k.2⟩
/-- a scope whose first way comes to the label itself -/
theorem scope_jumps {P : Program} {a : Act} {w : World} {Q : Exit → Act → World → Prop} {c rest : Code} (l : Nat) (J : Act → World → Prop) (μ : Act → World → Nat) (hf : findLabel c l = some (.seq .skip rest))
    (pass : ∀ a w, J a w → rest.wp P (Exit.jump l (fun a' w' => J a' w' ∧ μ a' w' < μ a w) Q) a w)
    (first : (∀ a w, J a w → rest.wp P (Exit.jump l J Q) a w) → c.wp P (Exit.jump l J Q) a w) : (Code.scope c).wp P Q a w :=
  wp_scope_jumps l J μ hf (first fun a w h => wp_mono (pass a w h) (jump_mono fun _ _ k => k.1)) fun a w h => wp_seq (wp_skip (pass a w h))

set_option maxHeartbeats 4000000 in
set_option maxRecDepth 100000 in
theorem by_okR (p n c : Nat) (x : Int) (A : Option Addr) (F R E : Nat → Int) (w : World) (h : Bds w A n F R E) (hp : w.cell? ⟨p, 0, none⟩ = some (.slice A n c)) (hok : Okb F R E n) (hx : amtB x = true) :
    Calls Tryd.prog 184 #[fvR p, .int .i64 x, .slice A n c] w fun e w' => e = .returned (.tuple #[.int .i64 (exactV F R n x), .int .i64 0]) ∧ Below w.heap.size w w' := by
  have ck := check_any A n c w F R E h (by have := hok.2.1; omega)
  rw [chk_of hok] at ck
  obtain ⟨o1, o2, oI, oF, oR, oE⟩ := hok
  obtain ⟨x1, x2⟩ := amtB_yes hx
  have fd := fun (W : World) (hW : Bds W A n F R E) => find_any x A n c W F R E hW o1 (by omega)
  have hS := exact_bd (R := R) o1 oI oF oR x2
  have hl := find_left oI x
  have hfn := fnd_lt F x (n := n) (by omega)
  have HS : Hid (exactV F R n x = lowb F R (fnd F x n) (max x 0)) := Lib.hid rfl
  have e0 : (x < 0 ∧ max x 0 = 0) ∨ (0 ≤ x ∧ max x 0 = x) := by omega
  generalize exactV F R n x = S at *
  generalize fnd F x n = j at *
  generalize max x 0 = L at *
  go_enter Tryd.func184, Tryd.ntmps184
  go_wp2_with (fail)
  refine scope_jumps 0 (ByJ w (fvR p) x A n c F R S) (fun a _ => ByM a) rfl ?_ ?_
  · rintro a W ⟨i, l, s, u3, u4, u5, u8, u12, u13, u14, u15, u16, u17, u18, u19, u20, u21, u22, u23, u24, u25, u26, u27, u28, u29, u30, u31, u32, u33, u34, u35, u36, u37, u38, u39, u40, u41, u42, u43, u44, u45, u46, u47, u48, u49, u50, u51, u52, u53, u54, rfl, hi, hl1, hl2, hs0, hsum, hb⟩
    have hB := h.below hb
    have hpW := cell_later hb hp
    have hVi := oR i hi
    have hFi := oF i hi
    have hA : amtB (l - F i) = true := amtB_mk (by omega) (by omega)
    have hR : rateB (R i) = true := rateB_mk hVi.1 hVi.2
    have pt := fun W' => part_ok (l - F i) (R i) W' hA hR
    have cA := fun (d : Nat) (os : Array Obj) => Calls.regrown_of (d := d) (os := os) (w := W) (clo_Exact i n c p A F R E (grow (redrawn W d) os) (hB.below (below_regrown W d os)) (cell_regrown hpW d os) hi (by omega))
    have cB := fun (d : Nat) (os : Array Obj) => Calls.regrown_of (d := d) (os := os) (w := W) (pt (grow (redrawn W d) os))
    obtain ⟨b, o, rfl, hc⟩ := hB (by omega)
    obtain ⟨c0, c1, c2⟩ := hc i hi
    have k0 := fun d os => cell_regrown c0 d os
    have hlow : ∀ j, i = j + 1 → 0 ≤ lowb F R j (F i) ∧ s + (l - F i) * R i + lowb F R j (F i) = S := fun j hj => by
      subst hj
      have h1 := low_nn oI oR (j := j) (l := F (j + 1)) (by omega) (by have := inc_lt oI (i := j) (j := j + 1) (by omega) hi; omega)
      have h2 : lowb F R (j + 1) l = (l - F (j + 1)) * R (j + 1) + lowb F R j (F (j + 1)) := rfl
      omega
    have hzero : i = 0 → s + (l - F i) * R i = S := fun hj => by
      subst hj
      have h2 : lowb F R 0 l = (l - F 0) * R 0 := rfl
      omega
    have hP := Int.mul_nonneg (show 0 ≤ l - F i by omega) hVi.1
    have hP2 : s + (l - F i) * R i ≤ S := by
      by_cases h0 : i = 0
      · have := hzero h0; omega
      · have := hlow (i - 1) (by omega); omega
    obtain ⟨f1, f2⟩ := hFi
    generalize (l - F i) * R i = P at *
    have hS1 := hS.1
    have hS2 := hS.2
    unfold fvR
    have l1 : -9223372036854775808 ≤ l - F i := by omega
    have l2 : l - F i ≤ 9223372036854775807 := by omega
    have wl : IntKind.i64.wrap (l - F i) = l - F i := IntWalk.i64_in _ (by omega)
    have hib : (i : Int) < (n : Int) := by omega
    have hin : i ≤ n := by omega
    have HL := Lib.hid hlow
    have HZ := Lib.hid hzero
    have HSUM := Lib.hid hsum
    have HCK := Lib.hid ck
    have HB0 := Lib.hid h
    have HFD := Lib.hid fd
    clear hlow hzero hsum ck h fd pt hA hR hVi hc hB hpW hp c1 c2 e0 HS hS hl hfn
    go_wp2_with (fail)
    refine wp_region_quiet_below mixedAll (by kernel_rfl) ?_
    iterate 9 (go_big_quiet_step (fail))
    go_big_quiet_step (exact cA _ _)
    go_big_quiet_step (exact cB _ _)
    repeat (go_big_quiet_step (fail))
    refine wpQuiet_nil ?_
    intro _ hw'
    obtain ⟨⟨dq, osq⟩, hw''⟩ := hw'
    subst hw''
    have hb3 := hb.trans ((below_regrown W dq osq).mono hb.size)
    have c0' := k0 dq osq
    generalize grow (redrawn W dq) osq = W3 at *
    clear cA cB k0 c0 hb
    by_cases h0 : i = 0
    · have t1 : ((i : Int) == 0) = true := by simp; omega
      have HE := Lib.hid (HZ.out h0)
      clear h0
      go_wp2
      simp only [Exit.jump]
      go_ret2
      exact ⟨ret_ii HE.out rfl, hb3⟩
    · have t1 : ((i : Int) == 0) = false := by simp; omega
      have HE := Lib.hid (HL.out (i - 1) (by omega))
      have hle := inc_lt oI (i := i - 1) (j := i) (by omega) hi
      have hi1 : 1 ≤ i := by omega
      clear h0
      go_wp2
      go_step3
      rw [show ((i : Int) - 1) = ((i - 1 : Nat) : Int) by omega]
      refine ⟨rfl, ⟨i - 1, F i, s + P, _, _, _, _, _, _, _, _, _, _, _, _, _, _, _, _, _, _, _, _, _, _, _, _, _, _, _, _, _, _, _, _, _, _, _, _, _, _, _, _, _, _, _, _, _, _, _, rfl, by omega, by omega, f2, by omega, HE.out.2, hb3⟩, ?_⟩
      simp [ByM, intOf]
      omega
  · intro pass
    rcases e0 with ⟨e1, e2⟩ | ⟨e1, e2⟩
    all_goals
      first | (have e3 : x = L := e2.symm; subst e3; clear e2) | (subst e2)
      go_wp2_with (fail)
      refine ck.mono ?_
      rintro e w1 ⟨rfl, hb1⟩
      go_wp2_with (fail)
      refine (right_at x _ _ _ true hx (by simp [go_sem])).mono ?_
      rintro e w' ⟨rfl, rfl⟩
      have hb2 := hb1.alloc hb1.size (Obj.cells #[Value.int IntKind.i64 x] 2)
      have hB2 := h.below hb2
      generalize w1.alloc _ = w2 at *
      go_wp2_with (fail)
      refine (fd _ hB2).mono ?_
      rintro e w' ⟨rfl, rfl⟩
      go_wp2_with (fail)
      go_step3
      first | (rename_i hk; refine hk _ _ (pass _ _ ?_)) | (rename_i hk _; refine hk _ _ (pass _ _ ?_)) | (rename_i hk _ _; refine hk _ _ (pass _ _ ?_)) | (rename_i hk _ _ _; refine hk _ _ (pass _ _ ?_)) | (rename_i hk _ _ _ _; refine hk _ _ (pass _ _ ?_)) | (rename_i hk _ _ _ _ _; refine hk _ _ (pass _ _ ?_)) | (rename_i hk _ _ _ _ _ _; refine hk _ _ (pass _ _ ?_)) | (rename_i hk _ _ _ _ _ _ _; refine hk _ _ (pass _ _ ?_))
      exact ⟨j, _, 0, _, _, _, _, _, _, _, _, _, _, _, _, _, _, _, _, _, _, _, _, _, _, _, _, _, _, _, _, _, _, _, _, _, _, _, _, _, _, _, _, _, _, _, _, _, _, _, rfl, hfn, hl, by omega, by omega, by rw [HS.out]; omega, hb2⟩

set_option maxRecDepth 100000 in
set_option maxHeartbeats 1000000 in
theorem by_chk (fv : Value) (n c : Nat) (x : Int) (A : Option Addr) (F R E : Nat → Int) (w : World) (h : Bds w A n F R E) (hn : n ≤ 9223372036854775807) (hbad : chk F R E n ≠ 0) :
    Calls Tryd.prog 184 #[fv, .int .i64 x, .slice A n c] w fun e w' => e = .returned (.tuple #[.int .i64 0, .int .i64 (chk F R E n)]) ∧ Below w.heap.size w w' := by
  have ck := check_any A n c w F R E h hn
  have hne : (chk F R E n != 0) = true := by simpa using hbad
  generalize chk F R E n = k at *
  clear hbad
  go_enter Tryd.func184, Tryd.ntmps184
  go_wp2_with (fail)
  go_step3
  go_wp2_with (fail)
  refine ck.mono ?_
  rintro e w1 ⟨rfl, hb1⟩
  go_wp2
  try rw [Exit.noGoto_ret]
  go_ret2
  exact ⟨rfl, hb1⟩
set_option maxRecDepth 100000 in
set_option maxHeartbeats 1000000 in
theorem by_amt (fv : Value) (n c : Nat) (x : Int) (A : Option Addr) (F R E : Nat → Int) (w : World) (h : Bds w A n F R E) (hok : Okb F R E n) (hx : amtB x = false) :
    Calls Tryd.prog 184 #[fv, .int .i64 x, .slice A n c] w fun e w' => e = .returned (.tuple #[.int .i64 0, .int .i64 10]) ∧ Below w.heap.size w w' := by
  have ck := check_any A n c w F R E h (by have := hok.2.1; omega)
  rw [chk_of hok] at ck
  go_enter Tryd.func184, Tryd.ntmps184
  go_wp2_with (fail)
  go_step3
  go_wp2_with (fail)
  refine ck.mono ?_
  rintro e w1 ⟨rfl, hb1⟩
  go_wp2_with (fail)
  refine (right_at x _ _ _ false hx (by simp [go_sem])).mono ?_
  rintro e w' ⟨rfl, rfl⟩
  go_wp2
  try rw [Exit.noGoto_ret]
  go_ret2
  exact ⟨rfl, hb1.alloc hb1.size _⟩

theorem Exact_chk (n c : Nat) (x : Int) (A : Option Addr) (F R E : Nat → Int) (w : World) (h : Bds w A n F R E) (hn : n ≤ 9223372036854775807) (hbad : chk F R E n ≠ 0) :
    Calls Tryd.prog 173 #[.int .i64 x, .slice A n c] w fun e w' => e = .returned (.tuple #[.int .i64 0, .int .i64 (chk F R E n)]) ∧ Below w.heap.size w w' := by
  have hb0 : Below w.heap.size w (w.alloc (.cells #[.slice A n c] 151)) := (Below.refl _ _).alloc (Nat.le_refl _) _
  have hc := by_chk (fvR w.heap.size) n c x A F R E _ (h.below hb0) hn hbad
  unfold fvR at hc
  generalize chk F R E n = k at *
  clear hbad
  have hmf : ∀ (fn : Fn) (first cap : Array Value) (w : World), (Instr.makeFunc fn first cap).run Tryd.prog w = .ok (.func fn first cap) w := fun _ _ _ _ => rfl
  go_enter Tryd.func173, Tryd.ntmps173
  go_wp2_with (fail)
  refine hc.mono ?_
  rintro e w1 ⟨rfl, hb1⟩
  go_wp2
  go_ret2
  exact ⟨rfl, hb0.trans (hb1.mono hb0.size)⟩
theorem Exact_amt (n c : Nat) (x : Int) (A : Option Addr) (F R E : Nat → Int) (w : World) (h : Bds w A n F R E) (hok : Okb F R E n) (hx : amtB x = false) :
    Calls Tryd.prog 173 #[.int .i64 x, .slice A n c] w fun e w' => e = .returned (.tuple #[.int .i64 0, .int .i64 10]) ∧ Below w.heap.size w w' := by
  have hb0 : Below w.heap.size w (w.alloc (.cells #[.slice A n c] 151)) := (Below.refl _ _).alloc (Nat.le_refl _) _
  have hc := by_amt (fvR w.heap.size) n c x A F R E _ (h.below hb0) hok hx
  unfold fvR at hc
  have hmf : ∀ (fn : Fn) (first cap : Array Value) (w : World), (Instr.makeFunc fn first cap).run Tryd.prog w = .ok (.func fn first cap) w := fun _ _ _ _ => rfl
  go_enter Tryd.func173, Tryd.ntmps173
  go_wp2_with (fail)
  refine hc.mono ?_
  rintro e w1 ⟨rfl, hb1⟩
  go_wp2
  go_ret2
  exact ⟨rfl, hb0.trans (hb1.mono hb0.size)⟩
theorem Exact_ok (n c : Nat) (x : Int) (A : Option Addr) (F R E : Nat → Int) (w : World) (h : Bds w A n F R E) (hok : Okb F R E n) (hx : amtB x = true) :
    Calls Tryd.prog 173 #[.int .i64 x, .slice A n c] w fun e w' => e = .returned (.tuple #[.int .i64 (exactV F R n x), .int .i64 0]) ∧ Below w.heap.size w w' := by
  have hb0 : Below w.heap.size w (w.alloc (.cells #[.slice A n c] 151)) := (Below.refl _ _).alloc (Nat.le_refl _) _
  have hc := by_okR w.heap.size n c x A F R E _ (h.below hb0) (by simp [World.cell?_alloc_new]) hok hx
  unfold fvR at hc
  generalize exactV F R n x = v at *
  have hmf : ∀ (fn : Fn) (first cap : Array Value) (w : World), (Instr.makeFunc fn first cap).run Tryd.prog w = .ok (.func fn first cap) w := fun _ _ _ _ => rfl
  go_enter Tryd.func173, Tryd.ntmps173
  go_wp2_with (fail)
  refine hc.mono ?_
  rintro e w1 ⟨rfl, hb1⟩
  go_wp2
  go_ret2
  exact ⟨rfl, hb0.trans (hb1.mono hb0.size)⟩

end Go.Proofs.YtffihnbpjcgicaaDoor
