/- What the calls of table answer that look over the head and the schemes. -/
import Derived.Test.YtffihnbpjcgicaaTblK
import Derived.Test.YtffihnbpjcgicaaStp
namespace Go.Proofs.Ytffihnbpjcgicaa
open Go.RowKit
set_option linter.unusedVariables false
set_option linter.unusedSimpArgs false

theorem head_any (w : World) (A1 A2 A3 : Option Addr) (n1 n2 n3 c1 c2 c3 : Nat) (L W : Int) :
    Calls Try.prog 24 #[.agg #[.slice A1 n1 c1, .slice A2 n2 c2, .slice A3 n3 c3, .int .i64 L, .int .i64 W]] w fun e w' => e = .returned (.int .i64 (headE L W)) ∧ Below w.heap.size w w' := by
  unfold headE
  cases hr : rateB L
  · have c := rate_b L false hr
    clear hr
    go_enter Try.func24, Try.ntmps24
    go_wp2_with (fail)
    refine (c _).mono ?_
    rintro e w' ⟨rfl, rfl⟩
    go_wp2
    go_ret
    exact ⟨rfl, (Below.refl _ _).alloc (Nat.le_refl _) _⟩
  · have c := rate_b L true hr
    cases hm : modeB W
    · have d := mode_b W false hm
      clear hr hm
      go_enter Try.func24, Try.ntmps24
      go_wp2_with (fail)
      refine (c _).mono ?_
      rintro e w' ⟨rfl, rfl⟩
      go_wp2_with (fail)
      refine (d _).mono ?_
      rintro e w' ⟨rfl, rfl⟩
      go_wp2
      go_ret
      exact ⟨rfl, (Below.refl _ _).alloc (Nat.le_refl _) _⟩
    · have d := mode_b W true hm
      clear hr hm
      go_enter Try.func24, Try.ntmps24
      go_wp2_with (fail)
      refine (c _).mono ?_
      rintro e w' ⟨rfl, rfl⟩
      go_wp2_with (fail)
      refine (d _).mono ?_
      rintro e w' ⟨rfl, rfl⟩
      go_wp2
      go_ret
      exact ⟨rfl, (Below.refl _ _).alloc (Nat.le_refl _) _⟩
/-- has a band a rate of the employer's? -/
theorem emp_any (f r e : Int) (w : World) :
    Calls Try.prog 36 #[.agg #[.int .i64 f, .int .i64 r, .int .i64 e]] w fun x w' => x = .returned (.bool (e != 0)) ∧ Below w.heap.size w w' := by
  go_enter Try.func36, Try.ntmps36
  go_wp2
  go_ret
  exact ⟨rfl, (Below.refl _ _).alloc (Nat.le_refl _) _⟩
theorem emp_b (f r e : Int) (v : Bool) (h : (e != 0) = v) (w : World) :
    Calls Try.prog 36 #[.agg #[.int .i64 f, .int .i64 r, .int .i64 e]] w fun x w' => x = .returned (.bool v) ∧ Below w.heap.size w w' := by
  subst h; exact emp_any f r e w
set_option maxHeartbeats 1000000 in
theorem idxband_any (A : Option Addr) (n c : Nat) (w : World) (F R E : Nat → Int) (h : Bds w A n F R E) (hn : n ≤ 9223372036854775807) :
    Calls Try.prog 48 #[.slice A n c, .func (.func 36) #[] #[]] w fun e w' => e = .returned (.int .i64 (idxN (fun j => E j != 0) n)) ∧ Below w.heap.size w w' := by
  by_cases h0 : n = 0
  · subst h0
    go_enter Try.func48, Try.ntmps48
    go_wp2
    go_loopw [8] (fun k W => k = .int .i64 0 ∧ Below w.heap.size w W) (fun k _ => 0)
    case atStart => exact ⟨rfl, Below.refl _ _⟩
    case round =>
      obtain ⟨rfl, hb⟩ := hrel
      go_wp2
      go_ret
      exact ⟨rfl, hb⟩
  obtain ⟨b, o, rfl, hc⟩ := h (by omega)
  have HC := Lib.hid hc
  clear hc h
  go_enter Try.func48, Try.ntmps48
  go_wp2
  go_loopw [8] (fun k W => ∃ i : Nat, i ≤ n ∧ Hid (∀ j, j < i → (E j != 0) = false) ∧ k = .int .i64 i ∧ Below w.heap.size w W) (fun k _ => n - (intOf k).toNat)
  case atStart => exact ⟨0, Nat.zero_le _, Lib.hid fun j hj => absurd hj (Nat.not_lt_zero _), rfl, Below.refl _ _⟩
  case round =>
    obtain ⟨i, hi, hs, rfl, hb⟩ := hrel
    by_cases hlt : i < n
    · obtain ⟨c0, c1, c2⟩ := HC.out i hlt
      have d0 := cell_later hb c0
      have d1 := cell_later hb c1
      have d2 := cell_later hb c2
      clear c0 c1 c2
      cases hv : (E i != 0)
      · have f := emp_b (F i) (R i) (E i) false hv
        have HS : Hid (∀ j, j < i + 1 → (E j != 0) = false) := Lib.hid fun j hj => by
          by_cases e : j = i
          · subst e; exact hv
          · exact hs.out j (by omega)
        clear hv hs
        go_wp2_with (fail)
        refine (f _).mono ?_
        rintro e w2 ⟨rfl, hb2⟩
        go_wp2
        go_roundw
        case rel => exact ⟨i + 1, by omega, HS, by go_num, below_step hb hb2 hb.size⟩
        case measure => first | omega | (simp [intOf]; omega)
      · have f := emp_b (F i) (R i) (E i) true hv
        have HS := Lib.hid (idx_stop (p := fun j => E j != 0) hlt hs.out hv)
        clear hv hs
        go_wp2_with (fail)
        refine (f _).mono ?_
        rintro e w2 ⟨rfl, hb2⟩
        go_wp2
        go_ret
        exact ⟨ret_i HS.out.symm, below_step hb hb2 hb.size⟩
    · obtain rfl : i = n := by omega
      have HS := Lib.hid (idx_none (p := fun j => E j != 0) hs.out)
      clear hs
      go_wp2
      go_ret
      exact ⟨ret_i HS.out.symm, hb⟩
theorem emps_any (A : Option Addr) (n c : Nat) (w : World) (F R E : Nat → Int) (h : Bds w A n F R E) (hn : n ≤ 9223372036854775807) (v : Bool) (hv : decide (0 ≤ idxN (fun j => E j != 0) n) = v) :
    Calls Try.prog 35 #[.slice A n c, .func (.func 36) #[] #[]] w fun e w' => e = .returned (.bool v) ∧ Below w.heap.size w w' := by
  have f := idxband_any A n c w F R E h hn
  subst hv
  generalize idxN (fun j => E j != 0) n = x at *
  go_enter Try.func35, Try.ntmps35
  go_wp2_with (fail)
  refine f.mono ?_
  rintro e w2 ⟨rfl, hb2⟩
  go_wp2
  go_ret
  exact ⟨rfl, hb2⟩
end Go.Proofs.Ytffihnbpjcgicaa
