/- What frac.Add answers, of exact amounts wherever they lie: one by one from 0 on. -/
import Derived.Test.YtjjeohnejhhacaaFracC
namespace Go.Proofs.Ytjjeohnejhhacaa
open Go.RowKit

/-- the sum of the first ones, if each sum on the way may be -/
def exAcc (f : Nat → Int) : Nat → Option Int
  | 0 => some 0
  | i + 1 => match exAcc f i with
    | some s => if (exB (f i) && exB (s + f i)) = true then some (s + f i) else none
    | none => none
theorem exAcc_b (f : Nat → Int) : ∀ (i : Nat) (s : Int), exAcc f i = some s → -1000000000000000 ≤ s ∧ s ≤ 1000000000000000
  | 0, s, h => by simp [exAcc] at h; omega
  | i + 1, s, h => by
    simp only [exAcc] at h
    split at h
    · split at h
      · rename_i t ht hb
        simp only [Option.some.injEq] at h
        subst h
        exact exB_yes (Bool.and_eq_true_iff.1 hb).2
      · cases h
    · cases h
theorem exAcc_none (f : Nat → Int) {i : Nat} (h : exAcc f i = none) : ∀ n, i ≤ n → exAcc f n = none := by
  intro n hn
  induction n with
  | zero => obtain rfl : i = 0 := by omega
            exact h
  | succ k ih =>
    by_cases e : i = k + 1
    · subst e; exact h
    · simp only [exAcc]
      rw [ih (by omega)]

set_option maxHeartbeats 1000000 in
theorem exadd_any (A : Option Addr) (n c : Nat) (w : World) (f : Nat → Int) (h : rowAt w A n fun i => .int .i64 (f i)) (hn : n ≤ 4611686018427387904) (r : Int) (k : Int)
    (hr : (exAcc f n = some r ∧ k = 0) ∨ (exAcc f n = none ∧ r = 0 ∧ k = 10)) :
    Calls Try.prog 15 #[.slice A n c] w fun e w' => e = .returned (.tuple #[.int .i64 r, .int .i64 k]) ∧ w = w' := by
  have HR := Lib.hid hr
  clear hr
  go_enter Try.func15, Try.ntmps15
  go_wp2
  go_loop [4, 9] (fun p q => ∃ (i : Nat) (s : Int), i ≤ n ∧ exAcc f i = some s ∧ p = .int .i64 s ∧ q = .int .i64 i) (fun _ q => n - (intOf q).toNat)
  case atStart => exact ⟨0, 0, Nat.zero_le _, rfl, rfl, rfl⟩
  case round =>
    obtain ⟨i, s, hi, ha, rfl, rfl⟩ := hrel
    obtain ⟨b1, b2⟩ := exAcc_b f i s ha
    by_cases hlt : i < n
    · obtain ⟨b, o, rfl, hc⟩ := h (by omega)
      have hcell := hc i hlt
      clear hc
      have hs : exAcc f (i + 1) = if (exB (f i) && exB (s + f i)) = true then some (s + f i) else none := by simp only [exAcc, ha]
      clear ha
      cases hB : exB (f i)
      · have e : exAcc f n = none := exAcc_none f (by rw [hs, hB]; simp) n hlt
        have hz : r = 0 ∧ k = 10 := by
          rcases HR.out with ⟨h1, _⟩ | ⟨_, h2⟩
          · rw [e] at h1; cases h1
          · exact h2
        have c1 := fun w => exright_b (f i) false hB w
        have HZ := Lib.hid hz
        clear hs hB e hz
        go_wp2_with (go_at_call 16; refine (c1 _).mono ?_; rintro e w' ⟨rfl, rfl⟩)
        go_ret2
        exact ⟨ret_ii HZ.out.1.symm HZ.out.2.symm, rfl⟩
      · obtain ⟨b3, b4⟩ := exB_yes hB
        have c1 := fun w => exright_b (f i) true hB w
        cases hS : exB (s + f i)
        · have e : exAcc f n = none := exAcc_none f (by rw [hs, hB, hS]; simp) n hlt
          have hz : r = 0 ∧ k = 10 := by
            rcases HR.out with ⟨h1, _⟩ | ⟨_, h2⟩
            · rw [e] at h1; cases h1
            · exact h2
          have c2 := fun w => exright_b (s + f i) false hS w
          have HZ := Lib.hid hz
          clear hs hB hS e hz
          go_wp2_with (fail)
          refine (c1 _).mono ?_
          rintro e w' ⟨rfl, rfl⟩
          go_wp2_with (fail)
          refine (c2 _).mono ?_
          rintro e w' ⟨rfl, rfl⟩
          go_wp2
          go_ret2
          exact ⟨ret_ii HZ.out.1.symm HZ.out.2.symm, rfl⟩
        · have hs' : exAcc f (i + 1) = some (s + f i) := by rw [hs, hB, hS]; rfl
          have c2 := fun w => exright_b (s + f i) true hS w
          have HS := Lib.hid hs'
          clear hs hs' hB hS
          go_wp2_with (fail)
          refine (c1 _).mono ?_
          rintro e w' ⟨rfl, rfl⟩
          go_wp2_with (fail)
          refine (c2 _).mono ?_
          rintro e w' ⟨rfl, rfl⟩
          go_wp2
          go_round
          case rel => exact ⟨i + 1, s + f i, by omega, HS.out, rfl, by go_num⟩
          case measure => simp [intOf]; omega
    · obtain rfl : i = n := by omega
      have hz : s = r ∧ k = 0 := by
        rcases HR.out with ⟨h1, h2⟩ | ⟨h1, _⟩
        · rw [ha] at h1
          exact ⟨by simpa using h1, h2⟩
        · rw [ha] at h1; cases h1
      have HZ := Lib.hid hz
      clear ha hz
      go_wp2
      go_ret2
      exact ⟨ret_ii HZ.out.1 HZ.out.2.symm, rfl⟩
end Go.Proofs.Ytjjeohnejhhacaa
