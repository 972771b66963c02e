/- What lookSchemes answers. -/
import Derived.Test.YtffihnbpjcgicaaTabA
namespace Go.Proofs.Ytffihnbpjcgicaa
open Go.RowKit
set_option linter.unusedVariables false
set_option linter.unusedSimpArgs false

theorem cells5 (w : World) (a b c d e : Value) (t : TypeId) : (w.alloc (.cells #[a, b, c, d, e] t)).cell? ⟨w.heap.size, 0, none⟩ = some a ∧ (w.alloc (.cells #[a, b, c, d, e] t)).cell? ⟨w.heap.size, 1, none⟩ = some b ∧ (w.alloc (.cells #[a, b, c, d, e] t)).cell? ⟨w.heap.size, 2, none⟩ = some c ∧ (w.alloc (.cells #[a, b, c, d, e] t)).cell? ⟨w.heap.size, 3, none⟩ = some d ∧ (w.alloc (.cells #[a, b, c, d, e] t)).cell? ⟨w.heap.size, 4, none⟩ = some e := by simp [go_sem]
theorem below_new (w : World) (o : Obj) : Below w.heap.size w (w.alloc o) := (Below.refl _ _).alloc (Nat.le_refl _) _
set_option maxHeartbeats 2000000 in
theorem schemes_any (w : World) (A A2 A3 : Option Addr) (n n2 n3 c c2 c3 : Nat) (L W : Int) (S : Nat → SB) (h : SchM w A n S) (hz : n ≤ 8 → ∀ i, i < n → (S i).n ≤ 9223372036854775807) :
    Calls Try.prog 25 #[.agg #[.slice A n c, .slice A2 n2 c2, .slice A3 n3 c3, .int .i64 L, .int .i64 W]] w fun e w' => e = .returned (.int .i64 (schsE S n)) ∧ Below w.heap.size w w' := by
  unfold schsE
  by_cases h0 : n = 0
  · subst h0
    go_enter Try.func25, Try.ntmps25
    go_wp2
    go_ret
    exact ⟨rfl, (Below.refl _ _).alloc (Nat.le_refl _) _⟩
  by_cases h9 : 8 < n
  · rw [if_pos (by omega)]
    have t1 : ((n : Int) == 0) = false := by simp; omega
    have t2 : (8 : Int) < n := by omega
    clear h0 hz h
    go_enter Try.func25, Try.ntmps25
    go_wp2
    go_ret
    exact ⟨rfl, (Below.refl _ _).alloc (Nat.le_refl _) _⟩
  rw [if_neg (by omega)]
  have t1 : ((n : Int) == 0) = false := by simp; omega
  have t2 : ¬ (8 : Int) < n := by omega
  have hz := hz (by omega)
  obtain ⟨b, o, rfl, hc⟩ := h (by omega)
  have HC := Lib.hid hc
  have HZ := Lib.hid hz
  clear hc h h0 hz
  go_enter Try.func25, Try.ntmps25
  go_wp2
  go_loopw [19] (fun k W => ∃ i : Nat, i ≤ n ∧ Hid (firstE (fun i => schE (S i)) i = 0) ∧ k = .int .i64 i ∧ Below w.heap.size w W) (fun k _ => n - (intOf k).toNat)
  case atStart => exact ⟨0, Nat.zero_le _, Lib.hid rfl, rfl, (Below.refl _ _).alloc (Nat.le_refl _) _⟩
  case round =>
    obtain ⟨i, hi, hs, rfl, hb⟩ := hrel
    by_cases hlt : i < n
    · obtain ⟨c0, hB⟩ := HC.out i hlt
      have d0 := cell_later hb c0
      have hB := hB.below hb
      have ck := fun w' (q : Bds w' _ _ _ _ _) => bandcheck_any (S i).A (S i).n (S i).c w' (S i).F (S i).R (S i).E q (HZ.out i hlt)
      clear c0
      have hdef : schE (S i) = if chk (S i).F (S i).R (S i).E (S i).n = 0 then (if 0 ≤ idxN (fun j => (S i).E j != 0) (S i).n then 50 else 0) else chk (S i).F (S i).R (S i).E (S i).n := rfl
      by_cases hk : chk (S i).F (S i).R (S i).E (S i).n = 0
      · rw [hk] at ck
        rw [if_pos hk] at hdef
        cases hv : decide (0 ≤ idxN (fun j => (S i).E j != 0) (S i).n)
        · have em := fun w' (q : Bds w' _ _ _ _ _) => emps_any (S i).A (S i).n (S i).c w' (S i).F (S i).R (S i).E q (HZ.out i hlt) false hv
          rw [if_neg (by simpa using hv)] at hdef
          have HS := Lib.hid (first_succ (f := fun i => schE (S i)) hs.out hdef)
          clear hdef hv hk hs
          go_wp2_with (fail)
          refine (ck _ hB).mono ?_
          rintro e w2 ⟨rfl, hb2⟩
          have hB2 := hB.below hb2
          go_wp2_with (fail)
          refine (em _ hB2).mono ?_
          rintro e w3 ⟨rfl, hb3⟩
          go_wp2
          go_roundw
          case rel => exact ⟨i + 1, by omega, HS, by go_num, below_step (below_step hb hb2 hb.size) hb3 (below_step hb hb2 hb.size).size⟩
          case measure => first | omega | (simp [intOf]; omega)
        · have em := fun w' (q : Bds w' _ _ _ _ _) => emps_any (S i).A (S i).n (S i).c w' (S i).F (S i).R (S i).E q (HZ.out i hlt) true hv
          rw [if_pos (by simpa using hv)] at hdef
          have HS := Lib.hid ((first_stop (f := fun i => schE (S i)) hlt hs.out (by show schE (S i) ≠ 0; omega)).trans hdef)
          clear hdef hv hk hs
          go_wp2_with (fail)
          refine (ck _ hB).mono ?_
          rintro e w2 ⟨rfl, hb2⟩
          have hB2 := hB.below hb2
          go_wp2_with (fail)
          refine (em _ hB2).mono ?_
          rintro e w3 ⟨rfl, hb3⟩
          go_wp2
          go_ret
          exact ⟨ret_i HS.out.symm, below_step (below_step hb hb2 hb.size) hb3 (below_step hb hb2 hb.size).size⟩
      · rw [if_neg hk] at hdef
        have HS := Lib.hid ((first_stop (f := fun i => schE (S i)) hlt hs.out (by show schE (S i) ≠ 0; omega)).trans hdef)
        have t3 : (chk (S i).F (S i).R (S i).E (S i).n != 0) = true := by simpa using hk
        clear hdef hk hs
        generalize chk (S i).F (S i).R (S i).E (S i).n = v at *
        go_wp2_with (fail)
        refine (ck _ hB).mono ?_
        rintro e w2 ⟨rfl, hb2⟩
        go_wp2
        go_ret
        exact ⟨ret_i HS.out.symm, below_step hb hb2 hb.size⟩
    · obtain rfl : i = n := by omega
      have HS := Lib.hid hs
      clear hs
      go_wp2
      go_ret
      exact ⟨ret_i HS.out.out.symm, hb⟩
end Go.Proofs.Ytffihnbpjcgicaa
