/- What the calls of period answer of a span, wherever it is; and how long periods of days are. -/
import Derived.Test.YtkgfmanolanlhaaDoorPerF
namespace Go.Proofs.YtkgfmanolanlhaaDoor
open Go.RowKit
set_option linter.unusedVariables false
set_option linter.unusedSimpArgs false

theorem span_yes (p : Nat) (f y m d k : Int) (W : World) (Y : Yr W p f y m d) (h : yrB y m d = true) (hf : 1 ≤ f) (hf' : f ≤ 4) (hk : 1 ≤ k) (hk' : k ≤ cnt f y m d) :
    Calls Tryd.prog 36 #[.pointer (some ⟨p, 0, none⟩), .int .i64 k] W fun e w' => e = .returned (.tuple #[.agg #[.int .i64 (yOf (pb f y m d k)), .int .i64 (mOf (pb f y m d k)), .int .i64 (dOf (pb f y m d k))], .agg #[.int .i64 (yOf (pe f y m d k)), .int .i64 (mOf (pe f y m d k)), .int .i64 (dOf (pe f y m d k))], .int .i64 0]) ∧ Below W.heap.size W w' := by
  by_cases hl : k = cnt f y m d
  · have h1 := span_last p f y m d k W Y h hf hf' hl
    have e : pe f y m d k = yend y m d := by rw [hl]; exact pe_last
    rw [e]
    exact h1
  · have h1 := span_mid p f y m d k W Y h hf hf' hk (by omega)
    rw [pe_next (by omega)]
    exact h1
theorem per_len {f y m d k : Int} (hf : 1 ≤ f) (hf' : f ≤ 3) (h : yrB y m d = true) (hk : 1 ≤ k) (hk' : k ≤ cnt f y m d) : pe f y m d k - pb f y m d k = pd f - 1 ∨ (k = cnt f y m d ∧ pe f y m d k - pb f y m d k < pd f) := by
  by_cases hl : k = cnt f y m d
  · right
    refine ⟨hl, ?_⟩
    rw [hl, pe_last]
    have hy := year_bd (y := y) (d := d) (dayB_yes (yrB_yes h).1).2.2.1
    have h3 : f = 1 ∨ f = 2 ∨ f = 3 := by omega
    rcases h3 with rfl | rfl | rfl
    · simp [pb, cnt, pd]; omega
    · simp [pb, cnt, pd]; omega
    · simp [pb, cnt, pd]; omega
  · left
    rw [pe_next (by omega)]
    have h3 : f = 1 ∨ f = 2 ∨ f = 3 := by omega
    rcases h3 with rfl | rfl | rfl
    · simp [pb, pd]; omega
    · simp [pb, pd]; omega
    · simp [pb, pd]; omega
/-- a period's first and last day are days -/
theorem per_days {f y m d k : Int} (hf : 1 ≤ f) (hf' : f ≤ 4) (h : yrB y m d = true) (hk : 1 ≤ k) (hk' : k ≤ cnt f y m d) :
    (dayB (yOf (pb f y m d k)) (mOf (pb f y m d k)) (dOf (pb f y m d k)) = true ∧ num (yOf (pb f y m d k)) (mOf (pb f y m d k)) (dOf (pb f y m d k)) = pb f y m d k) ∧
    (dayB (yOf (pe f y m d k)) (mOf (pe f y m d k)) (dOf (pe f y m d k)) = true ∧ num (yOf (pe f y m d k)) (mOf (pe f y m d k)) (dOf (pe f y m d k)) = pe f y m d k) ∧ 0 ≤ pb f y m d k ∧ pe f y m d k < 109572 := by
  obtain ⟨n1, n2, n3, n4⟩ := pb_bd hf hf' h hk hk'
  obtain ⟨p1, p2, p3⟩ := pe_bd hf hf' h hk hk'
  exact ⟨of_bd _ n3 (by omega), of_bd _ (by omega) (by omega), n3, by omega⟩
end Go.Proofs.YtkgfmanolanlhaaDoor
