/- What element.Text answers of any element. -/
import Derived.Test.YtobdbjmpoefebaaDoorEltA
import Derived.Test.YtobdbjmpoefebaaDoorText
namespace Go.Proofs.YtobdbjmpoefebaaDoor
open Go.RowKit Go.Sort
set_option linter.unusedVariables false
set_option linter.unusedSimpArgs false
/-- an element as it is written -/
def etx (N : ByteArray) (a u : Int) : List UInt8 := N.data.toList ++ (32 :: txt a) ++ (if u = 100 then [] else 32 :: 120 :: txt u)
theorem bytes_self (s : ByteArray) : (⟨s.data.toList.toArray⟩ : ByteArray) = s := by
  apply ByteArray.ext; simp
theorem txt_len (x : Int) (h : -9223372036854775808 ≤ x) (h' : x ≤ 9223372036854775807) : (txt x).length ≤ 24 := by
  unfold txt tailB
  have hlen := Lib.decDigits_length (x.natAbs / 100)
  have hnd : Lib.nDigits (x.natAbs / 100) ≤ 20 := by
    rcases Nat.eq_zero_or_pos (x.natAbs / 100) with h0 | h0
    · rw [h0, Lib.nDigits_small (by omega)]; omega
    · have := Lib.numDigits_eq (x.natAbs / 100) h0 (by omega); split at this <;> omega
  simp only [List.length_append, List.length_cons, List.length_nil]
  split <;> simp <;> omega
set_option maxHeartbeats 2000000 in
set_option maxRecDepth 100000 in
theorem etext_any (N : ByteArray) (a u : Int) (w : World) (ha : -9223372036854775808 ≤ a ∧ a ≤ 9223372036854775807) (hu : -9223372036854775808 ≤ u ∧ u ≤ 9223372036854775807) (hN : N.size ≤ 281474976710656) (htab : Tab w) :
    Calls Tryd.prog 29 #[.agg #[.string N, .int .i64 a, .int .i64 u]] w fun e w' => e = .returned (.string ⟨(etx N a u).toArray⟩) ∧ Below w.heap.size w w' := by
  have t1 := fun w h => text_any a w ha.1 ha.2 h
  have t2 := fun w h => text_any u w hu.1 hu.2 h
  have hB := below_new w (.cells #[.string N, .int .i64 a, .int .i64 u] 45)
  have T1 := htab.below hB
  have lt1 := txt_len a ha.1 ha.2
  have lt2 := txt_len u hu.1 hu.2
  have e0 : (w.alloc (.cells #[.string N, .int .i64 a, .int .i64 u] 45)).cell? ⟨w.heap.size, 0, none⟩ = some (.string N) := by simp [go_sem]
  have e1 : (w.alloc (.cells #[.string N, .int .i64 a, .int .i64 u] 45)).cell? ⟨w.heap.size, 1, none⟩ = some (.int .i64 a) := by simp [go_sem]
  have e2 : (w.alloc (.cells #[.string N, .int .i64 a, .int .i64 u] 45)).cell? ⟨w.heap.size, 2, none⟩ = some (.int .i64 u) := by simp [go_sem]
  have hz : w.heap.size < (w.alloc (.cells #[.string N, .int .i64 a, .int .i64 u] 45)).heap.size := by simp
  have hNl := data_len N
  have HX : ∀ tu : List UInt8, Hid (etx N a u = N.data.toList ++ (32 :: txt a) ++ (if u = 100 then [] else 32 :: 120 :: txt u)) := fun _ => Lib.hid rfl
  have HX := HX []
  have hSN : (⟨N.data.toList.toArray⟩ : ByteArray) = N := bytes_self N
  clear htab
  generalize txt a = ta at *
  generalize txt u = tu at *
  have n1 : ¬ 9223372036854775807 < N.size + 1 := by omega
  have n2 : ¬ 9223372036854775807 < N.size + 1 + ta.length := by omega
  have n3 : ¬ 9223372036854775807 < 2 + tu.length := by omega
  have n4 : ¬ 9223372036854775807 < N.size + 1 + ta.length + (2 + tu.length) := by omega
  generalize hS : etx N a u = S at *
  clear hS
  have HS := Lib.hid hSN
  have HNl := Lib.hid hNl
  clear hSN hNl
  go_enter Tryd.func29, Tryd.ntmps29
  go_wp2_with (fail)
  generalize w.alloc (.cells #[.string N, .int .i64 a, .int .i64 u] 45) = w1 at *
  have k0 := fun d os => cell_regrown e0 d os
  have k1 := fun d os => cell_regrown e1 d os
  have cT : ∀ d os, Calls Tryd.prog 67 #[.int .i64 a] (grow (redrawn w1 d) os) fun e w'' => e = .returned (.string ⟨ta.toArray⟩) ∧ ∃ p : Regrown, w'' = grow (redrawn w1 p.d) p.os := fun d os => Calls.regrown_of (t1 _ (T1.below (below_regrown w1 d os)))
  refine wp_region_quiet_below mixedAll (by kernel_rfl) ?_
  repeat (quiet_step (first | exact cT _ _))
  refine wpQuiet_nil ?_
  intro _ hw'
  obtain ⟨⟨dq, osq⟩, hw''⟩ := hw'
  subst hw''
  have hR := below_regrown w1 dq osq
  have f2 : (grow (redrawn w1 dq) osq).cell? ⟨w.heap.size, 2, none⟩ = some (.int .i64 u) := cell_regrown e2 dq osq
  have T2 := T1.below hR
  have B2 := below_step hB hR hB.size
  clear cT k0 k1 e0 e1 e2 T1 hR
  generalize grow (redrawn w1 dq) osq = w2 at *
  by_cases h : u = 100
  · subst h
    go_wp2
    go_ret
    exact ⟨ret_s (by rw [HX.out]; apply ByteArray.ext; simp), B2⟩
  · have t3 : (u != 100) = true := by simpa using h
    go_wp2_with (fail)
    refine (t2 _ T2).mono ?_
    rintro e w' ⟨rfl, hb⟩
    go_wp2
    go_ret
    exact ⟨ret_s (by rw [HX.out, if_neg h]; apply ByteArray.ext; simp), below_step B2 hb B2.size⟩
end Go.Proofs.YtobdbjmpoefebaaDoor
