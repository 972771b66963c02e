/- What element.Parse answers of any words. -/
import Derived.Test.YtobdbjmpoefebaaDoorEltB
import Derived.Test.YtobdbjmpoefebaaDoorParseC
namespace Go.Proofs.YtobdbjmpoefebaaDoor
open Go.RowKit
set_option linter.unusedVariables false
set_option linter.unusedSimpArgs false

/-- what a word tells of units -/
def unP (l : List UInt8) : Int × Int :=
  if Lib.hasPrefix l [120] = false then (0, 5)
  else if (parseP (Lib.trimPrefix l [120])).2 = 0 then (if oftB (parseP (Lib.trimPrefix l [120])).1 = true then ((parseP (Lib.trimPrefix l [120])).1, 0) else (0, 1))
  else (0, (parseP (Lib.trimPrefix l [120])).2)
set_option maxHeartbeats 1000000 in
theorem units_any (s : ByteArray) (w : World) (hs : s.size ≤ 281474976710656) :
    Calls Tryd.prog 64 #[.string s] w fun e w' => e = .returned (.tuple #[.int .i64 (unP s.data.toList).1, .int .i64 (unP s.data.toList).2]) ∧ Below w.heap.size w w' := by
  have cp : ∀ w : World, Calls Tryd.prog 68 #[.string s, .string ⟨#[120]⟩] w fun e w' => e = .returned (.tuple #[.string ⟨(Lib.trimPrefix s.data.toList [120]).toArray⟩, .bool (Lib.hasPrefix s.data.toList [120])]) ∧ w = w' :=
    fun w => (Tryd.strings_CutPrefix s ⟨#[120]⟩ w).mono fun _ _ h => ⟨h.1, h.2.symm⟩
  have hl : (Lib.trimPrefix s.data.toList [120]).length ≤ s.data.toList.length := by
    unfold Lib.trimPrefix
    split
    · rw [List.length_drop]; omega
    · omega
  have hz : s.data.toList.length = s.size := data_len s
  unfold unP
  generalize Lib.hasPrefix s.data.toList [120] = b at *
  generalize Lib.trimPrefix s.data.toList [120] = T at *
  have hTz : (ByteArray.mk T.toArray).size = T.length := by rw [← data_len]
  have pp := fun w => parse_any ⟨T.toArray⟩ w (by omega)
  simp only [] at pp
  clear hl hz hTz
  cases b
  · rw [if_pos rfl]
    clear pp
    go_enter Tryd.func64, Tryd.ntmps64
    go_wp2_with (fail)
    refine (cp _).mono ?_
    rintro e w' ⟨rfl, rfl⟩
    go_wp2
    go_ret2
    exact ⟨rfl, Below.refl _ _⟩
  · rw [if_neg (by decide)]
    generalize parseP T = q at *
    obtain ⟨v, x⟩ := q
    simp only [] at pp ⊢
    by_cases h0 : x = 0
    · subst h0
      rw [if_pos rfl]
      cases ho : oftB v
      · have ob := fun w => often_b v false ho w
        rw [if_neg (by decide)]
        clear ho
        go_enter Tryd.func64, Tryd.ntmps64
        go_wp2_with (fail)
        refine (cp _).mono ?_
        rintro e w' ⟨rfl, rfl⟩
        go_wp2_with (fail)
        refine (pp _).mono ?_
        rintro e w' ⟨rfl, hb⟩
        go_wp2_with (fail)
        refine (ob _).mono ?_
        rintro e w2 ⟨rfl, rfl⟩
        go_wp2
        go_ret2
        exact ⟨rfl, hb⟩
      · have ob := fun w => often_b v true ho w
        rw [if_pos rfl]
        clear ho
        go_enter Tryd.func64, Tryd.ntmps64
        go_wp2_with (fail)
        refine (cp _).mono ?_
        rintro e w' ⟨rfl, rfl⟩
        go_wp2_with (fail)
        refine (pp _).mono ?_
        rintro e w' ⟨rfl, hb⟩
        go_wp2_with (fail)
        refine (ob _).mono ?_
        rintro e w2 ⟨rfl, rfl⟩
        go_wp2
        go_ret2
        exact ⟨rfl, hb⟩
    · rw [if_neg h0]
      have t0 : (x != 0) = true := by simpa using h0
      clear h0
      go_enter Tryd.func64, Tryd.ntmps64
      go_wp2_with (fail)
      refine (cp _).mono ?_
      rintro e w' ⟨rfl, rfl⟩
      go_wp2_with (fail)
      refine (pp _).mono ?_
      rintro e w' ⟨rfl, hb⟩
      go_wp2
      go_ret2
      exact ⟨rfl, hb⟩
end Go.Proofs.YtobdbjmpoefebaaDoor
