/- What the calls of word answer: Quote; the document's Plain and Shown. -/
import Derived.Test.YtgdalejccbhjcaaDoorWrdA
namespace Go.Proofs.YtgdalejccbhjcaaDoor
open Go.RowKit
set_option linter.unusedVariables false
set_option linter.unusedSimpArgs false

/-- what Quote answers -/
def QuP (l : List UInt8) (w : World) (e : Ending) (w' : World) : Prop := e = .returned (.tuple #[.string ⟨(quoV l).toArray⟩, .int .i64 (quoE l)]) ∧ Below w.heap.size w w'
theorem quP_bad {l : List UInt8} {w w' : World} (h : l.all shwB = false) (hb : Below w.heap.size w w') : QuP l w (.returned (.tuple #[.string ⟨#[]⟩, .int .i64 5])) w' := by
  refine ⟨?_, hb⟩
  unfold quoV quoE
  rw [if_neg (by simp [h]), if_neg (by simp [h])]
theorem quP_need {l : List UInt8} {w w' : World} {s : ByteArray} (h : l.all shwB = true) (hn : needB l = true) (hs : s.data.toList = l) (hb : Below w.heap.size w w') : QuP l w (.returned (.tuple #[.string (⟨#[34]⟩ ++ s ++ ⟨#[34]⟩), .int .i64 0])) w' := by
  refine ⟨?_, hb⟩
  unfold quoV quoE
  rw [if_pos h, if_pos h, if_pos hn]
  have : (⟨#[34]⟩ ++ s ++ ⟨#[34]⟩ : ByteArray) = ⟨(34 :: (l ++ [34])).toArray⟩ := by
    apply ByteArray.ext
    subst hs
    apply Array.ext'
    simp [ByteArray.data_append]
  rw [this]
theorem quP_plain {l : List UInt8} {w w' : World} {s : ByteArray} (h : l.all shwB = true) (hn : needB l = false) (hs : s.data.toList = l) (hb : Below w.heap.size w w') : QuP l w (.returned (.tuple #[.string s, .int .i64 0])) w' := by
  refine ⟨?_, hb⟩
  unfold quoV quoE
  rw [if_pos h, if_pos h, if_neg (by simp [hn]), ← hs, data_self]
end Go.Proofs.YtgdalejccbhjcaaDoor
