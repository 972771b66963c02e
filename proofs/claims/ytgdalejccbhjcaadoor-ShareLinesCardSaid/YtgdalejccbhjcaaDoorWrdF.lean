/- What word.Join answers. -/
import Derived.Test.YtgdalejccbhjcaaDoorWrdB
import Derived.Test.YtgdalejccbhjcaaDoorWrdE
namespace Go.Proofs.YtgdalejccbhjcaaDoor
open Go.RowKit
set_option linter.unusedVariables false
set_option linter.unusedSimpArgs false

/-- words as a line: the line so far, whether nothing stands in it, the words that come -/
def joiG : List UInt8 → Bool → List (List UInt8) → List UInt8 × Int
  | line, _, [] => (line, 0)
  | line, z, l :: r => if l.all shwB = true then (if 512 < (line ++ (if z = true then [] else [32]) ++ quoV l).length then ([], 2) else joiG (line ++ (if z = true then [] else [32]) ++ quoV l) false r) else ([], 5)
def joiV (L : List (List UInt8)) : List UInt8 × Int := if 32 < L.length then ([], 2) else joiG [] true L
theorem str_appQ (l m : List UInt8) : (ByteArray.mk l.toArray) ++ (ByteArray.mk m.toArray) = ByteArray.mk (l ++ m).toArray := by
  apply ByteArray.ext
  simp [ByteArray.data_append]
theorem quo_len {l : List UInt8} : (quoV l).length ≤ l.length + 2 := by
  unfold quoV
  split
  · split <;> simp
  · simp
def JoP (L : List (List UInt8)) (w : World) (e : Ending) (w' : World) : Prop := e = .returned (.tuple #[.string ⟨(joiV L).1.toArray⟩, .int .i64 (joiV L).2]) ∧ Below w.heap.size w w'
theorem joP_mk {L : List (List UInt8)} {w w' : World} {a : List UInt8} {b : Int} {t : ByteArray} (h : joiV L = (a, b)) (ht : t = ⟨a.toArray⟩) (hb : Below w.heap.size w w') : JoP L w (.returned (.tuple #[.string t, .int .i64 b])) w' := by
  refine ⟨?_, hb⟩
  rw [h, ht]
theorem drop_getD (L : List (List UInt8)) (i : Nat) (h : i < L.length) : L.drop i = L.getD i [] :: L.drop (i + 1) := by
  rw [List.drop_eq_getElem_cons h]
  simp [List.getD, h]
end Go.Proofs.YtgdalejccbhjcaaDoor
