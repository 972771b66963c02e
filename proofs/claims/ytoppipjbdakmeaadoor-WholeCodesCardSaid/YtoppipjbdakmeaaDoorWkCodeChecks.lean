/- CodeChecks: the whole walk. -/
import Derived.Test.YtoppipjbdakmeaaDoorCodG
import Derived.Test.YtoppipjbdakmeaaDoorCodN
namespace Go.Proofs.YtoppipjbdakmeaaDoor
open Go.RowKit
set_option linter.unusedVariables false
set_option linter.unusedSimpArgs false

/-- what is held of memory: a code in its place -/
def KD (w : World) (s k a f : Int) (x : Bool) (W : World) : Prop := Below w.heap.size w W ∧ Cb W w.heap.size s k a f x ∧ Tab W
theorem KD.step {w W W' : World} {s k a f : Int} {x : Bool} (h : KD w s k a f x W) (hb : Below W.heap.size W W') : KD w s k a f x W' := by
  obtain ⟨B, C, T⟩ := h
  exact ⟨below_step B hb B.size, C.step hb, T.below hb⟩
theorem kd_new (w : World) (s k a f : Int) (x : Bool) (D : Tab w) : KD w s k a f x (w.alloc (.cells #[.int .i64 s, .int .i64 k, .int .i64 a, .int .i64 f, .bool x] 47)) :=
  ⟨below_new w _, cb_new w s k a f x 47, D.below (below_new w _)⟩
/-- a code's text -/
theorem text_t (s k a f : Int) (x : Bool) (h : chkC s k a f = 0) : ∃ T : ByteArray, T.data.toList = txtC s k a f x ∧ 0 < T.size ∧ T.size ≤ 20 ∧ ∀ w, Tab w → Calls Tryd.prog 19 #[.agg #[.int .i64 s, .int .i64 k, .int .i64 a, .int .i64 f, .bool x]] w fun e w' => e = .returned (.string T) ∧ Below w.heap.size w w' := by
  have hl : (txtC s k a f x).length ≤ 20 := by
    obtain ⟨s0, s7, hfit⟩ := chkC_zero h
    obtain ⟨k1, k4, a0, a9, _, f0, f7⟩ := fitB_bd hfit
    have := kndT_len (k := k) a0 a9 f0 f7
    rw [txtC_of h]
    have h1 : (schT s).length ≤ 1 := by unfold schT; split <;> simp
    have h2 : (xT x).length ≤ 1 := by unfold xT; split <;> simp
    simp only [List.length_append]
    omega
  have hn : txtC s k a f x ≠ [] := fun e => (txtC_empty s k a f x).1 e h
  refine ⟨⟨(txtC s k a f x).toArray⟩, rfl, ?_, ?_, fun w D => text_ok s k a f x w D h⟩
  · show 0 < (txtC s k a f x).toArray.size
    rw [List.size_toArray]
    exact List.length_pos_iff.2 hn
  · show (txtC s k a f x).toArray.size ≤ 20
    rw [List.size_toArray]
    exact hl
end Go.Proofs.YtoppipjbdakmeaaDoor
