/- A whole block that is stored into, cell by cell. -/
import Derived.Test.YtfnjhalpedccaaaOwnN
import Derived.Test.YtfnjhalpedccaaaSocE
namespace Go.Proofs.Ytfnjhalpedccaaa
open Go.RowKit Go.Sort
set_option linter.unusedVariables false
set_option linter.unusedSimpArgs false

/-- the cells of the block p from the o-th on become these -/
def stAll (W : World) (p o : Nat) : List Value → World
  | [] => W
  | v :: l => stAll (W.setCell ⟨p, o, none⟩ v) p (o + 1) l
theorem stAll_go (p : Nat) (t : TypeId) : ∀ (vals : List Value) (W : World) (a b : List Value), vals.length = b.length → Bx W p t (a ++ b) → Bx (stAll W p a.length vals) p t (a ++ vals) := by
  intro vals
  induction vals with
  | nil =>
    intro W a b h K
    cases b with
    | nil => exact K
    | cons x b => cases h
  | cons v l ih =>
    intro W a b h K
    cases b with
    | nil => cases h
    | cons x b =>
      have K2 := K.set a.length v
      rw [show (a ++ x :: b).set a.length v = (a ++ [v]) ++ b by rw [List.set_append_right _ _ (Nat.le_refl _)]; simp] at K2
      have := ih _ (a ++ [v]) b (by simpa using h) K2
      rw [show (a ++ [v]).length = a.length + 1 by simp, show a ++ [v] ++ l = a ++ v :: l by simp] at this
      exact this
theorem stAll_self {W : World} {p : Nat} {t : TypeId} {l : List Value} (K : Bx W p t l) (vals : List Value) (h : vals.length = l.length) : Bx (stAll W p 0 vals) p t vals := stAll_go p t vals W [] l h K
theorem stAll_blk {p q : Nat} (hq : q ≠ p) : ∀ (vals : List Value) (W : World) (o : Nat), (stAll W p o vals).heap[q]? = W.heap[q]? := by
  intro vals
  induction vals with
  | nil => intro W o; rfl
  | cons v l ih => intro W o; exact (ih _ _).trans (Go.Deep.blk_setCell_other _ _ _ _ hq)
theorem stAll_size {p : Nat} : ∀ (vals : List Value) (W : World) (o : Nat), (stAll W p o vals).heap.size = W.heap.size := by
  intro vals
  induction vals with
  | nil => intro W o; rfl
  | cons v l ih => intro W o; exact (ih _ _).trans (by simp [World.setCell])
theorem stAll_below {B p : Nat} {w : World} (hp : B ≤ p) : ∀ (vals : List Value) (W : World) (o : Nat), Below B w W → Below B w (stAll W p o vals) := by
  intro vals
  induction vals with
  | nil => intro W o h; exact h
  | cons v l ih => intro W o h; exact ih _ _ (h.setCell (p := ⟨p, o, none⟩) hp v)
theorem stAll_bx {W : World} {p q : Nat} {t : TypeId} {l : List Value} (K : Bx W q t l) (hq : q ≠ p) (vals : List Value) (o : Nat) : Bx (stAll W p o vals) q t l := K.of_block (stAll_blk hq vals W o)
theorem stAll_sh {W : World} {p q n : Nat} {X Y : Nat → Int} (K : ShB W q n X Y) (hq : q ≠ p) (vals : List Value) (o : Nat) : ShB (stAll W p o vals) q n X Y := World.rowIs.of_block K (stAll_blk hq vals W o)
end Go.Proofs.Ytfnjhalpedccaaa
