/- Texts on shares, for a seat without tables. -/
import Derived.Test.YtifoapaoamhgcaaDoorPairD
import Derived.Test.YtifoapaoamhgcaaDoorBox
import Derived.Test.YtifoapaoamhgcaaDoorOwnM
import Derived.Test.YtifoapaoamhgcaaDoorTbl
import Derived.Lib.QuietBelow
import Derived.BigQuiet
import Derived.OwnWalk
import Derived.Maps.AppendAt
namespace Go.Proofs.YtifoapaoamhgcaaDoor
open Go.RowKit Go.Sort
set_option linter.unusedVariables false
set_option linter.unusedSimpArgs false

theorem below_new (w : World) (o : Obj) : Below w.heap.size w (w.alloc o) := (Below.refl _ _).alloc (Nat.le_refl _) _
def shc (L : List (Int × Int)) : List Value := L.flatMap fun p => [.int .i64 p.1, .int .i64 p.2]
theorem shc_app (L M : List (Int × Int)) : shc (L ++ M) = shc L ++ shc M := by simp [shc]
theorem shc_len (L : List (Int × Int)) : (shc L).length = L.length * 2 := by
  induction L with
  | nil => rfl
  | cons p L ih => rw [show p :: L = [p] ++ L from rfl, shc_app, List.length_append, ih]; simp [shc]; omega
def ivs (L : List Int) : List Value := L.map (Value.int .i64)
theorem ivs_app (L M : List Int) : ivs (L ++ M) = ivs L ++ ivs M := by simp [ivs]
theorem infoSh : (Tryd.prog.info? 29).map (fun i => (i.zero, i.size, i.bytes)) = some (some (.agg #[.int .i64 0, .int .i64 0]), 2, 16) := by kernel_rfl
theorem infoI : (Tryd.prog.info? 2).map (fun i => (i.zero, i.size, i.bytes)) = some (some (.int .i64 0), 1, 8) := by kernel_rfl
theorem bx_add {W : World} {p : Nat} {t : TypeId} {l : List Value} (h : Bx W p t l) : ∀ j u, l[j]? = some u → W.cell? ((⟨p, 0, none⟩ : Addr).add j) = some u := fun j u hu => by
  rw [Go.WideShapes.add_plain, Nat.zero_add]
  exact h.cell hu
theorem row_later {w w' : World} {A : Option Addr} {n : Nat} {g : Nat → Value} (h : rowAt w A n g) (hb : Below w.heap.size w w') : rowAt w' A n g := fun h0 => by
  obtain ⟨b, o, hA, hc⟩ := h h0
  exact ⟨b, o, hA, fun i hi => cell_later hb (hc i hi)⟩
end Go.Proofs.YtifoapaoamhgcaaDoor
