/- What the calls of band answer that reckon: by, Exact, Employer, Between. -/
import Derived.Test.YtffihnbpjcgicaaBandB
import Derived.Lib.QuietBelow
import Derived.WalkMore
import Derived.ScopeJumps
namespace Go.Proofs.Ytffihnbpjcgicaa
open Go.RowKit Go.Sort
set_option linter.unusedVariables false

theorem mixedAll : Try.prog.follows .mixedOrders = true := by kernel_rfl

/-- what holds at each pass of by's label -/
def ByJ (w : World) (fv : Value) (x : Int) (A : Option Addr) (n c : Nat) (F V : Nat → Int) (S : Int) (a : Act) (W : World) : Prop :=
  ∃ (i : Nat) (l s : Int) (u3 u4 u5 u8 u12 u13 u14 u15 u16 u17 u18 u19 u20 u21 u22 u23 u24 u25 u26 u27 u28 u29 u30 u31 u32 u33 u34 u35 u36 u37 u38 u39 u40 u41 u42 u43 u44 u45 u46 u47 u48 u49 u50 u51 u52 u53 u54 : Value), a = { tmps := #[fv, .int .i64 x, .slice A n c, u3, u4, u5, .int .i64 0, .int .i64 0, u8, .int .i64 s, .int .i64 l, .int .i64 (i : Nat), u12, u13, u14, u15, u16, u17, u18, u19, u20, u21, u22, u23, u24, u25, u26, u27, u28, u29, u30, u31, u32, u33, u34, u35, u36, u37, u38, u39, u40, u41, u42, u43, u44, u45, u46, u47, u48, u49, u50, u51, u52, u53, u54], defers := [] } ∧ i < n ∧ F i ≤ l ∧ l ≤ 100000000000 ∧ 0 ≤ s ∧ s + lowb F V i l = S ∧ Below w.heap.size w W
def ByM (a : Act) : Nat := (intOf (a.tmps.getD 11 undef)).toNat

theorem jump_mono {l : Nat} {J J' : Act → World → Prop} {Q : Exit → Act → World → Prop} (h : ∀ a w, J a w → J' a w) (e : Exit) (a : Act) (w : World) (k : Exit.jump l J Q e a w) : Exit.jump l J' Q e a w := by
  cases e <;> first | exact k | exact ⟨k.1, h _ _ k.2⟩
/-- a scope whose first way comes to the label itself -/
theorem scope_jumps {P : Program} {a : Act} {w : World} {Q : Exit → Act → World → Prop} {c rest : Code} (l : Nat) (J : Act → World → Prop) (μ : Act → World → Nat) (hf : findLabel c l = some (.seq .skip rest))
    (pass : ∀ a w, J a w → rest.wp P (Exit.jump l (fun a' w' => J a' w' ∧ μ a' w' < μ a w) Q) a w)
    (first : (∀ a w, J a w → rest.wp P (Exit.jump l J Q) a w) → c.wp P (Exit.jump l J Q) a w) : (Code.scope c).wp P Q a w :=
  wp_scope_jumps l J μ hf (first fun a w h => wp_mono (pass a w h) (jump_mono fun _ _ k => k.1)) fun a w h => wp_seq (wp_skip (pass a w h))

end Go.Proofs.Ytffihnbpjcgicaa
