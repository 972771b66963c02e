/- A table as it lies in memory. -/
import Derived.Test.YtffihnbpjcgicaaTbl
import Derived.Test.YtffihnbpjcgicaaBandZ
namespace Go.Proofs.Ytffihnbpjcgicaa
open Go.RowKit
set_option linter.unusedVariables false

/-- schemes, wherever they lie -/
def SchM (w : World) (A : Option Addr) (n : Nat) (S : Nat → SB) : Prop :=
  0 < n → ∃ b o, A = some ⟨b, o, none⟩ ∧ ∀ i, i < n → w.cell? ⟨b, o + i, none⟩ = some (.slice (S i).A (S i).n (S i).c) ∧ Bds w (S i).A (S i).n (S i).F (S i).R (S i).E
/-- contributions, wherever they lie -/
def ConM (w : World) (A : Option Addr) (n : Nat) (C : Nat → CB) : Prop :=
  0 < n → ∃ b o, A = some ⟨b, o, none⟩ ∧ ∀ i, i < n → w.cell? ⟨b, o + i * 6, none⟩ = some (.string (C i).N) ∧ w.cell? ⟨b, o + i * 6 + 1, none⟩ = some (.int .i64 (C i).B) ∧
    w.cell? ⟨b, o + i * 6 + 2, none⟩ = some (.slice (C i).b.A (C i).b.n (C i).b.c) ∧ w.cell? ⟨b, o + i * 6 + 3, none⟩ = some (.int .i64 (C i).P) ∧ w.cell? ⟨b, o + i * 6 + 4, none⟩ = some (.int .i64 (C i).Y) ∧
    w.cell? ⟨b, o + i * 6 + 5, none⟩ = some (.int .i64 (C i).W) ∧ Bds w (C i).b.A (C i).b.n (C i).b.F (C i).b.R (C i).b.E
/-- kinds, wherever they lie -/
def KinM (w : World) (A : Option Addr) (n : Nat) (K : Nat → KB) : Prop :=
  0 < n → ∃ b o, A = some ⟨b, o, none⟩ ∧ ∀ i, i < n → w.cell? ⟨b, o + i * 4, none⟩ = some (.string (K i).N) ∧ w.cell? ⟨b, o + i * 4 + 1, none⟩ = some (.int .i64 (K i).c) ∧
    w.cell? ⟨b, o + i * 4 + 2, none⟩ = some (.int .i64 (K i).t) ∧ w.cell? ⟨b, o + i * 4 + 3, none⟩ = some (.int .i64 (K i).s)
theorem SchM.below {w w' : World} {A : Option Addr} {n : Nat} {S : Nat → SB} (h : SchM w A n S) (hb : Below w.heap.size w w') : SchM w' A n S := fun hn => by
  obtain ⟨b, o, e, hc⟩ := h hn
  exact ⟨b, o, e, fun i hi => ⟨below_cell hb (Nat.le_refl _) (hc i hi).1, (hc i hi).2.below hb⟩⟩
theorem ConM.below {w w' : World} {A : Option Addr} {n : Nat} {C : Nat → CB} (h : ConM w A n C) (hb : Below w.heap.size w w') : ConM w' A n C := fun hn => by
  obtain ⟨b, o, e, hc⟩ := h hn
  refine ⟨b, o, e, fun i hi => ?_⟩
  obtain ⟨c0, c1, c2, c3, c4, c5, c6⟩ := hc i hi
  exact ⟨below_cell hb (Nat.le_refl _) c0, below_cell hb (Nat.le_refl _) c1, below_cell hb (Nat.le_refl _) c2, below_cell hb (Nat.le_refl _) c3, below_cell hb (Nat.le_refl _) c4, below_cell hb (Nat.le_refl _) c5, c6.below hb⟩
theorem KinM.below {w w' : World} {A : Option Addr} {n : Nat} {K : Nat → KB} (h : KinM w A n K) (hb : Below w.heap.size w w') : KinM w' A n K := fun hn => by
  obtain ⟨b, o, e, hc⟩ := h hn
  refine ⟨b, o, e, fun i hi => ?_⟩
  obtain ⟨c0, c1, c2, c3⟩ := hc i hi
  exact ⟨below_cell hb (Nat.le_refl _) c0, below_cell hb (Nat.le_refl _) c1, below_cell hb (Nat.le_refl _) c2, below_cell hb (Nat.le_refl _) c3⟩
/-- a table's values, and what they tell -/
structure TB where
  AS : Option Addr
  nS : Nat
  cS : Nat
  AC : Option Addr
  nC : Nat
  cC : Nat
  AK : Option Addr
  nK : Nat
  cK : Nat
  L : Int
  W : Int
  S : Nat → SB
  C : Nat → CB
  K : Nat → KB
def TB.v (T : TB) : Value := .agg #[.slice T.AS T.nS T.cS, .slice T.AC T.nC T.cC, .slice T.AK T.nK T.cK, .int .i64 T.L, .int .i64 T.W]
def Tm (w : World) (T : TB) : Prop := SchM w T.AS T.nS T.S ∧ ConM w T.AC T.nC T.C ∧ KinM w T.AK T.nK T.K
theorem Tm.below {w w' : World} {T : TB} (h : Tm w T) (hb : Below w.heap.size w w') : Tm w' T := ⟨h.1.below hb, h.2.1.below hb, h.2.2.below hb⟩
/-- how many bands lie in each row at most: sizes that a machine has -/
def Tz (T : TB) : Prop := (∀ i, i < T.nS → (T.S i).n ≤ 4611686018427387904) ∧ (∀ i, i < T.nC → (T.C i).b.n ≤ 4611686018427387904)
end Go.Proofs.Ytffihnbpjcgicaa
