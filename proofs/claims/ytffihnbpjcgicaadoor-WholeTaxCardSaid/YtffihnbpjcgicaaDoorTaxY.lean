/- What the document's own Due and Year answer. -/
import Derived.Test.YtffihnbpjcgicaaDoorTaxG
import Derived.Test.YtffihnbpjcgicaaDoorTaxB
import Derived.Test.YtffihnbpjcgicaaDoorTaxR
import Derived.Test.YtffihnbpjcgicaaDoorBox
import Derived.Test.YtffihnbpjcgicaaDoorTaxS
import Derived.Deep.RegionHeld3
namespace Go.Proofs.YtffihnbpjcgicaaDoor
open Go.RowKit Go.Sort
set_option linter.unusedVariables false
set_option linter.unusedSimpArgs false

theorem chg0 {T : TB} {s k a f n d y : Int} (hc : Fit3 T s k a f) (h1 : 0 ≤ n) (h2 : 1 ≤ d) (h3 : n ≤ d) (h4 : d ≤ 1048576) (hy : -60000000000 ≤ y) (hy2 : y ≤ 60000000000) : (chargeV s k a f y n d).2 = 0 := by
  by_cases hk : k = 4
  · rw [charge_none (y := y) hc h1 h2 h3 h4 hy hy2 hk]
  · rw [charge_is hc h1 h2 h3 h4 hy hy2 hk]
/-- codes in a row in memory -/
def Cds (W : World) (A : Option Addr) (n : Nat) (g : Nat → St) : Prop := 0 < n → ∃ b o, A = some ⟨b, o, none⟩ ∧ ∀ i, i < n →
  W.cell? ⟨b, o + i * 5, none⟩ = some (.int .i64 (g i).s) ∧ W.cell? ⟨b, o + i * 5 + 1, none⟩ = some (.int .i64 (g i).k) ∧ W.cell? ⟨b, o + i * 5 + 2, none⟩ = some (.int .i64 (g i).a) ∧ W.cell? ⟨b, o + i * 5 + 3, none⟩ = some (.int .i64 (g i).f) ∧ W.cell? ⟨b, o + i * 5 + 4, none⟩ = some (.bool (g i).x)
theorem Cds.below {W W' : World} {A : Option Addr} {n : Nat} {g : Nat → St} (h : Cds W A n g) (hb : Below W.heap.size W W') : Cds W' A n g := fun h0 => by
  obtain ⟨b, o, hA, hc⟩ := h h0
  refine ⟨b, o, hA, fun i hi => ?_⟩
  obtain ⟨h0, h1, h2, h3, h4⟩ := hc i hi
  exact ⟨cell_later hb h0, cell_later hb h1, cell_later hb h2, cell_later hb h3, cell_later hb h4⟩
/-- the document's own: due by the end of the first i -/
def rD (nm : Int) (T : TB) (g : Nat → St) : Nat → Int
  | 0 => 0
  | i + 1 => if (g i).x = true then rD nm T g i + (dueT T (g i).s (g i).k (g i).a (g i).f (g i).y 1 nm).1 else (dueT T (g i).s (g i).k (g i).a (g i).f (tyS g (i + 1)) (min ((i : Int) + 1) nm) nm).1
def rL (nm : Int) (T : TB) (g : Nat → St) (n : Nat) : List Int := (List.range n).map fun i => rD nm T g (i + 1)
theorem rL_succ (nm : Int) (T : TB) (g : Nat → St) (n : Nat) : rL nm T g (n + 1) = rL nm T g n ++ [rD nm T g (n + 1)] := by simp [rL, List.range_succ]
theorem rL_len (nm : Int) (T : TB) (g : Nat → St) (n : Nat) : (rL nm T g n).length = n := by simp [rL]
theorem iw_get {w : World} {B : Nat} {v : Value} {l : List Int} (h : Iw w B v l) {m : Nat} (hn : l.length = m) {n : Nat} {y : Int} (hy : l[n]? = some y) : ∃ g cap, v = .slice (some ⟨g, 0, none⟩) m cap ∧ w.cell? ⟨g, n, none⟩ = some (.int .i64 y) := by
  have hlt : n < l.length := (List.getElem?_eq_some_iff.1 hy).1
  rcases h.2 with ⟨_, h0⟩ | ⟨g, cap, cur, hv, hg, hh, _⟩
  · omega
  · rw [hn] at hv
    refine ⟨g, cap, hv, ?_⟩
    have := h.cells (g := g) (by rw [hv]; rfl) n (.int .i64 y) (by simp [iv, hy])
    rwa [Go.WideShapes.add_plain, Nat.zero_add] at this
theorem rD_bd {T : TB} (hT : TG T) (nm : Int) (g : Nat → St) : ∀ i : Nat, 0 ≤ rD nm T g i ∧ rD nm T g i ≤ 100000000000 * ((i : Int) + 1)
  | 0 => by simp [rD]
  | i + 1 => by
    have ih := rD_bd hT nm g i
    unfold rD
    split
    · have := due_bd hT (g i).s (g i).k (g i).a (g i).f (g i).y 1 nm
      omega
    · have := due_bd hT (g i).s (g i).k (g i).a (g i).f (tyS g (i + 1)) (min ((i : Int) + 1) nm) nm
      omega
theorem tyS_bd {g : Nat → St} : ∀ {i : Nat}, (∀ j, j < i → -1000000000 ≤ (g j).y ∧ (g j).y ≤ 1000000000) → -1000000000 * (i : Int) ≤ tyS g i ∧ tyS g i ≤ 1000000000 * (i : Int)
  | 0, _ => by simp [tyS]
  | i + 1, h => by
    have ih := tyS_bd (g := g) (i := i) fun j hj => h j (by omega)
    have hi := h i (by omega)
    show _ ≤ tyS g i + (g i).y ∧ tyS g i + (g i).y ≤ _
    omega
end Go.Proofs.YtffihnbpjcgicaaDoor
