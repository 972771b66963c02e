/- Merged: TaxF, TaxG. -/
import Derived.Test.YtffihnbpjcgicaaDoorTaxA
import Derived.Lib.Hide
import Derived.Sort.Walk0
import Derived.Test.YtffihnbpjcgicaaDoorTaxB
/- What the document's own calls of the tax answer: Round, Free, Exact. -/
namespace Go.Proofs.YtffihnbpjcgicaaDoor
open Go.RowKit Go.Sort
set_option linter.unusedVariables false
set_option linter.unusedSimpArgs false

/-- a number rounded by its quotient and its rest -/
def rndQ (q r m : Int) : Int := if 0 < r ∧ rises q r 10000 m = true then q + 1 else q
theorem rndQ_of {x q r : Int} (m : Int) (he : x = 10000 * q + r) (h0 : 0 ≤ r) (h1 : r < 10000) : rnd x 10000 m = rndQ q r m := by
  have := (Int.ediv_emod_unique (a := x) (b := 10000) (q := q) (r := r) (by omega)).2 ⟨by omega, h0, h1⟩
  unfold rnd rndQ
  rw [this.1, this.2]
end Go.Proofs.YtffihnbpjcgicaaDoor

/- What the document's own call Exact of the tax answers. -/
namespace Go.Proofs.YtffihnbpjcgicaaDoor
open Go.RowKit Go.Sort
set_option linter.unusedVariables false
set_option linter.unusedSimpArgs false

/-- what the first i bands come to -/
def refO (P R : Nat → Int) (n : Nat) (x : Int) (i : Nat) : Int := if i < n then Gb P R i (min x (P i)) else Gb P R n x
/-- up to where an amount lies in a band -/
def refU (P : Nat → Int) (n : Nat) (x : Int) (i : Nat) : Int := if i + 1 < n then min x (P (i + 1)) else x
theorem refO_succ {P R : Nat → Int} {n i : Nat} {x : Int} (hi : i < n) (hm : ∀ j, 0 < j → j < n → P (j - 1) ≤ P j) : refO P R n x (i + 1) = refO P R n x i + R i * max (refU P n x i - P i) 0 := by
  unfold refO refU
  rw [if_pos hi]
  by_cases h : i + 1 < n
  · rw [if_pos h, if_pos h]
    show Gb P R i (min (min x (P (i + 1))) (P i)) + R i * max (min x (P (i + 1)) - P i) 0 = _
    have := hm (i + 1) (by omega) h
    rw [show i + 1 - 1 = i by omega] at this
    rw [show min (min x (P (i + 1))) (P i) = min x (P i) by omega]
  · rw [if_neg h, if_neg h]
    obtain rfl : n = i + 1 := by omega
    rfl
theorem refO_zero (P R : Nat → Int) {n : Nat} (x : Int) (h : 0 < n) : refO P R n x 0 = 0 := by unfold refO; rw [if_pos h]; rfl
theorem refO_end (P R : Nat → Int) (n : Nat) (x : Int) : refO P R n x n = Gb P R n x := by unfold refO; rw [if_neg (by omega)]
theorem refO_bd {P R : Nat → Int} {n : Nat} (hf : Fit P n) (hR : Rts R n) {x : Int} (hx : x ≤ 100000000000) {i : Nat} (hi : i ≤ n) : 0 ≤ refO P R n x i ∧ refO P R n x i ≤ 1000000000000000 := by
  unfold refO
  split
  · rename_i h
    have := hf i h
    exact G_bd (fun j hj => hf j (by omega)) (fun j hj => hR j (by omega)) (by omega)
  · exact G_bd hf hR hx

end Go.Proofs.YtffihnbpjcgicaaDoor
