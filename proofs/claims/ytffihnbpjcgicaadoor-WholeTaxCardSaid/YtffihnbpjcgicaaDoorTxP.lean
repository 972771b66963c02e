/- Plain facts of a year of steps whose dues are from 0 to the most: none is refused, and nothing beyond the limit is withheld. -/
import Derived.Test.YtffihnbpjcgicaaDoorHldC
import Derived.Test.YtffihnbpjcgicaaDoorTaxYZ
namespace Go.Proofs.YtffihnbpjcgicaaDoor.Hd
open Go.RowKit

/-- an amount that is due may be -/
def DuOk (x : Py) : Prop := -100000000000 ≤ x.c ∧ x.c ≤ 100000000000 ∧ 0 ≤ x.D ∧ x.D ≤ 100000000000
theorem wh_step {L W S : Int} (x : Py) (h0 : 0 ≤ L) (h1 : L ≤ 10000) (hW : 0 ≤ W ∧ W ≤ 100000000000) (hS : -100000000000 ≤ S ∧ S ≤ 100000000000) (hx : DuOk x) :
    stepE L W S x.c x.D = 0 ∧ (0 ≤ W + stepH L W x.c x.D x.b ∧ W + stepH L W x.c x.D x.b ≤ 100000000000) ∧ (-100000000000 ≤ x.D - W - stepH L W x.c x.D x.b ∧ x.D - W - stepH L W x.c x.D x.b ≤ 100000000000) ∧
    stepH L W x.c x.D x.b ≤ limV L x.c ∧ (x.b = false → 0 ≤ stepH L W x.c x.D x.b) ∧ (0 < x.D - W - stepH L W x.c x.D x.b → stepH L W x.c x.D x.b = limV L x.c) ∧
    (x.b = true → x.D - W - stepH L W x.c x.D x.b = 0 ∨ (limV L x.c < x.D ∧ 0 < x.D - W - stepH L W x.c x.D x.b)) := by
  obtain ⟨c0, c1, d0, d1⟩ := hx
  have l := limV_bd h0 h1 c1
  refine ⟨stepE_mk (by rw [amtB_mk (by omega) (by omega), amtB_mk (by omega) (by omega), amtB_mk (by omega) (by omega), amtB_mk (by omega) (by omega)]; rfl) (rateB_mk h0 h1) (amtB_mk (by omega) (by omega)), ?_⟩
  unfold stepH partV
  generalize limV L x.c = lim at *
  cases hb : x.b
  · simp only [and_true, reduceCtorEq, false_implies, true_implies]
    split <;> omega
  · simp only [and_false, reduceCtorEq, if_false, false_implies, true_implies, true_and]
    omega
theorem wh_all {L : Int} {f : Nat → Py} (h0 : 0 ≤ L) (h1 : L ≤ 10000) : ∀ {n : Nat}, (∀ i, i < n → DuOk (f i)) →
    (0 ≤ (yrS L f n).1 ∧ (yrS L f n).1 ≤ 100000000000) ∧ (-100000000000 ≤ (yrS L f n).2 ∧ (yrS L f n).2 ≤ 100000000000) ∧ firstE (yrE L f) n = 0
  | 0, _ => ⟨⟨Int.le_refl _, by show (0 : Int) ≤ _; omega⟩, ⟨by show _ ≤ (0 : Int); omega, by show (0 : Int) ≤ _; omega⟩, rfl⟩
  | n + 1, hf => by
    obtain ⟨a, b, c⟩ := wh_all h0 h1 (n := n) (fun i hi => hf i (by omega))
    obtain ⟨s1, s2, s3, _⟩ := wh_step (f n) h0 h1 a b (hf n (by omega))
    exact ⟨s2, s3, first_succ c s1⟩
theorem wh_at {L : Int} {f : Nat → Py} (h0 : 0 ≤ L) (h1 : L ≤ 10000) {n : Nat} (hf : ∀ i, i < n → DuOk (f i)) {i : Nat} (hi : i < n) :
    yrH L f i ≤ limV L (f i).c ∧ ((f i).b = false → 0 ≤ yrH L f i) ∧ (0 < (yrS L f (i + 1)).2 → yrH L f i = limV L (f i).c) ∧ ((f i).b = true → (yrS L f (i + 1)).2 = 0 ∨ (limV L (f i).c < (f i).D ∧ 0 < (yrS L f (i + 1)).2)) := by
  obtain ⟨a, b, _⟩ := wh_all h0 h1 (n := i) (fun j hj => hf j (by omega))
  obtain ⟨_, _, _, s⟩ := wh_step (f i) h0 h1 a b (hf i hi)
  exact s
/-- a year's steps hang on the periods up to there alone -/
theorem yrS_congr {L : Int} {f g : Nat → Py} : ∀ {n : Nat}, (∀ i, i < n → f i = g i) → yrS L f n = yrS L g n
  | 0, _ => rfl
  | n + 1, h => by
    have e := yrS_congr (L := L) (n := n) (fun i hi => h i (by omega))
    have e2 := h n (by omega)
    show ((yrS L f n).1 + stepH L (yrS L f n).1 (f n).c (f n).D (f n).b, (f n).D - (yrS L f n).1 - stepH L (yrS L f n).1 (f n).c (f n).D (f n).b) = _
    rw [e, e2]
    rfl
end Go.Proofs.YtffihnbpjcgicaaDoor.Hd
