/- The lesser of two pieces over a stretch, or the greater one; functions that are shifted, that fall, that reach, as plain numbers. -/
import Derived.Test.YtcldknmhmbpboaaPcB
namespace Go.Proofs.Ytcldknmhmbpboaa
open Go.RowKit
set_option linter.unusedVariables false
namespace Lf
/-- the lesser value, or, by a sign of -1, the greater one -/
def pick (sg p q : Int) : Int := if sg = 1 then min p q else max p q
theorem pick_comm (sg p q : Int) : pick sg p q = pick sg q p := by unfold pick; rw [Int.min_comm, Int.max_comm]
theorem pick_is {sg p q : Int} (hs : sg = 1 ∨ sg = -1) (h : 0 ≤ sg * (q - p)) : pick sg p q = p := by
  unfold pick
  rcases hs with rfl | rfl
  · rw [if_pos rfl]; omega
  · rw [if_neg (by omega)]; omega
/-- one piece or two that are h from a up to e, by the rates r and s -/
structure Seg (q : Lf) (a e r s : Int) (h : Int → Int) : Prop where
  n : q.n = 1 ∨ q.n = 2
  z : q.F 0 = a
  up : q.n = 2 → a < q.F 1 ∧ q.F 1 ≤ e
  as : ∀ i, i < q.n → ∀ x, q.F i ≤ x → x ≤ (if i + 1 < q.n then q.F (i + 1) - 1 else e) → q.ln i x = h x
  rt : ∀ i, i < q.n → q.R i = r ∨ q.R i = s
def one (a v r : Int) : Lf := ⟨1, fun _ => a, fun _ => v, fun _ => r⟩
def two (a v r c u s : Int) : Lf := ⟨2, fun i => if i = 0 then a else c, fun i => if i = 0 then v else u, fun i => if i = 0 then r else s⟩
theorem seg_one {sg a e hv hr tv tr : Int} (hs : sg = 1 ∨ sg = -1) (h1 : 0 ≤ sg * (tv - hv)) (h2 : 0 ≤ sg * ((tv + (e - a) * tr) - (hv + (e - a) * hr))) :
    Seg (one a hv hr) a e hr tr fun x => pick sg (hv + (x - a) * hr) (tv + (x - a) * tr) := by
  refine ⟨.inl rfl, rfl, fun h => (by cases h), fun i hi x p q => ?_, fun i _ => .inl rfl⟩
  have hi0 : i < 1 := hi
  rw [if_neg (show ¬ i + 1 < (one a hv hr).n from by show ¬ i + 1 < 1; omega)] at q
  have p' : a ≤ x := p
  show hv + (x - a) * hr = _
  refine (pick_is hs ?_).symm
  have m := lin_bd (v := sg * (tv - hv)) (r := sg * (tr - hr)) (a := x - a) (b := e - a) (lo := 0) (hi := sg * (tv - hv) + (sg * ((tv + (e - a) * tr) - (hv + (e - a) * hr)))) (by omega) (by omega) h1 (by omega)
    (by rcases hs with rfl | rfl
        · have : (e - a) * (1 * (tr - hr)) = (e - a) * tr - (e - a) * hr := by rw [Int.one_mul, Int.mul_sub]
          omega
        · have : (e - a) * (-1 * (tr - hr)) = (e - a) * hr - (e - a) * tr := by rw [Int.neg_one_mul, Int.neg_sub, Int.mul_sub]
          omega)
    (by rcases hs with rfl | rfl
        · have : (e - a) * (1 * (tr - hr)) = (e - a) * tr - (e - a) * hr := by rw [Int.one_mul, Int.mul_sub]
          omega
        · have : (e - a) * (-1 * (tr - hr)) = (e - a) * hr - (e - a) * tr := by rw [Int.neg_one_mul, Int.neg_sub, Int.mul_sub]
          omega)
  rcases hs with rfl | rfl
  · have : (x - a) * (1 * (tr - hr)) = (x - a) * tr - (x - a) * hr := by rw [Int.one_mul, Int.mul_sub]
    omega
  · have : (x - a) * (-1 * (tr - hr)) = (x - a) * hr - (x - a) * tr := by rw [Int.neg_one_mul, Int.neg_sub, Int.mul_sub]
    omega
theorem seg_two {sg a e hv hr tv tr : Int} (hs : sg = 1 ∨ sg = -1) (hae : a ≤ e) (h1 : 0 < sg * (tv - hv)) (h2 : sg * ((tv + (e - a) * tr) - (hv + (e - a) * hr)) < 0) :
    0 < sg * (hr - tr) ∧ 0 ≤ sg * (tv - hv) / (sg * (hr - tr)) ∧ a + sg * (tv - hv) / (sg * (hr - tr)) + 1 ≤ e ∧
    Seg (two a hv hr (a + sg * (tv - hv) / (sg * (hr - tr)) + 1) (tv + (a + sg * (tv - hv) / (sg * (hr - tr)) + 1 - a) * tr) tr) a e hr tr fun x => pick sg (hv + (x - a) * hr) (tv + (x - a) * tr) := by
  have key : ∀ y : Int, y * (sg * (hr - tr)) = sg * (y * hr - y * tr) := fun y => by
    rcases hs with rfl | rfl
    · rw [Int.one_mul, Int.one_mul, Int.mul_sub]
    · rw [Int.neg_one_mul, Int.neg_one_mul, Int.mul_neg, Int.mul_sub]
  generalize hD : sg * (tv - hv) = D at *
  have hlin : ∀ y : Int, sg * ((tv + y * tr) - (hv + y * hr)) = D - y * (sg * (hr - tr)) := fun y => by
    rw [key y, ← hD]
    rcases hs with rfl | rfl <;> omega
  rw [hlin] at h2
  generalize hN : sg * (hr - tr) = N at *
  have hN0 : 0 < N := by
    rcases Int.lt_or_le 0 N with h | h
    · exact h
    · have := Int.mul_nonpos_of_nonneg_of_nonpos (show 0 ≤ e - a by omega) h
      omega
  have q0 : 0 ≤ D / N := Int.ediv_nonneg (by omega) (by omega)
  have d1 := Int.mul_ediv_add_emod D N
  have d2 := Int.emod_nonneg D (show N ≠ 0 by omega)
  have d3 := Int.emod_lt_of_pos D hN0
  have hcmp : ∀ y : Int, y ≤ D / N → y * N ≤ D := fun y hy => by
    have := Int.mul_le_mul_of_nonneg_right hy (show 0 ≤ N by omega)
    rw [Int.mul_comm (D / N) N] at this
    omega
  have hcmp2 : ∀ y : Int, D / N + 1 ≤ y → D < y * N := fun y hy => by
    have := Int.mul_le_mul_of_nonneg_right hy (show 0 ≤ N by omega)
    rw [Int.add_mul, Int.mul_comm (D / N) N, Int.one_mul] at this
    omega
  have hce : a + D / N + 1 ≤ e := by
    rcases Int.lt_or_le (D / N) (e - a) with h | h
    · omega
    · have := hcmp (e - a) h; omega
  refine ⟨hN0, q0, hce, ⟨.inr rfl, rfl, fun _ => ⟨by show a < a + D / N + 1; omega, hce⟩, fun i hi x p q => ?_, fun i _ => ?_⟩⟩
  · have hi2 : i < 2 := hi
    rcases (show i = 0 ∨ i = 1 by omega) with rfl | rfl
    · have p' : a ≤ x := p
      have q' : x ≤ a + D / N + 1 - 1 := q
      show hv + (x - a) * hr = _
      refine (pick_is hs ?_).symm
      rw [hlin]
      have := hcmp (x - a) (by omega)
      omega
    · have p' : a + D / N + 1 ≤ x := p
      show (tv + (a + D / N + 1 - a) * tr) + (x - (a + D / N + 1)) * tr = _
      rw [Int.add_assoc, ← Int.add_mul, show a + D / N + 1 - a + (x - (a + D / N + 1)) = x - a by omega, pick_comm]
      refine (pick_is hs ?_).symm
      have h3 := hlin (x - a)
      have := hcmp2 (x - a) (by omega)
      rcases hs with rfl | rfl <;> omega
  · by_cases e0 : i = 0
    · subst e0; exact .inl rfl
    · exact .inr (if_neg e0)
/-- both pieces of a stretch, one behind the other, put to what there was -/
theorem Seg.rep {q f : Lf} {a e r s : Int} {h : Int → Int} (S : Seg q a e r s h) (hae : a ≤ e) (h0 : 0 ≤ a) (H : Rep f a h) :
    (q.n = 1 → Rep (f.thn (q.F 0) (q.V 0) (q.R 0)) (e + 1) h) ∧ (q.n = 2 → Rep (f.thn (q.F 0) (q.V 0) (q.R 0)) (q.F 1) h ∧ Rep ((f.thn (q.F 0) (q.V 0) (q.R 0)).thn (q.F 1) (q.V 1) (q.R 1)) (e + 1) h) := by
  have z := S.z
  constructor
  · intro hn
    rw [z]
    refine H.thn h0 (by omega) fun x p t => ?_
    have := S.as 0 (by omega) x (by omega) (by rw [if_neg (by omega)]; omega)
    unfold ln at this
    rw [z] at this; exact this
  · intro hn
    have u := S.up hn
    have H1 : Rep (f.thn (q.F 0) (q.V 0) (q.R 0)) (q.F 1) h := by
      rw [z]
      refine H.thn h0 u.1 fun x p t => ?_
      have := S.as 0 (by omega) x (by omega) (by rw [if_pos (by omega)]; show x ≤ q.F 1 - 1; omega)
      unfold ln at this
      rw [z] at this; exact this
    refine ⟨H1, H1.thn (by omega) (by omega) fun x p t => ?_⟩
    have := S.as 1 (by omega) x p (by rw [if_neg (by omega)]; omega)
    exact this
theorem pick_bd {sg p q lo hi : Int} (h1 : lo ≤ p) (h2 : p ≤ hi) (h3 : lo ≤ q) (h4 : q ≤ hi) : lo ≤ pick sg p q ∧ pick sg p q ≤ hi := by
  unfold pick; split <;> omega
end Lf
end Go.Proofs.Ytcldknmhmbpboaa
