/- Plain facts about joined bands: none is like the one ahead of it; they come to the same: no program in sight. -/
import Derived.Test.YtkiefceomgbbhaaBndB
namespace Go.Proofs.Ytkiefceomgbbhaa

theorem refb_congr {F R F' R' : Nat → Int} (x : Int) {k : Nat} (h : ∀ i, i < k → F i = F' i ∧ R i = R' i) : refb F R x k = refb F' R' x k := by
  induction k with
  | zero => rfl
  | succ k ih =>
    have hk := h k (by omega)
    have hp : prv R k = prv R' k := by
      unfold prv
      split
      · rfl
      · exact (h (k - 1) (by omega)).2
    simp only [refb]
    rw [ih fun i hi => h i (by omega), hk.1, hk.2, hp]
theorem topb_congr {R R' : Nat → Int} {k : Nat} (h : ∀ i, i < k → R i = R' i) : topb R k = topb R' k := by
  induction k with
  | zero => rfl
  | succ k ih =>
    simp only [topb]
    rw [ih fun i hi => h i (by omega), h k (by omega)]
structure JInv (F R E : Nat → Int) (J : List Bd) (j : Nat) : Prop where
  len : 0 < J.length
  zero : gF J 0 = F 0
  last : gR J (J.length - 1) = R j ∧ gE J (J.length - 1) = E j ∧ gF J (J.length - 1) ≤ F j
  rise : ∀ i, 0 < i → i < J.length → gF J (i - 1) < gF J i
  ok : ∀ i, i < J.length → (0 ≤ gF J i ∧ gF J i ≤ 100000000000) ∧ (0 ≤ gR J i ∧ gR J i ≤ 10000) ∧ (0 ≤ gE J i ∧ gE J i ≤ 10000)
  diff : ∀ i, 0 < i → i < J.length → lik (gR J) (gE J) i = false
  top : topb (gR J) J.length = topb R (j + 1)
  refR : ∀ x, refb (gF J) (gR J) x J.length = refb F R x (j + 1)
  refE : ∀ x, refb (gF J) (gE J) x J.length = refb F E x (j + 1)
theorem refb_skip {F V : Nat → Int} {x : Int} {j : Nat} (h0 : 0 < j) (h : V j = V (j - 1)) : refb F V x (j + 1) = refb F V x j := by
  simp only [refb]
  have : V j - prv V j = 0 := by unfold prv; rw [if_neg (by omega), h]; omega
  rw [this]
  simp
theorem cmj_inv {F R E : Nat → Int} {n : Nat} (hok : Okb F R E n) : ∀ j, j < n → JInv F R E (cmj F R E (j + 1)) j := by
  obtain ⟨o1, o2, oI, oF, oR, oE⟩ := hok
  intro j
  induction j with
  | zero =>
    intro hj
    have e : cmj F R E (0 + 1) = [(F 0, R 0, E 0)] := by simp [cmj]
    rw [e]
    have hone : ∀ i, i < [(F 0, R 0, E 0)].length → i = 0 := fun i hi => by simpa using hi
    refine ⟨by simp, by simp [gF], ⟨by simp [gR], by simp [gE], by simp [gF]⟩, fun i h1 h2 => by have := hone i h2; omega, fun i hi => ?_, fun i h1 h2 => by have := hone i h2; omega, ?_, fun x => ?_, fun x => ?_⟩
    · obtain rfl := hone i hi
      exact ⟨by simpa [gF] using oF 0 hj, by simpa [gR] using oR 0 hj, by simpa [gE] using oE 0 hj⟩
    · exact topb_congr (k := 1) fun i hi => by
        obtain rfl : i = 0 := by omega
        simp [gR]
    · exact refb_congr x (k := 1) fun i hi => by
        obtain rfl : i = 0 := by omega
        simp [gF, gR]
    · exact refb_congr x (k := 1) fun i hi => by
        obtain rfl : i = 0 := by omega
        simp [gF, gE]
  | succ j ih =>
    intro hj
    have I := ih (by omega)
    have hlt := inc_lt oI (i := j) (j := j + 1) (by omega) hj
    by_cases hl : lik R E (j + 1) = true
    · have e : cmj F R E (j + 1 + 1) = cmj F R E (j + 1) := if_pos ⟨by omega, hl⟩
      have hd := hl
      simp only [lik, decide_eq_true_eq] at hd
      rw [show j + 1 - 1 = j by omega] at hd
      rw [e]
      have hR := oR j (by omega)
      refine ⟨I.len, I.zero, ⟨by rw [hd.1]; exact I.last.1, by rw [hd.2]; exact I.last.2.1, by have := I.last.2.2; omega⟩, I.rise, I.ok, I.diff, ?_, fun x => ?_, fun x => ?_⟩
      · rw [I.top]
        show _ = max (topb R (j + 1)) (R (j + 1))
        have := top_ge R (j + 1) j (by omega)
        omega
      · rw [I.refR, refb_skip (j := j + 1) (by omega) (by rw [show j + 1 - 1 = j by omega]; exact hd.1)]
      · rw [I.refE, refb_skip (j := j + 1) (by omega) (by rw [show j + 1 - 1 = j by omega]; exact hd.2)]
    · have e : cmj F R E (j + 1 + 1) = cmj F R E (j + 1) ++ [(F (j + 1), R (j + 1), E (j + 1))] := if_neg (fun h => hl h.2)
      have hl' : lik R E (j + 1) = false := by simpa using hl
      have hd : ¬ (R (j + 1) = R j ∧ E (j + 1) = E j) := by
        simp only [lik, decide_eq_false_iff_not] at hl'
        rwa [show j + 1 - 1 = j by omega] at hl'
      rw [e]
      generalize cmj F R E (j + 1) = J at *
      have hlen := I.len
      have fF : ∀ i, i < J.length → gF (J ++ [(F (j + 1), R (j + 1), E (j + 1))]) i = gF J i := fun i hi => by unfold gF; rw [gF_app hi]
      have fR : ∀ i, i < J.length → gR (J ++ [(F (j + 1), R (j + 1), E (j + 1))]) i = gR J i := fun i hi => by unfold gR; rw [gF_app hi]
      have fE : ∀ i, i < J.length → gE (J ++ [(F (j + 1), R (j + 1), E (j + 1))]) i = gE J i := fun i hi => by unfold gE; rw [gF_app hi]
      have lF : gF (J ++ [(F (j + 1), R (j + 1), E (j + 1))]) J.length = F (j + 1) := by unfold gF; rw [gF_end]
      have lR : gR (J ++ [(F (j + 1), R (j + 1), E (j + 1))]) J.length = R (j + 1) := by unfold gR; rw [gF_end]
      have lE : gE (J ++ [(F (j + 1), R (j + 1), E (j + 1))]) J.length = E (j + 1) := by unfold gE; rw [gF_end]
      have nl : (J ++ [(F (j + 1), R (j + 1), E (j + 1))]).length = J.length + 1 := by simp
      generalize J ++ [(F (j + 1), R (j + 1), E (j + 1))] = K at *
      have pk : J.length + 1 - 1 = J.length := by omega
      have pj : j + 1 - 1 = j := by omega
      refine ⟨by omega, by rw [fF 0 hlen]; exact I.zero, ?_, fun i h1 h2 => ?_, fun i hi => ?_, fun i h1 h2 => ?_, ?_, fun x => ?_, fun x => ?_⟩
      · rw [nl, pk, lF, lR, lE]
        exact ⟨rfl, rfl, Int.le_refl _⟩
      · rw [nl] at h2
        by_cases e2 : i = J.length
        · subst e2
          rw [lF, fF _ (by omega)]
          have := I.last.2.2
          omega
        · rw [fF i (by omega), fF (i - 1) (by omega)]
          exact I.rise i h1 (by omega)
      · rw [nl] at hi
        by_cases e2 : i = J.length
        · subst e2
          rw [lF, lR, lE]
          exact ⟨oF _ hj, oR _ hj, oE _ hj⟩
        · rw [fF i (by omega), fR i (by omega), fE i (by omega)]
          exact I.ok i (by omega)
      · rw [nl] at h2
        by_cases e2 : i = J.length
        · subst e2
          simp only [lik, decide_eq_false_iff_not]
          rw [lR, lE, fR _ (by omega), fE _ (by omega), I.last.1, I.last.2.1]
          exact hd
        · have := I.diff i h1 (by omega)
          simp only [lik] at this ⊢
          rw [fR i (by omega), fE i (by omega), fR (i - 1) (by omega), fE (i - 1) (by omega)]
          exact this
      · rw [nl]
        show max (topb _ J.length) (gR K J.length) = max (topb R (j + 1)) (R (j + 1))
        rw [← I.top, topb_congr (R' := gR J) fR, lR]
      · rw [nl]
        have hp : prv (gR K) J.length = prv R (j + 1) := by
          unfold prv
          rw [if_neg (by omega), if_neg (by omega), pj, ← I.last.1, fR _ (by omega)]
        show refb _ _ x J.length + (if gF K J.length < x then (x - gF K J.length) * (gR K J.length - prv (gR K) J.length) else 0) = refb F R x (j + 1) + (if F (j + 1) < x then (x - F (j + 1)) * (R (j + 1) - prv R (j + 1)) else 0)
        rw [hp, refb_congr (F' := gF J) (R' := gR J) x fun i hi => ⟨fF i hi, fR i hi⟩, I.refR, lF, lR]
      · rw [nl]
        have hp : prv (gE K) J.length = prv E (j + 1) := by
          unfold prv
          rw [if_neg (by omega), if_neg (by omega), pj, ← I.last.2.1, fE _ (by omega)]
        show refb _ _ x J.length + (if gF K J.length < x then (x - gF K J.length) * (gE K J.length - prv (gE K) J.length) else 0) = refb F E x (j + 1) + (if F (j + 1) < x then (x - F (j + 1)) * (E (j + 1) - prv E (j + 1)) else 0)
        rw [hp, refb_congr (F' := gF J) (R' := gE J) x fun i hi => ⟨fF i hi, fE i hi⟩, I.refE, lF, lE]
theorem lst_self (L : List Bd) : lst (gF L) (gR L) (gE L) L.length = L := by
  apply List.ext_getElem?
  intro i
  rcases Nat.lt_or_ge i L.length with h | h
  · rw [lst_get _ _ _ h, List.getElem?_eq_getElem h]
    simp only [gF, gR, gE, List.getD_eq_getElem?_getD, List.getElem?_eq_getElem h, Option.getD_some]
  · rw [List.getElem?_eq_none (by rw [lst_len]; exact h), List.getElem?_eq_none h]
/-- what is joined, joined again, is the same -/
theorem cmj_twice {F R E : Nat → Int} {n : Nat} (hok : Okb F R E n) : cmj (gF (cmj F R E n)) (gR (cmj F R E n)) (gE (cmj F R E n)) (cmj F R E n).length = cmj F R E n := by
  have I := cmj_inv hok (n - 1) (by have := hok.1; omega)
  rw [show n - 1 + 1 = n by have := hok.1; omega] at I
  rw [cmj_all _ _ _ I.diff, lst_self]
theorem cmj_okb {F R E : Nat → Int} {n : Nat} (hok : Okb F R E n) : Okb (gF (cmj F R E n)) (gR (cmj F R E n)) (gE (cmj F R E n)) (cmj F R E n).length := by
  have I := cmj_inv hok (n - 1) (by have := hok.1; omega)
  rw [show n - 1 + 1 = n by have := hok.1; omega] at I
  have := cmj_len F R E n
  have h2 := hok.2.1
  exact ⟨I.len, by omega, ⟨by rw [I.zero]; exact hok.2.2.1.1, I.rise⟩, fun i hi => (I.ok i hi).1, fun i hi => (I.ok i hi).2.1, fun i hi => (I.ok i hi).2.2⟩
end Go.Proofs.Ytkiefceomgbbhaa
