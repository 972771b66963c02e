/- What tax.Year tells is what the document's own Year tells. -/
import Derived.Test.YtffihnbpjcgicaaDoorTaxY
namespace Go.Proofs.YtffihnbpjcgicaaDoor
set_option linter.unusedVariables false

theorem due_le {T : TB} (hT : TG T) {s k a f n d y : Int} (hc : Fit3 T s k a f) (hz : fitsV T s k a f = 0) (h1 : 0 ≤ n) (h2 : 1 ≤ d) (h3 : n ≤ d) (h4 : d ≤ 1048576) (hy : -60000000000 ≤ y) (hy2 : y ≤ 60000000000) :
    (dueT T s k a f y n d).2 = 0 ∧ 0 ≤ (dueT T s k a f y n d).1 ∧ (dueT T s k a f y n d).1 ≤ max (y + a * n / d) 0 := by
  refine ⟨by unfold dueT; rw [exact_is hT.ok hc hz h1 h2 h3 h4 hy hy2, if_neg (by simp)], (due_bd hT s k a f y n d).1, ?_⟩
  have b := fitB_bd hc.b
  have p := part_bd b.2.2.1 h1 h3 h2
  have fe := freeV_ok (a := a) (f := f) hc.c h1 h3 h2 h4
  have hX : max (y - (freeV s k a f n d).1) 0 ≤ max (y + a * n / d) 0 := by
    rw [fe]
    dsimp only
    split <;> omega
  have hX2 : 0 ≤ max (y - (freeV s k a f n d).1) 0 := by omega
  have hE := exact_is hT.ok hc hz h1 h2 h3 h4 hy hy2
  have hG : Gl (taxL (T.S s.toNat) k f n d) (max (y - (freeV s k a f n d).1) 0) ≤ 10000 * max (y - (freeV s k a f n d).1) 0 := by
    by_cases hk : k = 4
    · have : taxL (T.S s.toNat) k f n d = [] := by unfold taxL; rw [if_pos hk]
      rw [this, Gl_nil]; omega
    · have ok := taxL_ok hT.ok hc h1 h2 h3 hk
      unfold Gl
      have h1 := (G_mono (T := 10000) 0 (max (y - (freeV s k a f n d).1) 0) ok.2.2.2.1 ok.2.2.2.2.1 (by omega) hX2)
      rw [G_zero ok.2.2.2.1] at h1
      omega
  generalize max (y - (freeV s k a f n d).1) 0 = X at *
  unfold dueT
  rw [hE, if_neg (by simp)]
  show rnd (Gl _ X) 10000 T.W ≤ _
  generalize Gl (taxL (T.S s.toNat) k f n d) X = G at *
  rcases rnd_cases G 10000 T.W with e | ⟨e, h⟩ <;> rw [e] <;> omega

theorem year_same {T : TB} (hT : TG T) {nm c : Int} (g : Nat → St) (hm : 1 ≤ nm) (hm2 : nm ≤ 52) (hc : c ≤ nm + 1) {n : Nat} (hn : (n : Int) ≤ c)
    (hg : ∀ i, i < n → Fit3 T (g i).s (g i).k (g i).a (g i).f ∧ fitsV T (g i).s (g i).k (g i).a (g i).f = 0 ∧ -1000000000 ≤ (g i).y ∧ (g i).y ≤ 1000000000) :
    ∀ i, i ≤ n → tyD nm c T g i = rD nm T g i ∧ 0 ≤ rD nm T g i ∧ rD nm T g i ≤ (i : Int) * (1000000000 + 999999000 / nm) + 1000000000 ∧ (i < n → tyE nm c T g i = 0) := by
  have hp0 : 0 ≤ 999999000 / nm := Int.ediv_nonneg (by omega) (by omega)
  have hp1 : nm * (999999000 / nm) ≤ 999999000 := Int.mul_ediv_self_le (by omega)
  have hp2 : 999999000 / nm ≤ 999999000 := Int.ediv_le_self _ (by omega)
  have hall : ∀ i, i < n → 0 ≤ rD nm T g i → rD nm T g i ≤ (i : Int) * (1000000000 + 999999000 / nm) + 1000000000 → tyD nm c T g i = rD nm T g i →
      nextT nm c T (g i) ((i : Int) + 1) (tyS g (i + 1)) (tyD nm c T g i) = (rD nm T g (i + 1), 0) ∧ 0 ≤ rD nm T g (i + 1) ∧ rD nm T g (i + 1) ≤ ((i : Int) + 1) * (1000000000 + 999999000 / nm) + 1000000000 := by
    intro i hi h0 h1 hD
    obtain ⟨f3, fz, y0, y1⟩ := hg i hi
    have b := fitB_bd f3.b
    have hs := tyS_bd (g := g) (i := i + 1) fun j hj => (hg j (by omega)).2.2
    have hi2 : (i : Int) * (1000000000 + 999999000 / nm) ≤ nm * (1000000000 + 999999000 / nm) := Int.mul_le_mul_of_nonneg_right (by omega) (by omega)
    rw [Int.mul_add nm] at hi2
    have hi3 : ((i : Int) + 1) * (1000000000 + 999999000 / nm) = (i : Int) * (1000000000 + 999999000 / nm) + (1000000000 + 999999000 / nm) := by rw [Int.add_mul, Int.one_mul]
    have hi4 : 0 ≤ (i : Int) * (999999000 / nm) := Int.mul_nonneg (by omega) hp0
    have hi5 : (i : Int) * (1000000000 + 999999000 / nm) = (i : Int) * 1000000000 + (i : Int) * (999999000 / nm) := Int.mul_add _ _ _
    have hr : ¬ (((i : Int) + 1) < 1 ∨ c < (i : Int) + 1) := by omega
    cases hx : (g i).x
    · have d := due_le hT f3 fz (n := min ((i : Int) + 1) nm) (d := nm) (y := tyS g (i + 1)) (by omega) hm (by omega) (by omega) (by omega) (by omega)
      have p := part_bd (a := (g i).a) (n := min ((i : Int) + 1) nm) (d := nm) b.2.2.1 (by omega) (by omega) hm
      have e : rD nm T g (i + 1) = (dueT T (g i).s (g i).k (g i).a (g i).f (tyS g (i + 1)) (min ((i : Int) + 1) nm) nm).1 := by show (if (g i).x = true then _ else _) = _; rw [if_neg (by simp [hx])]
      rw [next_all hr hx, e, hi3, hi5]
      refine ⟨Prod.ext rfl d.1, d.2.1, ?_⟩
      have := d.2.2
      omega
    · have d := due_le hT f3 fz (n := 1) (d := nm) (y := (g i).y) (by omega) hm (by omega) (by omega) (by omega) (by omega)
      have p := part_bd (a := (g i).a) (n := 1) (d := nm) b.2.2.1 (by omega) (by omega) hm
      have p2 : (g i).a * 1 / nm ≤ 999999000 / nm := Int.ediv_le_ediv (by omega) (by omega)
      have e : rD nm T g (i + 1) = rD nm T g i + (dueT T (g i).s (g i).k (g i).a (g i).f (g i).y 1 nm).1 := by show (if (g i).x = true then _ else _) = _; rw [if_pos hx]
      rw [next_own hr hx d.1, e, hi3, hD]
      have := d.2.2
      refine ⟨?_, by omega, by omega⟩
      unfold addV
      rw [amtB_mk (by omega) (by omega), amtB_mk (by omega) (by omega), amtB_mk (by omega) (by omega)]
      rfl
  intro i
  induction i with
  | zero => 
    intro _
    refine ⟨rfl, by simp [rD], by simp [rD], fun h0 => ?_⟩
    have z := hall 0 h0 (by simp [rD]) (by simp [rD]) rfl
    obtain ⟨f3, fz, y0, y1⟩ := hg 0 h0
    unfold tyE
    have ha : (addV (tyS g 0) (g 0).y).2 = 0 := by
      unfold addV
      rw [amtB_mk (by simp [tyS]) (by simp [tyS]), amtB_mk (by omega) (by omega), amtB_mk (by simp [tyS]; omega) (by simp [tyS]; omega)]
      rfl
    rw [if_neg (by simp [ha]), z.1]
  | succ i ih =>
    intro hi
    have q := ih (by omega)
    have z := hall i (by omega) q.2.1 q.2.2.1 q.1
    have hD : tyD nm c T g (i + 1) = rD nm T g (i + 1) := by show (nextT nm c T (g i) ((i : Int) + 1) (tyS g (i + 1)) (tyD nm c T g i)).1 = _; rw [z.1]
    refine ⟨hD, z.2.1, by simpa using z.2.2, fun h => ?_⟩
    have z2 := hall (i + 1) h z.2.1 (by simpa using z.2.2) hD
    obtain ⟨f3, fz, y0, y1⟩ := hg (i + 1) h
    have hs := tyS_bd (g := g) (i := i + 1) fun j hj => (hg j (by omega)).2.2
    unfold tyE
    have ha : (addV (tyS g (i + 1)) (g (i + 1)).y).2 = 0 := by
      unfold addV
      rw [amtB_mk (by omega) (by omega), amtB_mk (by omega) (by omega), amtB_mk (by omega) (by omega)]
      rfl
    rw [if_neg (by simp [ha]), z2.1]
end Go.Proofs.YtffihnbpjcgicaaDoor
