/- Plain facts of the rate of the next coin: it is a rate of the scheme, and changes at corners alone. -/
import Derived.Test.YtffihnbpjcgicaaDoorTaxB
namespace Go.Proofs.YtffihnbpjcgicaaDoor
set_option linter.unusedVariables false
set_option linter.unusedSimpArgs false

/-- what the coin behind c comes to -/
def slp (L : List Bd) (c : Int) : Int := Gl L (c + 1) - Gl L c
theorem slp_push (M : List Bd) (t : Bd) (c : Int) : slp (M ++ [t]) c = if t.1 ≤ c then t.2.1 else slp M c := by
  unfold slp
  rw [Gl_push, Gl_push]
  split
  · rename_i h
    rw [show min (c + 1) t.1 = min c t.1 by omega, show max (c + 1 - t.1) 0 = max (c - t.1) 0 + 1 by omega, Int.mul_add]
    omega
  · rename_i h
    rw [show min (c + 1) t.1 = c + 1 by omega, show min c t.1 = c by omega, show max (c + 1 - t.1) 0 = 0 by omega, show max (c - t.1) 0 = 0 by omega]
    omega
theorem rev_ind {α : Type} {P : List α → Prop} (h0 : P []) (h1 : ∀ M t, P M → P (M ++ [t])) : ∀ L, P L := fun L => by
  have : ∀ n, ∀ L : List α, L.length = n → P L := by
    intro n
    induction n with
    | zero => intro L hL; rw [List.length_eq_zero_iff.1 hL]; exact h0
    | succ n ih =>
      intro L hL
      have hne : L ≠ [] := by intro e; rw [e] at hL; simp at hL
      rw [← List.dropLast_concat_getLast hne]
      exact h1 _ _ (ih _ (by simp [hL]))
  exact this _ L rfl
theorem slp_bd {r : Int} (hr : 0 ≤ r) (c : Int) : ∀ L : List Bd, (∀ t ∈ L, 0 ≤ t.2.1 ∧ t.2.1 ≤ r) → 0 ≤ slp L c ∧ slp L c ≤ r := by
  refine rev_ind (fun _ => ?_) (fun M t ih h => ?_)
  · show 0 ≤ slp [] c ∧ slp [] c ≤ r
    unfold slp; rw [Gl_nil, Gl_nil]; omega
  · rw [slp_push]
    split
    · exact h t (by simp)
    · exact ih fun u hu => h u (by simp [hu])
theorem slp_corner (c : Int) : ∀ L : List Bd, slp L c ≠ slp L (c - 1) → ∃ t ∈ L, t.1 = c := by
  refine rev_ind (fun h => ?_) (fun M t ih h => ?_)
  · exfalso; apply h; unfold slp; simp only [Gl_nil]
  · rw [slp_push, slp_push] at h
    by_cases h1 : t.1 = c
    · exact ⟨t, by simp, h1⟩
    · by_cases h2 : t.1 ≤ c
      · rw [if_pos h2, if_pos (by omega)] at h
        exact absurd rfl h
      · rw [if_neg h2, if_neg (by omega)] at h
        obtain ⟨u, hu, e⟩ := ih h
        exact ⟨u, by simp [hu], e⟩
theorem scl_mem {p R E : Nat → Int} : ∀ {n : Nat} {t : Bd}, t ∈ scl p R E n → ∃ i, i < n ∧ t.2.1 = R i
  | 0, t, h => by cases h
  | n + 1, t, h => by
    have h : t ∈ (if 0 < n ∧ p n = p (n - 1) then (scl p R E n).dropLast else scl p R E n) ++ [(p n, R n, E n)] := h
    rcases List.mem_append.1 h with h1 | h1
    · have : t ∈ scl p R E n := by
        split at h1
        · exact (List.dropLast_sublist _).mem h1
        · exact h1
      obtain ⟨i, hi, e⟩ := scl_mem this
      exact ⟨i, by omega, e⟩
    · simp only [List.mem_singleton] at h1
      subst h1
      exact ⟨n, by omega, rfl⟩
/-- each rate of the bands of a code is one of the scheme -/
theorem taxL_mem {T : TB} (hT : TOk T) {s k a f : Int} (hc : Fit3 T s k a f) {n d : Int} {t : Bd} (h : t ∈ taxL (T.S s.toNat) k f n d) : 0 ≤ t.2.1 ∧ t.2.1 ≤ topb (T.S s.toNat).R (T.S s.toNat).n := by
  have hs := hT.s s.toNat (by have := hc.sn; have := hc.s0; omega)
  have hb := fitB_bd hc.b
  unfold taxL at h
  split at h
  · cases h
  · split at h
    · rename_i h3
      simp only [List.mem_singleton] at h
      subst h
      have := hc.fl h3
      exact ⟨(hs.2.2.2.2.1 f.toNat (by omega)).1, top_ge _ _ _ (by omega)⟩
    · obtain ⟨i, hi, e⟩ := scl_mem h
      rw [e]
      exact ⟨(hs.2.2.2.2.1 i hi).1, top_ge _ _ i hi⟩
/-- what is charged of an amount -/
theorem charge_is {T : TB} {s k a f n d y : Int} (hc : Fit3 T s k a f) (h1 : 0 ≤ n) (h2 : 1 ≤ d) (h3 : n ≤ d) (h4 : d ≤ 1048576) (hy : -60000000000 ≤ y) (hy2 : y ≤ 60000000000) (hk : k ≠ 4) :
    chargeV s k a f y n d = (max (y - (freeV s k a f n d).1) 0, 0) := by
  have fe := freeV_ok (a := a) (f := f) hc.c h1 h3 h2 h4
  have fb := freeV_amt fe
  rw [chargeV_ok fe (amtB_mk (by omega) (by omega)) hk (amtB_mk (by omega) (by omega)), fe]
theorem charge_none {T : TB} {s k a f n d y : Int} (hc : Fit3 T s k a f) (h1 : 0 ≤ n) (h2 : 1 ≤ d) (h3 : n ≤ d) (h4 : d ≤ 1048576) (hy : -60000000000 ≤ y) (hy2 : y ≤ 60000000000) (hk : k = 4) :
    chargeV s k a f y n d = (0, 0) := by
  have fe := freeV_ok (a := a) (f := f) hc.c h1 h3 h2 h4
  exact chargeV_none fe (amtB_mk (by omega) (by omega)) hk
/-- the tax of an amount, exactly -/
theorem exact_is {T : TB} (hT : TOk T) {s k a f n d y : Int} (hc : Fit3 T s k a f) (hz : fitsV T s k a f = 0) (h1 : 0 ≤ n) (h2 : 1 ≤ d) (h3 : n ≤ d) (h4 : d ≤ 1048576) (hy : -60000000000 ≤ y) (hy2 : y ≤ 60000000000) :
    exactT T s k a f y n d = (Gl (taxL (T.S s.toNat) k f n d) (max (y - (freeV s k a f n d).1) 0), 0) := by
  by_cases hk : k = 4
  · have e := charge_none (y := y) hc h1 h2 h3 h4 hy hy2 hk
    unfold exactT
    rw [if_neg (by simpa using hz), e, if_neg (by simp)]
    have : taxL (T.S s.toNat) k f n d = [] := by unfold taxL; rw [if_pos hk]
    rw [this, Gl_nil]
    unfold refE; rw [if_pos hk]
  · have e := charge_is (y := y) hc h1 h2 h3 h4 hy hy2 hk
    unfold exactT
    rw [if_neg (by simpa using hz), e, if_neg (by simp)]
    dsimp only
    rw [taxL_ref hT hc h1 h2 h3 (by omega)]
/-- the rate of the next coin -/
def rtV (L : List Bd) (p y : Int) : Int := if p ≤ y then slp L (y - p) else 0
theorem rate_is {T : TB} (hT : TOk T) {s k a f n d y : Int} (hc : Fit3 T s k a f) (hz : fitsV T s k a f = 0) (h1 : 0 ≤ n) (h2 : 1 ≤ d) (h3 : n ≤ d) (h4 : d ≤ 1048576) (hy : -50000000001 ≤ y) (hy2 : y ≤ 50000000001) :
    rateT T s k a f y n d = (rtV (taxL (T.S s.toNat) k f n d) (freeV s k a f n d).1 y, 0) := by
  unfold rateT
  rw [exact_is hT hc hz h1 h2 h3 h4 (by omega) (by omega), exact_is hT hc hz h1 h2 h3 h4 (y := y + 1) (by omega) (by omega)]
  rw [if_neg (by simp), if_neg (by simp)]
  dsimp only
  generalize (freeV s k a f n d).1 = p
  generalize taxL (T.S s.toNat) k f n d = L
  unfold rtV
  split
  · rename_i h
    rw [show max (y + 1 - p) 0 = (y - p) + 1 by omega, show max (y - p) 0 = y - p by omega]; rfl
  · rename_i h
    rw [show max (y + 1 - p) 0 = 0 by omega, show max (y - p) 0 = 0 by omega]; simp
/-- it is no more than the greatest of the scheme, and changes at corners alone -/
theorem rate_bds {T : TB} (hT : TOk T) {s k a f n d y p : Int} (hc : Fit3 T s k a f) : 0 ≤ rtV (taxL (T.S s.toNat) k f n d) p y ∧ rtV (taxL (T.S s.toNat) k f n d) p y ≤ topb (T.S s.toNat).R (T.S s.toNat).n := by
  have h0 := top_nn (T.S s.toNat).R (T.S s.toNat).n
  unfold rtV
  split
  · exact slp_bd h0 _ _ fun t ht => taxL_mem hT hc ht
  · exact ⟨Int.le_refl _, h0⟩
/-- the corners of bands that may be, by their number -/
theorem corn_at {L : List Bd} (hok : Okb (gF L) (gR L) (gE L) L.length) (p : Int) : (cornV L p (crn (gF L) L.length).length).length = L.length ∧ ∀ i, i < L.length → (cornV L p (crn (gF L) L.length).length)[i]? = some (p + gF L i) := by
  have h1 := hok.1
  have h0 := hok.2.2.1.1
  refine ⟨by simp [cornV, crn_len]; omega, fun i hi => ?_⟩
  unfold cornV
  rw [List.take_length]
  cases i with
  | zero => simp [h0]
  | succ i =>
    rw [List.getElem?_cons_succ, List.getElem?_map, crn_get _ hi]
    rfl
theorem rate_corner {L : List Bd} {p y : Int} (h : rtV L p y ≠ rtV L p (y - 1)) (hok : Okb (gF L) (gR L) (gE L) L.length) : ∃ i, i < L.length ∧ p + gF L i = y := by
  unfold rtV at h
  by_cases h1 : p ≤ y
  · rw [if_pos h1] at h
    by_cases h2 : p ≤ y - 1
    · rw [if_pos h2, show y - 1 - p = y - p - 1 by omega] at h
      obtain ⟨t, ht, e⟩ := slp_corner _ _ h
      obtain ⟨i, hi, hti⟩ := List.getElem_of_mem ht
      refine ⟨i, hi, ?_⟩
      have : gF L i = t.1 := by unfold gF; rw [getD_of (t := t) (by rw [List.getElem?_eq_getElem hi, hti])]
      omega
    · refine ⟨0, by have := hok.1; omega, ?_⟩
      have := hok.2.2.1.1
      omega
  · rw [if_neg h1, if_neg (by omega)] at h
    exact absurd rfl h
end Go.Proofs.YtffihnbpjcgicaaDoor
