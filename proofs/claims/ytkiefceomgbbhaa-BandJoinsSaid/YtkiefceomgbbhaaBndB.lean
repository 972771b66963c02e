/- Plain facts about bands that are scaled, and about bands that are joined: no program in sight. -/
import Derived.Test.YtkiefceomgbbhaaBnd
namespace Go.Proofs.Ytkiefceomgbbhaa

abbrev Bd := Int × Int × Int
def z3 : Bd := (0, 0, 0)
def gF (L : List Bd) (i : Nat) : Int := (L.getD i z3).1
def gR (L : List Bd) (i : Nat) : Int := (L.getD i z3).2.1
def gE (L : List Bd) (i : Nat) : Int := (L.getD i z3).2.2
def lst (F R E : Nat → Int) (n : Nat) : List Bd := (List.range n).map fun i => (F i, R i, E i)
theorem lst_len (F R E : Nat → Int) (n : Nat) : (lst F R E n).length = n := by simp [lst]
theorem lst_get (F R E : Nat → Int) {n i : Nat} (h : i < n) : (lst F R E n)[i]? = some (F i, R i, E i) := by simp [lst, h]

/-- bands with other beginnings, put in one by one: of those that begin alike the last one stays -/
def scl (p R E : Nat → Int) : Nat → List Bd
  | 0 => []
  | i + 1 => (if 0 < i ∧ p i = p (i - 1) then (scl p R E i).dropLast else scl p R E i) ++ [(p i, R i, E i)]
/-- how many of the first i bands stay -/
def kep (p : Nat → Int) : Nat → Nat
  | 0 => 0
  | i + 1 => if p (i + 1) = p i then kep p i else kep p i + 1
theorem kep_le (p : Nat → Int) (i : Nat) : kep p i ≤ i := by
  induction i with
  | zero => exact Nat.le_refl _
  | succ i ih => simp only [kep]; split <;> omega
theorem kep_mono (p : Nat → Int) {i j : Nat} (h : i ≤ j) : kep p i ≤ kep p j := by
  obtain ⟨m, rfl⟩ : ∃ m, j = i + m := ⟨j - i, by omega⟩
  induction m with
  | zero => exact Nat.le_refl _
  | succ m ih =>
    have := ih (by omega)
    show _ ≤ (if p (i + m + 1) = p (i + m) then kep p (i + m) else kep p (i + m) + 1)
    split <;> omega
theorem scl_len (p R E : Nat → Int) (i : Nat) : (scl p R E (i + 1)).length = kep p i + 1 := by
  induction i with
  | zero => simp [scl, kep]
  | succ i ih =>
    show ((if 0 < i + 1 ∧ p (i + 1) = p (i + 1 - 1) then (scl p R E (i + 1)).dropLast else scl p R E (i + 1)) ++ _).length = (if p (i + 1) = p i then kep p i else kep p i + 1) + 1
    have e : i + 1 - 1 = i := by omega
    rw [e]
    by_cases h : p (i + 1) = p i
    · rw [if_pos ⟨by omega, h⟩, if_pos h]; simp [ih]
    · rw [if_neg (by omega), if_neg h]; simp [ih]
theorem scl_take (p R E : Nat → Int) (i : Nat) : scl p R E (i + 1) = (scl p R E i).take (kep p i) ++ [(p i, R i, E i)] := by
  cases i with
  | zero => simp [scl]
  | succ i =>
    have hl := scl_len p R E i
    show (if 0 < i + 1 ∧ p (i + 1) = p (i + 1 - 1) then (scl p R E (i + 1)).dropLast else scl p R E (i + 1)) ++ _ = _
    have e : i + 1 - 1 = i := by omega
    rw [e]
    congr 1
    by_cases h : p (i + 1) = p i
    · rw [if_pos ⟨by omega, h⟩, List.dropLast_eq_take, hl]
      simp [kep, h]
    · rw [if_neg (by omega), List.take_of_length_le (by rw [hl]; simp [kep, h])]
theorem scl_stay (p R E : Nat → Int) {t i j : Nat} (h : i ≤ j) (ht : t < kep p i) : (scl p R E j)[t]? = (scl p R E i)[t]? := by
  obtain ⟨m, rfl⟩ : ∃ m, j = i + m := ⟨j - i, by omega⟩
  induction m with
  | zero => rfl
  | succ m ih =>
    have hk := kep_mono p (show i ≤ i + m by omega)
    have hlen : kep p (i + m) ≤ (scl p R E (i + m)).length := by
      rcases hm : i + m with _ | q
      · simp [kep]
      · rw [scl_len]
        have : kep p (q + 1) ≤ kep p q + 1 := by simp only [kep]; split <;> omega
        exact this
    rw [← ih (by omega), show i + (m + 1) = i + m + 1 by omega, scl_take, List.getElem?_append_left (by simp; omega), List.getElem?_take, if_pos (by omega)]
theorem scl_last (p R E : Nat → Int) (i : Nat) : (scl p R E (i + 1))[kep p i]? = some (p i, R i, E i) := by
  have hlen : kep p i ≤ (scl p R E i).length := by
    rcases i with _ | q
    · simp [kep]
    · rw [scl_len]
      simp only [kep]; split <;> omega
  rw [scl_take, List.getElem?_append_right (by simp; omega)]
  have : kep p i - (List.take (kep p i) (scl p R E i)).length = 0 := by simp; omega
  rw [this]; rfl
/-- a band that stays stands where it was put -/
theorem scl_at (p R E : Nat → Int) {i n : Nat} (hi : i < n) (h : i + 1 = n ∨ p (i + 1) ≠ p i) : (scl p R E n)[kep p i]? = some (p i, R i, E i) := by
  rcases h with rfl | h
  · exact scl_last p R E i
  · by_cases e : i + 1 = n
    · subst e; exact scl_last p R E i
    · rw [scl_stay p R E (i := i + 1) (by omega) (by simp [kep, h])]
      exact scl_last p R E i

theorem getD_of {L : List Bd} {i : Nat} {t : Bd} (h : L[i]? = some t) : L.getD i z3 = t := by simp [List.getD_eq_getElem?_getD, h]
/-- what is known of the bands that are put in -/
structure SInv (p : Nat → Int) (L : List Bd) (j : Nat) : Prop where
  len : 0 < L.length
  zero : gF L 0 = 0
  last : gF L (L.length - 1) = p j
  rise : ∀ i, 0 < i → i < L.length → gF L (i - 1) < gF L i
  ok : ∀ i, i < L.length → (0 ≤ gF L i ∧ gF L i ≤ 100000000000) ∧ (0 ≤ gR L i ∧ gR L i ≤ 10000) ∧ (0 ≤ gE L i ∧ gE L i ≤ 10000)
theorem gF_app {L : List Bd} {t : Bd} {i : Nat} (h : i < L.length) : (L ++ [t]).getD i z3 = L.getD i z3 := by
  simp [List.getD_eq_getElem?_getD, List.getElem?_append_left h]
theorem gF_end {L : List Bd} {t : Bd} : (L ++ [t]).getD L.length z3 = t := by
  simp [List.getD_eq_getElem?_getD]
theorem gF_take {L : List Bd} {i k : Nat} (h : i < k) : (L.take k).getD i z3 = L.getD i z3 := by
  simp [List.getD_eq_getElem?_getD, h]
theorem rise_lt {L : List Bd} (h : ∀ i, 0 < i → i < L.length → gF L (i - 1) < gF L i) : ∀ {i j : Nat}, i < j → j < L.length → gF L i < gF L j := by
  intro i j
  induction j with
  | zero => omega
  | succ j ih =>
    intro hi hj
    have h1 := h (j + 1) (by omega) hj
    rw [show j + 1 - 1 = j by omega] at h1
    by_cases e : i = j
    · subst e; exact h1
    · have := ih (by omega) (by omega); omega
theorem scl_inv {p F R E : Nat → Int} {n : Nat} (hok : Okb F R E n) (h0 : p 0 = 0) (hm : ∀ i, 0 < i → i < n → p (i - 1) ≤ p i) (hf : ∀ i, i < n → 0 ≤ p i ∧ p i ≤ 100000000000) :
    ∀ j, j < n → SInv p (scl p R E (j + 1)) j := by
  obtain ⟨o1, o2, oI, oF, oR, oE⟩ := hok
  intro j
  induction j with
  | zero =>
    intro hj
    have e : scl p R E (0 + 1) = [(p 0, R 0, E 0)] := by simp [scl]
    rw [e]
    refine ⟨by simp, by simp [gF, h0], by simp [gF], fun i h1 h2 => by simp at h2; omega, fun i hi => ?_⟩
    have : i = 0 := by simpa using hi
    subst this
    exact ⟨by simpa [gF] using hf 0 hj, by simpa [gR] using oR 0 hj, by simpa [gE] using oE 0 hj⟩
  | succ j ih =>
    intro hj
    have I := ih (by omega)
    have hl := scl_len p R E j
    have hs := scl_take p R E (j + 1)
    have hkl : kep p (j + 1) ≤ (scl p R E (j + 1)).length := by rw [hl]; simp only [kep]; split <;> omega
    have hkc : (p (j + 1) = p j ∧ kep p (j + 1) = kep p j) ∨ (p j < p (j + 1) ∧ kep p (j + 1) = kep p j + 1) := by
      have := hm (j + 1) (by omega) hj
      rw [show j + 1 - 1 = j by omega] at this
      simp only [kep]
      by_cases e : p (j + 1) = p j
      · rw [if_pos e]; exact .inl ⟨e, rfl⟩
      · rw [if_neg e]; exact .inr ⟨by omega, rfl⟩
    generalize scl p R E (j + 1) = L at *
    generalize kep p (j + 1) = k at *
    rw [hs]
    have tl : (L.take k).length = k := by simp; omega
    have ge : ∀ i, i < k → (L.take k ++ [(p (j + 1), R (j + 1), E (j + 1))]).getD i z3 = L.getD i z3 := fun i hi => by rw [gF_app (by omega), gF_take hi]
    have gl : (L.take k ++ [(p (j + 1), R (j + 1), E (j + 1))]).getD k z3 = (p (j + 1), R (j + 1), E (j + 1)) := by
      have := gF_end (L := L.take k) (t := (p (j + 1), R (j + 1), E (j + 1)))
      rwa [tl] at this
    have nl : (L.take k ++ [(p (j + 1), R (j + 1), E (j + 1))]).length = k + 1 := by simp; omega
    have low : ∀ i, i < k → gF L i < p (j + 1) := fun i hi => by
      rcases hkc with ⟨e1, e2⟩ | ⟨e1, e2⟩
      · have := rise_lt I.rise (i := i) (j := L.length - 1) (by omega) (by omega)
        rw [I.last] at this; omega
      · by_cases e : i = L.length - 1
        · subst e; rw [I.last]; exact e1
        · have := rise_lt I.rise (i := i) (j := L.length - 1) (by omega) (by omega)
          rw [I.last] at this; omega
    refine ⟨by omega, ?_, ?_, fun i h1 h2 => ?_, fun i hi => ?_⟩
    · by_cases hk : 0 < k
      · show (List.getD _ 0 z3).1 = 0
        rw [ge 0 hk]; exact I.zero
      · have hk0 : k = 0 := by omega
        subst hk0
        show (List.getD _ 0 z3).1 = 0
        rw [gl]
        rcases hkc with ⟨e1, e2⟩ | ⟨e1, e2⟩
        · have h1 := I.last
          rw [show L.length - 1 = 0 by omega, I.zero] at h1
          show p (j + 1) = 0
          omega
        · omega
    · rw [nl]
      show (List.getD _ (k + 1 - 1) z3).1 = _
      rw [show k + 1 - 1 = k by omega, gl]
    · rw [nl] at h2
      by_cases e : i = k
      · subst e
        show (List.getD _ (i - 1) z3).1 < (List.getD _ i z3).1
        rw [gl, ge (i - 1) (by omega)]
        exact low (i - 1) (by omega)
      · show (List.getD _ (i - 1) z3).1 < (List.getD _ i z3).1
        rw [ge i (by omega), ge (i - 1) (by omega)]
        exact I.rise i h1 (by omega)
    · rw [nl] at hi
      by_cases e : i = k
      · subst e
        refine ⟨?_, ?_, ?_⟩
        · show 0 ≤ (List.getD _ i z3).1 ∧ (List.getD _ i z3).1 ≤ _
          rw [gl]; exact hf _ hj
        · show 0 ≤ (List.getD _ i z3).2.1 ∧ (List.getD _ i z3).2.1 ≤ _
          rw [gl]; exact oR _ hj
        · show 0 ≤ (List.getD _ i z3).2.2 ∧ (List.getD _ i z3).2.2 ≤ _
          rw [gl]; exact oE _ hj
      · have := I.ok i (by omega)
        simp only [gF, gR, gE] at this ⊢
        rw [ge i (by omega)]
        exact this
/-- scaled bands may be -/
theorem scl_okb {p F R E : Nat → Int} {n : Nat} (hok : Okb F R E n) (h0 : p 0 = 0) (hm : ∀ i, 0 < i → i < n → p (i - 1) ≤ p i) (hf : ∀ i, i < n → 0 ≤ p i ∧ p i ≤ 100000000000) :
    (scl p R E n).length ≤ n ∧ Okb (gF (scl p R E n)) (gR (scl p R E n)) (gE (scl p R E n)) (scl p R E n).length := by
  have I := scl_inv hok h0 hm hf (n - 1) (by have := hok.1; omega)
  have hl := scl_len p R E (n - 1)
  have hk := kep_le p (n - 1)
  rw [show n - 1 + 1 = n by have := hok.1; omega] at I hl
  have h1 := hok.1
  have h2 := hok.2.1
  exact ⟨by omega, by omega, by omega, ⟨I.zero, I.rise⟩, fun i hi => (I.ok i hi).1, fun i hi => (I.ok i hi).2.1, fun i hi => (I.ok i hi).2.2⟩
/-- the parts of beginnings rise, too -/
theorem part_mono {F R E : Nat → Int} {k : Nat} (hok : Okb F R E k) {n d : Int} (hn : 0 ≤ n) (hd : 1 ≤ d) (hnd : n ≤ d) :
    F 0 * n / d = 0 ∧ (∀ i, 0 < i → i < k → F (i - 1) * n / d ≤ F i * n / d) ∧ ∀ i, i < k → 0 ≤ F i * n / d ∧ F i * n / d ≤ 100000000000 := by
  obtain ⟨o1, o2, oI, oF, oR, oE⟩ := hok
  refine ⟨by rw [oI.1]; simp, fun i h0 hi => ?_, fun i hi => ⟨?_, ?_⟩⟩
  · exact Int.ediv_le_ediv (by omega) (Int.mul_le_mul_of_nonneg_right (by have := oI.2 i h0 hi; omega) hn)
  · exact Int.ediv_nonneg (Int.mul_nonneg (oF i hi).1 hn) (by omega)
  · have h1 : F i * n ≤ F i * d := Int.mul_le_mul_of_nonneg_left hnd (oF i hi).1
    have h2 : F i * n / d ≤ F i := by
      have := Int.ediv_le_ediv (show 0 < d by omega) h1
      rwa [Int.mul_ediv_cancel _ (by omega)] at this
    have := (oF i hi).2
    omega

/-- has a band the same rates as the one ahead of it? -/
def lik (R E : Nat → Int) (j : Nat) : Bool := decide (R j = R (j - 1) ∧ E j = E (j - 1))
/-- bands without those that have the same rates as the one ahead of them -/
def cmj (F R E : Nat → Int) : Nat → List Bd
  | 0 => []
  | j + 1 => if 0 < j ∧ lik R E j = true then cmj F R E j else cmj F R E j ++ [(F j, R j, E j)]
theorem cmj_len (F R E : Nat → Int) (j : Nat) : (cmj F R E j).length ≤ j := by
  induction j with
  | zero => simp [cmj]
  | succ j ih =>
    simp only [cmj]
    split
    · omega
    · simp; omega
theorem cmj_pos (F R E : Nat → Int) (j : Nat) : 0 < (cmj F R E (j + 1)).length := by
  induction j with
  | zero => simp [cmj]
  | succ j ih =>
    show 0 < (if _ then cmj F R E (j + 1) else cmj F R E (j + 1) ++ _).length
    split
    · exact ih
    · simp
/-- while none is like the one ahead of it all stay -/
theorem cmj_all (F R E : Nat → Int) {j : Nat} (h : ∀ i, 0 < i → i < j → lik R E i = false) : cmj F R E j = lst F R E j := by
  induction j with
  | zero => rfl
  | succ j ih =>
    simp only [cmj]
    rw [ih fun i h0 hi => h i h0 (by omega), if_neg]
    · simp [lst, List.range_succ]
    · rintro ⟨h0, hl⟩
      rw [h j h0 (by omega)] at hl
      cases hl
theorem cmj_less (F R E : Nat → Int) {i j : Nat} (h0 : 0 < i) (hi : i < j) (h : lik R E i = true) : (cmj F R E j).length < j := by
  obtain ⟨m, rfl⟩ : ∃ m, j = i + 1 + m := ⟨j - i - 1, by omega⟩
  induction m with
  | zero =>
    show (if 0 < i ∧ lik R E i = true then cmj F R E i else _).length < _
    rw [if_pos ⟨h0, h⟩]
    have := cmj_len F R E i
    omega
  | succ m ih =>
    have := ih (by omega)
    show (if _ then cmj F R E (i + 1 + m) else cmj F R E (i + 1 + m) ++ _).length < _
    split
    · omega
    · simp; omega
end Go.Proofs.Ytkiefceomgbbhaa
