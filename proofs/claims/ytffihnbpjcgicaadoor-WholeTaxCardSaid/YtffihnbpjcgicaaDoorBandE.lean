/- Merged: BndB, BandD, BandE. -/
import Derived.Test.YtffihnbpjcgicaaDoorBnd
import Derived.Test.YtffihnbpjcgicaaDoorBandC
import Derived.OwnWalk
import Derived.Deep.AppendLies
/- Plain facts about bands that are scaled, and about bands that are joined: no program in sight. -/
namespace Go.Proofs.YtffihnbpjcgicaaDoor

abbrev Bd := Int × Int × Int
def z3 : Bd := (0, 0, 0)
def gF (L : List Bd) (i : Nat) : Int := (L.getD i z3).1
def gR (L : List Bd) (i : Nat) : Int := (L.getD i z3).2.1
def gE (L : List Bd) (i : Nat) : Int := (L.getD i z3).2.2
def lst (F R E : Nat → Int) (n : Nat) : List Bd := (List.range n).map fun i => (F i, R i, E i)
theorem lst_len (F R E : Nat → Int) (n : Nat) : (lst F R E n).length = n := by simp [lst]
theorem lst_get (F R E : Nat → Int) {n i : Nat} (h : i < n) : (lst F R E n)[i]? = some (F i, R i, E i) := by simp [lst, h]

/-- bands with other beginnings, put in one by one: of those that begin alike the last one stays -/
def scl (p R E : Nat → Int) : Nat → List Bd
  | 0 => []
  | i + 1 => (if 0 < i ∧ p i = p (i - 1) then (scl p R E i).dropLast else scl p R E i) ++ [(p i, R i, E i)]
/-- how many of the first i bands stay -/
def kep (p : Nat → Int) : Nat → Nat
  | 0 => 0
  | i + 1 => if p (i + 1) = p i then kep p i else kep p i + 1
theorem kep_le (p : Nat → Int) (i : Nat) : kep p i ≤ i := by
  induction i with
  | zero => exact Nat.le_refl _
  | succ i ih => simp only [kep]; split <;> omega
theorem kep_mono (p : Nat → Int) {i j : Nat} (h : i ≤ j) : kep p i ≤ kep p j := by
  obtain ⟨m, rfl⟩ : ∃ m, j = i + m := ⟨j - i, by omega⟩
  induction m with
  | zero => exact Nat.le_refl _
  | succ m ih =>
    have := ih (by omega)
    show _ ≤ (if p (i + m + 1) = p (i + m) then kep p (i + m) else kep p (i + m) + 1)
    split <;> omega
theorem scl_len (p R E : Nat → Int) (i : Nat) : (scl p R E (i + 1)).length = kep p i + 1 := by
  induction i with
  | zero => simp [scl, kep]
  | succ i ih =>
    show ((if 0 < i + 1 ∧ p (i + 1) = p (i + 1 - 1) then (scl p R E (i + 1)).dropLast else scl p R E (i + 1)) ++ _).length = (if p (i + 1) = p i then kep p i else kep p i + 1) + 1
    have e : i + 1 - 1 = i := by omega
    rw [e]
    by_cases h : p (i + 1) = p i
    · rw [if_pos ⟨by omega, h⟩, if_pos h]; simp [ih]
    · rw [if_neg (by omega), if_neg h]; simp [ih]
theorem scl_take (p R E : Nat → Int) (i : Nat) : scl p R E (i + 1) = (scl p R E i).take (kep p i) ++ [(p i, R i, E i)] := by
  cases i with
  | zero => simp [scl]
  | succ i =>
    have hl := scl_len p R E i
    show (if 0 < i + 1 ∧ p (i + 1) = p (i + 1 - 1) then (scl p R E (i + 1)).dropLast else scl p R E (i + 1)) ++ _ = _
    have e : i + 1 - 1 = i := by omega
    rw [e]
    congr 1
    by_cases h : p (i + 1) = p i
    · rw [if_pos ⟨by omega, h⟩, List.dropLast_eq_take, hl]
      simp [kep, h]
    · rw [if_neg (by omega), List.take_of_length_le (by rw [hl]; simp [kep, h])]
theorem scl_stay (p R E : Nat → Int) {t i j : Nat} (h : i ≤ j) (ht : t < kep p i) : (scl p R E j)[t]? = (scl p R E i)[t]? := by
  obtain ⟨m, rfl⟩ : ∃ m, j = i + m := ⟨j - i, by omega⟩
  induction m with
  | zero => rfl
  | succ m ih =>
    have hk := kep_mono p (show i ≤ i + m by omega)
    have hlen : kep p (i + m) ≤ (scl p R E (i + m)).length := by
      rcases hm : i + m with _ | q
      · simp [kep]
      · rw [scl_len]
        have : kep p (q + 1) ≤ kep p q + 1 := by simp only [kep]; split <;> omega
        exact this
    rw [← ih (by omega), show i + (m + 1) = i + m + 1 by omega, scl_take, List.getElem?_append_left (by simp; omega), List.getElem?_take, if_pos (by omega)]
theorem scl_last (p R E : Nat → Int) (i : Nat) : (scl p R E (i + 1))[kep p i]? = some (p i, R i, E i) := by
  have hlen : kep p i ≤ (scl p R E i).length := by
    rcases i with _ | q
    · simp [kep]
    · rw [scl_len]
      simp only [kep]; split <;> omega
  rw [scl_take, List.getElem?_append_right (by simp; omega)]
  have : kep p i - (List.take (kep p i) (scl p R E i)).length = 0 := by simp; omega
  rw [this]; rfl
/-- a band that stays stands where it was put -/
theorem scl_at (p R E : Nat → Int) {i n : Nat} (hi : i < n) (h : i + 1 = n ∨ p (i + 1) ≠ p i) : (scl p R E n)[kep p i]? = some (p i, R i, E i) := by
  rcases h with rfl | h
  · exact scl_last p R E i
  · by_cases e : i + 1 = n
    · subst e; exact scl_last p R E i
    · rw [scl_stay p R E (i := i + 1) (by omega) (by simp [kep, h])]
      exact scl_last p R E i

theorem getD_of {L : List Bd} {i : Nat} {t : Bd} (h : L[i]? = some t) : L.getD i z3 = t := by simp [List.getD_eq_getElem?_getD, h]
/-- what is known of the bands that are put in -/
structure SInv (p : Nat → Int) (L : List Bd) (j : Nat) : Prop where
  len : 0 < L.length
  zero : gF L 0 = 0
  last : gF L (L.length - 1) = p j
  rise : ∀ i, 0 < i → i < L.length → gF L (i - 1) < gF L i
  ok : ∀ i, i < L.length → (0 ≤ gF L i ∧ gF L i ≤ 100000000000) ∧ (0 ≤ gR L i ∧ gR L i ≤ 10000) ∧ (0 ≤ gE L i ∧ gE L i ≤ 10000)
theorem gF_app {L : List Bd} {t : Bd} {i : Nat} (h : i < L.length) : (L ++ [t]).getD i z3 = L.getD i z3 := by
  simp [List.getD_eq_getElem?_getD, List.getElem?_append_left h]
theorem gF_end {L : List Bd} {t : Bd} : (L ++ [t]).getD L.length z3 = t := by
  simp [List.getD_eq_getElem?_getD]
theorem gF_take {L : List Bd} {i k : Nat} (h : i < k) : (L.take k).getD i z3 = L.getD i z3 := by
  simp [List.getD_eq_getElem?_getD, h]
theorem rise_lt {L : List Bd} (h : ∀ i, 0 < i → i < L.length → gF L (i - 1) < gF L i) : ∀ {i j : Nat}, i < j → j < L.length → gF L i < gF L j := by
  intro i j
  induction j with
  | zero => omega
  | succ j ih =>
    intro hi hj
    have h1 := h (j + 1) (by omega) hj
    rw [show j + 1 - 1 = j by omega] at h1
    by_cases e : i = j
    · subst e; exact h1
    · have := ih (by omega) (by omega); omega
theorem scl_inv {p F R E : Nat → Int} {n : Nat} (hok : Okb F R E n) (h0 : p 0 = 0) (hm : ∀ i, 0 < i → i < n → p (i - 1) ≤ p i) (hf : ∀ i, i < n → 0 ≤ p i ∧ p i ≤ 100000000000) :
    ∀ j, j < n → SInv p (scl p R E (j + 1)) j := by
  obtain ⟨o1, o2, oI, oF, oR, oE⟩ := hok
  intro j
  induction j with
  | zero =>
    intro hj
    have e : scl p R E (0 + 1) = [(p 0, R 0, E 0)] := by simp [scl]
    rw [e]
    refine ⟨by simp, by simp [gF, h0], by simp [gF], fun i h1 h2 => by simp at h2; omega, fun i hi => ?_⟩
    have : i = 0 := by simpa using hi
    subst this
    exact ⟨by simpa [gF] using hf 0 hj, by simpa [gR] using oR 0 hj, by simpa [gE] using oE 0 hj⟩
  | succ j ih =>
    intro hj
    have I := ih (by omega)
    have hl := scl_len p R E j
    have hs := scl_take p R E (j + 1)
    have hkl : kep p (j + 1) ≤ (scl p R E (j + 1)).length := by rw [hl]; simp only [kep]; split <;> omega
    have hkc : (p (j + 1) = p j ∧ kep p (j + 1) = kep p j) ∨ (p j < p (j + 1) ∧ kep p (j + 1) = kep p j + 1) := by
      have := hm (j + 1) (by omega) hj
      rw [show j + 1 - 1 = j by omega] at this
      simp only [kep]
      by_cases e : p (j + 1) = p j
      · rw [if_pos e]; exact .inl ⟨e, rfl⟩
      · rw [if_neg e]; exact .inr ⟨by omega, rfl⟩
    generalize scl p R E (j + 1) = L at *
    generalize kep p (j + 1) = k at *
    rw [hs]
    have tl : (L.take k).length = k := by simp; omega
    have ge : ∀ i, i < k → (L.take k ++ [(p (j + 1), R (j + 1), E (j + 1))]).getD i z3 = L.getD i z3 := fun i hi => by rw [gF_app (by omega), gF_take hi]
    have gl : (L.take k ++ [(p (j + 1), R (j + 1), E (j + 1))]).getD k z3 = (p (j + 1), R (j + 1), E (j + 1)) := by
      have := gF_end (L := L.take k) (t := (p (j + 1), R (j + 1), E (j + 1)))
      rwa [tl] at this
    have nl : (L.take k ++ [(p (j + 1), R (j + 1), E (j + 1))]).length = k + 1 := by simp; omega
    have low : ∀ i, i < k → gF L i < p (j + 1) := fun i hi => by
      rcases hkc with ⟨e1, e2⟩ | ⟨e1, e2⟩
      · have := rise_lt I.rise (i := i) (j := L.length - 1) (by omega) (by omega)
        rw [I.last] at this; omega
      · by_cases e : i = L.length - 1
        · subst e; rw [I.last]; exact e1
        · have := rise_lt I.rise (i := i) (j := L.length - 1) (by omega) (by omega)
          rw [I.last] at this; omega
    refine ⟨by omega, ?_, ?_, fun i h1 h2 => ?_, fun i hi => ?_⟩
    · by_cases hk : 0 < k
      · show (List.getD _ 0 z3).1 = 0
        rw [ge 0 hk]; exact I.zero
      · have hk0 : k = 0 := by omega
        subst hk0
        show (List.getD _ 0 z3).1 = 0
        rw [gl]
        rcases hkc with ⟨e1, e2⟩ | ⟨e1, e2⟩
        · have h1 := I.last
          rw [show L.length - 1 = 0 by omega, I.zero] at h1
          show p (j + 1) = 0
          omega
        · omega
    · rw [nl]
      show (List.getD _ (k + 1 - 1) z3).1 = _
      rw [show k + 1 - 1 = k by omega, gl]
    · rw [nl] at h2
      by_cases e : i = k
      · subst e
        show (List.getD _ (i - 1) z3).1 < (List.getD _ i z3).1
        rw [gl, ge (i - 1) (by omega)]
        exact low (i - 1) (by omega)
      · show (List.getD _ (i - 1) z3).1 < (List.getD _ i z3).1
        rw [ge i (by omega), ge (i - 1) (by omega)]
        exact I.rise i h1 (by omega)
    · rw [nl] at hi
      by_cases e : i = k
      · subst e
        refine ⟨?_, ?_, ?_⟩
        · show 0 ≤ (List.getD _ i z3).1 ∧ (List.getD _ i z3).1 ≤ _
          rw [gl]; exact hf _ hj
        · show 0 ≤ (List.getD _ i z3).2.1 ∧ (List.getD _ i z3).2.1 ≤ _
          rw [gl]; exact oR _ hj
        · show 0 ≤ (List.getD _ i z3).2.2 ∧ (List.getD _ i z3).2.2 ≤ _
          rw [gl]; exact oE _ hj
      · have := I.ok i (by omega)
        simp only [gF, gR, gE] at this ⊢
        rw [ge i (by omega)]
        exact this
/-- scaled bands may be -/
theorem scl_okb {p F R E : Nat → Int} {n : Nat} (hok : Okb F R E n) (h0 : p 0 = 0) (hm : ∀ i, 0 < i → i < n → p (i - 1) ≤ p i) (hf : ∀ i, i < n → 0 ≤ p i ∧ p i ≤ 100000000000) :
    (scl p R E n).length ≤ n ∧ Okb (gF (scl p R E n)) (gR (scl p R E n)) (gE (scl p R E n)) (scl p R E n).length := by
  have I := scl_inv hok h0 hm hf (n - 1) (by have := hok.1; omega)
  have hl := scl_len p R E (n - 1)
  have hk := kep_le p (n - 1)
  rw [show n - 1 + 1 = n by have := hok.1; omega] at I hl
  have h1 := hok.1
  have h2 := hok.2.1
  exact ⟨by omega, by omega, by omega, ⟨I.zero, I.rise⟩, fun i hi => (I.ok i hi).1, fun i hi => (I.ok i hi).2.1, fun i hi => (I.ok i hi).2.2⟩
/-- the parts of beginnings rise, too -/
theorem part_mono {F R E : Nat → Int} {k : Nat} (hok : Okb F R E k) {n d : Int} (hn : 0 ≤ n) (hd : 1 ≤ d) (hnd : n ≤ d) :
    F 0 * n / d = 0 ∧ (∀ i, 0 < i → i < k → F (i - 1) * n / d ≤ F i * n / d) ∧ ∀ i, i < k → 0 ≤ F i * n / d ∧ F i * n / d ≤ 100000000000 := by
  obtain ⟨o1, o2, oI, oF, oR, oE⟩ := hok
  refine ⟨by rw [oI.1]; simp, fun i h0 hi => ?_, fun i hi => ⟨?_, ?_⟩⟩
  · exact Int.ediv_le_ediv (by omega) (Int.mul_le_mul_of_nonneg_right (by have := oI.2 i h0 hi; omega) hn)
  · exact Int.ediv_nonneg (Int.mul_nonneg (oF i hi).1 hn) (by omega)
  · have h1 : F i * n ≤ F i * d := Int.mul_le_mul_of_nonneg_left hnd (oF i hi).1
    have h2 : F i * n / d ≤ F i := by
      have := Int.ediv_le_ediv (show 0 < d by omega) h1
      rwa [Int.mul_ediv_cancel _ (by omega)] at this
    have := (oF i hi).2
    omega

/-- has a band the same rates as the one ahead of it? -/
def lik (R E : Nat → Int) (j : Nat) : Bool := decide (R j = R (j - 1) ∧ E j = E (j - 1))
/-- bands without those that have the same rates as the one ahead of them -/
def cmj (F R E : Nat → Int) : Nat → List Bd
  | 0 => []
  | j + 1 => if 0 < j ∧ lik R E j = true then cmj F R E j else cmj F R E j ++ [(F j, R j, E j)]
theorem cmj_len (F R E : Nat → Int) (j : Nat) : (cmj F R E j).length ≤ j := by
  induction j with
  | zero => simp [cmj]
  | succ j ih =>
    simp only [cmj]
    split
    · omega
    · simp; omega
theorem cmj_pos (F R E : Nat → Int) (j : Nat) : 0 < (cmj F R E (j + 1)).length := by
  induction j with
  | zero => simp [cmj]
  | succ j ih =>
    show 0 < (if _ then cmj F R E (j + 1) else cmj F R E (j + 1) ++ _).length
    split
    · exact ih
    · simp
/-- while none is like the one ahead of it all stay -/
theorem cmj_all (F R E : Nat → Int) {j : Nat} (h : ∀ i, 0 < i → i < j → lik R E i = false) : cmj F R E j = lst F R E j := by
  induction j with
  | zero => rfl
  | succ j ih =>
    simp only [cmj]
    rw [ih fun i h0 hi => h i h0 (by omega), if_neg]
    · simp [lst, List.range_succ]
    · rintro ⟨h0, hl⟩
      rw [h j h0 (by omega)] at hl
      cases hl
theorem cmj_less (F R E : Nat → Int) {i j : Nat} (h0 : 0 < i) (hi : i < j) (h : lik R E i = true) : (cmj F R E j).length < j := by
  obtain ⟨m, rfl⟩ : ∃ m, j = i + 1 + m := ⟨j - i - 1, by omega⟩
  induction m with
  | zero =>
    show (if 0 < i ∧ lik R E i = true then cmj F R E i else _).length < _
    rw [if_pos ⟨h0, h⟩]
    have := cmj_len F R E i
    omega
  | succ m ih =>
    have := ih (by omega)
    show (if _ then cmj F R E (i + 1 + m) else cmj F R E (i + 1 + m) ++ _).length < _
    split
    · omega
    · simp; omega
end Go.Proofs.YtffihnbpjcgicaaDoor

/- What the calls of band answer that make lists: Corners, Scale. -/
namespace Go.Proofs.YtffihnbpjcgicaaDoor
open Go.RowKit Go.Sort
set_option linter.unusedVariables false

/-- the cells of bands -/
def cl (L : List Bd) : List Value := L.flatMap fun t => [.int .i64 t.1, .int .i64 t.2.1, .int .i64 t.2.2]
theorem cl_nil : cl [] = [] := rfl
theorem cl_cons (t : Bd) (L : List Bd) : cl (t :: L) = .int .i64 t.1 :: .int .i64 t.2.1 :: .int .i64 t.2.2 :: cl L := rfl
theorem cl_len (L : List Bd) : (cl L).length = L.length * 3 := by
  induction L with
  | nil => rfl
  | cons t L ih => rw [cl_cons]; simp [ih]; omega
theorem cl_app (L M : List Bd) : cl (L ++ M) = cl L ++ cl M := by simp [cl]
theorem cl_take (L : List Bd) (k : Nat) : cl (L.take k) = (cl L).take (k * 3) := by
  induction L generalizing k with
  | nil => simp [cl]
  | cons t L ih =>
    cases k with
    | zero => simp [cl]
    | succ k =>
      rw [List.take_succ_cons, cl_cons, ih, cl_cons, show (k + 1) * 3 = k * 3 + 1 + 1 + 1 by omega]
      rfl
theorem cl_get (L : List Bd) (i : Nat) (t : Bd) (h : L[i]? = some t) : (cl L)[i * 3]? = some (.int .i64 t.1) ∧ (cl L)[i * 3 + 1]? = some (.int .i64 t.2.1) ∧ (cl L)[i * 3 + 2]? = some (.int .i64 t.2.2) := by
  induction L generalizing i with
  | nil => simp at h
  | cons s L ih =>
    rw [cl_cons]
    cases i with
    | zero =>
      have e : s = t := by simpa using h
      subst e
      exact ⟨rfl, rfl, rfl⟩
    | succ i =>
      have := ih i (by simpa using h)
      rw [show (i + 1) * 3 = i * 3 + 1 + 1 + 1 by omega, show i * 3 + 1 + 1 + 1 + 1 = (i * 3 + 1) + 1 + 1 + 1 by omega, show i * 3 + 1 + 1 + 1 + 2 = (i * 3 + 2) + 1 + 1 + 1 by omega]
      simpa using this
theorem cl_set (L : List Bd) (i : Nat) (t : Bd) (h : i < L.length) : (((cl L).set (i * 3) (.int .i64 t.1)).set (i * 3 + 1) (.int .i64 t.2.1)).set (i * 3 + 2) (.int .i64 t.2.2) = cl (L.set i t) := by
  induction L generalizing i with
  | nil => simp at h
  | cons s L ih =>
    rw [cl_cons]
    cases i with
    | zero => rfl
    | succ i =>
      have := ih i (by simpa using h)
      rw [List.set_cons_succ, cl_cons, ← this, show (i + 1) * 3 = i * 3 + 1 + 1 + 1 by omega, show i * 3 + 1 + 1 + 1 + 1 = (i * 3 + 1) + 1 + 1 + 1 by omega, show i * 3 + 1 + 1 + 1 + 2 = (i * 3 + 2) + 1 + 1 + 1 by omega]
      rfl
/-- bands in a row of the call's own -/
abbrev Rw (w : World) (B : Nat) (v : Value) (L : List Bd) : Prop := w.ownsRow B 217 3 v L.length (cl L)
theorem get_some (L : List Bd) {i : Nat} (h : i < L.length) : L[i]? = some (L.getD i z3) := by
  rw [List.getD_eq_getElem?_getD, List.getElem?_eq_getElem h]; rfl
theorem rw_bds {w : World} {B g cap : Nat} {L : List Bd} (h : Rw w B (.slice (some ⟨g, 0, none⟩) L.length cap) L) : Bds w (some ⟨g, 0, none⟩) L.length (gF L) (gR L) (gE L) := fun _ =>
  ⟨g, 0, rfl, fun i hi => by
    obtain ⟨a, b, c⟩ := cl_get L i _ (get_some L hi)
    simp only [Nat.zero_add]
    exact ⟨(h.cellAt _ (by omega)).trans a, (h.cellAt _ (by omega)).trans b, (h.cellAt _ (by omega)).trans c⟩⟩
theorem rw_bds_of {w : World} {B : Nat} {v : Value} {L : List Bd} (h : Rw w B v L) (hL : 0 < L.length) : ∃ g cap, v = .slice (some ⟨g, 0, none⟩) L.length cap ∧ B ≤ g ∧ L.length ≤ cap ∧ cap ≤ maxLen ∧ Bds w (some ⟨g, 0, none⟩) L.length (gF L) (gR L) (gE L) := by
  rcases h.2 with ⟨h1, h2⟩ | ⟨g, cap, cur, hv, hg, hh, h1, h2, h3, h4⟩
  · omega
  · subst hv
    exact ⟨g, cap, rfl, hg, h1, h2, rw_bds h⟩
theorem rw_cut {w : World} {B g cap : Nat} {L : List Bd} (h : Rw w B (.slice (some ⟨g, 0, none⟩) L.length cap) L) {k : Nat} (hk : k ≤ L.length) : Rw w B (.slice (some ⟨g, 0, none⟩) k cap) (L.take k) := by
  have hl : (L.take k).length = k := by simp; omega
  unfold Rw
  rw [hl]
  rcases h.2 with ⟨h1, h2⟩ | ⟨g', cap', cur, hv, hg, hh, h1, h2, h3, h4⟩
  · simp at h1
  · simp only [Value.slice.injEq, Option.some.injEq, Addr.mk.injEq, and_true, true_and] at hv
    obtain ⟨rfl, rfl⟩ := hv
    refine ⟨by rw [cl_len, hl], .inr ⟨g, cap, cur, rfl, hg, hh, by omega, h2, h3, ?_⟩⟩
    rw [cl_take, ← h4, List.take_take]
    congr 1
    omega

theorem info2 : (Tryd.prog.info? 2).map (fun i => (i.zero, i.size, i.bytes)) = some (some (.int .i64 0), 1, 8) := by kernel_rfl
theorem info37 : (Tryd.prog.info? 217).map (fun i => (i.zero, i.size, i.bytes)) = some (some (.agg #[.int .i64 0, .int .i64 0, .int .i64 0]), 3, 24) := by kernel_rfl

theorem cell_one_new (w : World) (x : Value) (t : TypeId) : ∀ j u, [x][j]? = some u → (w.alloc (.cells #[x] t)).cell? ((⟨w.heap.size, 0, none⟩ : Addr).add j) = some u := by
  intro j u hu
  have hj : j = 0 := by
    rcases Nat.eq_zero_or_pos j with h | h
    · exact h
    · rw [List.getElem?_eq_none (by simp; omega)] at hu; cases hu
  subst hj
  have : x = u := by simpa using hu
  subst this
  simp [Addr.add, World.cell?_alloc_new]

/-- the corners of n bands -/
def crn (F : Nat → Int) (n : Nat) : List Int := (List.range (n - 1)).map fun i => F (i + 1)
theorem crn_succ (F : Nat → Int) (n : Nat) (h : 0 < n) : crn F (n + 1) = crn F n ++ [F n] := by
  obtain ⟨m, rfl⟩ : ∃ m, n = m + 1 := ⟨n - 1, by omega⟩
  simp [crn, List.range_succ]
theorem crn_len (F : Nat → Int) (n : Nat) : (crn F n).length = n - 1 := by simp [crn]
def iv (l : List Int) : List Value := l.map (Value.int .i64)

end Go.Proofs.YtffihnbpjcgicaaDoor

/- What band.Scale answers. -/
namespace Go.Proofs.YtffihnbpjcgicaaDoor
open Go.RowKit Go.Sort
set_option linter.unusedVariables false

theorem bscale_chk (a d : Int) (A : Option Addr) (n c : Nat) (w : World) (F R E : Nat → Int) (h : Bds w A n F R E) (hn : n ≤ 9223372036854775807) (hbad : chk F R E n ≠ 0) :
    Calls Tryd.prog 189 #[.int .i64 a, .int .i64 d, .slice A n c] w fun e w' => e = .returned (.tuple #[.slice none 0 0, .int .i64 (chk F R E n)]) ∧ Below w.heap.size w w' := by
  have ck := check_any A n c w F R E h hn
  have hne : (chk F R E n != 0) = true := by simpa using hbad
  generalize chk F R E n = k at *
  clear hbad
  go_enter Tryd.func189, Tryd.ntmps189
  go_wp2_with (fail)
  refine ck.mono ?_
  rintro e w1 ⟨rfl, hb1⟩
  go_wp2
  go_ret2
  exact ⟨rfl, hb1⟩

set_option maxHeartbeats 2000000 in
theorem bscale_rng (a d : Int) (A : Option Addr) (n c : Nat) (w : World) (F R E : Nat → Int) (h : Bds w A n F R E) (hok : Okb F R E n) (hbad : a < 0 ∨ d < 1 ∨ d < a ∨ 1048576 < d) :
    Calls Tryd.prog 189 #[.int .i64 a, .int .i64 d, .slice A n c] w fun e w' => e = .returned (.tuple #[.slice none 0 0, .int .i64 1]) ∧ Below w.heap.size w w' := by
  have ck := check_any A n c w F R E h (by have := hok.2.1; omega)
  rw [chk_of hok] at ck
  by_cases hda : d < a
  · clear hbad
    go_enter Tryd.func189, Tryd.ntmps189
    go_wp2_with (fail)
    refine ck.mono ?_
    rintro e w1 ⟨rfl, hb1⟩
    go_wp2
    go_ret2
    exact ⟨rfl, hb1⟩
  · have hF0 := hok.2.2.2.1 0 (by have := hok.1; omega)
    have sc := fun W => scale_range (F 0) a d W (amtB_mk (by omega) (by omega)) (by omega)
    have h1 := hok.1
    have hda2 : a ≤ d := by omega
    have hda3 : decide (d < a) = false := by simp; omega
    clear hbad hda hF0 hok
    go_enter Tryd.func189, Tryd.ntmps189
    go_wp2_with (fail)
    refine ck.mono ?_
    rintro e w1 ⟨rfl, hb1⟩
    go_wp2
    obtain ⟨b, o, rfl, hc⟩ := h.below hb1 (by omega)
    obtain ⟨c0, c1, c2⟩ := hc 0 (by omega)
    simp only [Nat.zero_mul, Nat.add_zero] at c0 c1 c2
    refine wp_loop_rounds 1 ?_
    rw [rounds_succ]
    have g0 : (0 : Int) < n := by omega
    have g1 : 0 < n := by omega
    clear hc h
    go_wp2_with (fail)
    refine (sc _).mono ?_
    rintro e w2 ⟨rfl, hb2⟩
    have hb3 := (hb1.alloc hb1.size _).trans (hb2.mono (Nat.le_trans hb1.size (by simp)))
    go_wp2
    go_ret2
    exact ⟨rfl, hb3⟩

def Free (W : World) (b : Nat) : Prop := W.frozen? ⟨b, 0, none⟩ = false ∧ W.frozen? ⟨b, 1, none⟩ = false ∧ W.frozen? ⟨b, 2, none⟩ = false
theorem free_new (w : World) (c : Array Value) (t : TypeId) : Free (w.alloc (.cells c t)) w.heap.size := ⟨World.frozen?_alloc_new _ _ _ _, World.frozen?_alloc_new _ _ _ _, World.frozen?_alloc_new _ _ _ _⟩
theorem own_below {w w' : World} {B : Nat} {e : TypeId} {size n : Nat} {v : Value} {xs : List Value} (h : w.ownsRow B e size v n xs) (hb : Below w.heap.size w w') : w'.ownsRow B e size v n xs := by
  refine ⟨h.1, ?_⟩
  rcases h.2 with h2 | ⟨g, cap, cur, hv, hg, hh, r⟩
  · exact .inl h2
  · have hlt : g < w.heap.size := by
      rcases Nat.lt_or_ge g w.heap.size with hlt | hge
      · exact hlt
      · rw [Array.getElem?_eq_none hge] at hh; cases hh
    exact .inr ⟨g, cap, cur, hv, hg, (hb.block g hlt).trans hh, r⟩
theorem cell_three_new (w : World) (x y z : Value) (t : TypeId) (H : Nat) (hH : w.heap.size = H) : ∀ j u, [x, y, z][j]? = some u → (w.alloc (.cells #[x, y, z] t)).cell? ((⟨H, 0, none⟩ : Addr).add j) = some u := by
  subst hH
  intro j u hu
  have hj : j = 0 ∨ j = 1 ∨ j = 2 := by
    rcases Nat.lt_or_ge j 3 with h | h
    · omega
    · rw [List.getElem?_eq_none (by simp; omega)] at hu; cases hu
  rcases hj with rfl | rfl | rfl
  all_goals
    simp at hu
    subst hu
    simp [Addr.add, World.cell?_alloc_new]
theorem rw_push {w : World} {B : Nat} {v : Value} {L M : List Bd} {m : Nat} {a b c : Int} (h : w.ownsRow B 217 3 v (m + 1) (cl L ++ [.int .i64 a, .int .i64 b, .int .i64 c])) (hm : L.length = m) (hM : M = L ++ [(a, b, c)]) : Rw w B v M := by
  subst hM hm
  unfold Rw
  rw [List.length_append, cl_app]
  exact h
set_option maxHeartbeats 4000000 in
set_option maxRecDepth 100000 in
theorem bscale_ok (a d : Int) (A : Option Addr) (n c : Nat) (w : World) (F R E p : Nat → Int) (h : Bds w A n F R E) (hok : Okb F R E n) (h1 : 0 ≤ a) (h2 : 1 ≤ d) (h3 : a ≤ d) (h4 : d ≤ 1048576) (hp : p = fun i => F i * a / d) :
    Calls Tryd.prog 189 #[.int .i64 a, .int .i64 d, .slice A n c] w fun e w' => ∃ v, e = .returned (.tuple #[v, .int .i64 0]) ∧ Rw w' w.heap.size v (scl p R E n) ∧ Below w.heap.size w w' := by
  obtain ⟨i0, hi0, hz0, hz1, hz2⟩ := info_parts info37
  have Hi := Lib.hid hi0
  have Hz := Lib.hid hz0
  have ck := check_any A n c w F R E h (by have := hok.2.1; omega)
  rw [chk_of hok] at ck
  obtain ⟨pm0, pm1, pm2⟩ := part_mono hok h1 h2 h3
  have scF : ∀ i, i < n → ∀ W, Calls Tryd.prog 191 #[.int .i64 (F i), .int .i64 a, .int .i64 d] W fun e w' => e = .returned (.tuple #[.int .i64 (p i), .int .i64 0]) ∧ Below W.heap.size W w' := fun i hi W => by
    have hf := hok.2.2.2.1 i hi
    have hq := pm2 i hi
    have := scale_ok (F i) a d W (amtB_mk (by omega) (by omega)) h1 (by omega) h2 h4 true (amtB_mk (by omega) (by omega))
    rw [if_pos rfl, if_pos rfl] at this
    rw [hp]
    exact this
  have o1 := hok.1
  have o2 := hok.2.1
  have hda3 : decide (d < a) = false := by simp; omega
  clear hp pm0 pm1 pm2 hok hi0 hz0
  go_enter Tryd.func189, Tryd.ntmps189
  go_wp2_with (fail)
  refine ck.mono ?_
  rintro e w1 ⟨rfl, hb1⟩
  go_wp2
  go_loopw [9, 25] (fun s v W => ∃ i : Nat, i ≤ n ∧ v = .int .i64 i ∧ Rw W w.heap.size s (scl p R E i) ∧ (i = 0 → s = .slice none 0 0) ∧ Below w.heap.size w W) (fun _ v _ => n - (intOf v).toNat)
  case atStart => exact ⟨0, Nat.zero_le _, rfl, World.ownsRow_nil _ _ _ _, fun _ => rfl, hb1⟩
  case round =>
    obtain ⟨i, hi, rfl, hown, hnil, hb⟩ := hrel
    by_cases hlt : i < n
    · obtain ⟨b, o, rfl, hc⟩ := h (by omega)
      obtain ⟨c0, c1, c2⟩ := hc i hlt
      have d0 := cell_later hb c0
      have d1 := cell_later hb c1
      have d2 := cell_later hb c2
      have hsz := hb.size
      have sc := scF i hlt
      have HSF := Lib.hid scF
      have HH := Lib.hid h
      have HCK := Lib.hid ck
      clear hc h c0 c1 c2 scF ck
      by_cases h0 : 0 < i
      · have hl := scl_len p R E (i - 1)
        have hla := scl_last p R E (i - 1)
        rw [show i - 1 + 1 = i by omega] at hl hla
        have hkl := kep_le p (i - 1)
        obtain ⟨g, cap, rfl, hg, hgc, hgm, hB⟩ := rw_bds_of hown (by omega)
        have hlast := (cl_get _ _ _ hla).1
        rw [← hown.cellAt _ (by omega)] at hlast
        have hS1 : p i = p (i - 1) → scl p R E (i + 1) = (scl p R E i).take ((scl p R E i).length - 1) ++ [(p i, R i, E i)] := fun e => by
          show (if 0 < i ∧ p i = p (i - 1) then (scl p R E i).dropLast else scl p R E i) ++ _ = _
          rw [if_pos ⟨h0, e⟩, List.dropLast_eq_take]
        have hS2 : p i ≠ p (i - 1) → scl p R E (i + 1) = scl p R E i ++ [(p i, R i, E i)] := fun e => by
          show (if 0 < i ∧ p i = p (i - 1) then (scl p R E i).dropLast else scl p R E i) ++ _ = _
          rw [if_neg (fun h => e h.2)]
        have hcut := rw_cut hown (k := (scl p R E i).length - 1) (by omega)
        have hk1 : kep p (i - 1) = (scl p R E i).length - 1 := by omega
        rw [hk1] at hlast
        simp only at hlast
        unfold Rw at hown hcut
        have hlen1 : ((scl p R E i).take ((scl p R E i).length - 1)).length = (scl p R E i).length - 1 := by simp
        rw [hlen1] at hcut
        have hcap : cap ≤ 9223372036854775807 := by unfold maxLen at hgm; omega
        have hm1 : 1 ≤ (scl p R E i).length := by omega
        have hm8 : (scl p R E i).length ≤ 8 := by omega
        generalize hm : (scl p R E i).length = m at *
        have e1 : ((m : Int) - 1).toNat = m - 1 := by omega
        have e2 : (m : Int) - 1 = ((m - 1 : Nat) : Int) := by omega
        have w1' : IntKind.i64.wrap ((m : Int) - 1) = (m : Int) - 1 := IntWalk.i64_in _ (by omega)
        have i0' : 0 ≤ (m : Int) - 1 := by omega
        have i2' : (1 : Int) ≤ (m : Int) := by omega
        have i1' : (m : Int) - 1 < (m : Int) := by omega
        have i3' : (m : Int) - 1 ≤ (cap : Int) := by omega
        have HM := Lib.hid hm
        have HE2 := Lib.hid e2
        clear hl hla hkl hk1 hm e2 hB hgm
        by_cases hpe : p i = p (i - 1)
        · have hS := hS1 hpe
          have t1 : (p (i - 1) == p i) = true := by simp [hpe]
          have HNI := Lib.hid hnil
          clear hS1 hS2 hpe hnil
          have hbx := hb.alloc hsz (Obj.cells #[.int .i64 (F i), .int .i64 (R i), .int .i64 (E i)] 217)
          have x0 : (wr.alloc (Obj.cells #[.int .i64 (F i), .int .i64 (R i), .int .i64 (E i)] 217)).cell? ⟨wr.heap.size, 0, none⟩ = some (.int .i64 (F i)) := by simp [World.cell?_alloc_new]
          have x1 : (wr.alloc (Obj.cells #[.int .i64 (F i), .int .i64 (R i), .int .i64 (E i)] 217)).cell? ⟨wr.heap.size, 1, none⟩ = some (.int .i64 (R i)) := by simp [World.cell?_alloc_new]
          have x2 : (wr.alloc (Obj.cells #[.int .i64 (F i), .int .i64 (R i), .int .i64 (E i)] 217)).cell? ⟨wr.heap.size, 2, none⟩ = some (.int .i64 (E i)) := by simp [World.cell?_alloc_new]
          have f0 : (wr.alloc (Obj.cells #[.int .i64 (F i), .int .i64 (R i), .int .i64 (E i)] 217)).frozen? ⟨wr.heap.size, 0, none⟩ = false := (free_new wr _ _).1
          have z0 : wr.heap.size < (wr.alloc (Obj.cells #[.int .i64 (F i), .int .i64 (R i), .int .i64 (E i)] 217)).heap.size := by simp
          go_wp2_with (fail)
          refine (sc _).mono ?_
          rintro e w2 ⟨rfl, hb2⟩
          have hb3 := hbx.trans (hb2.mono (Nat.le_trans hb.size (by simp)))
          have y0 := cell_later hb2 x0
          have y1 := cell_later hb2 x1
          have y2 := cell_later hb2 x2
          have yf := (hb2.frozen (p := ⟨wr.heap.size, 0, none⟩) z0).trans f0
          have hz3 := hb2.size
          have hw2 : wr.heap.size < w2.heap.size := by simp at hz3; omega
          have hb4 : Below wr.heap.size wr w2 := ((Below.refl _ _).alloc (Nat.le_refl _) _).trans (hb2.mono (by simp))
          have hb5 := hb4.setCell (p := ⟨wr.heap.size, 0, none⟩) (Nat.le_refl _) (.int .i64 (p i))
          have hb6 := hb5.alloc hb5.size (.cells #[.int .i64 (p i), .int .i64 (R i), .int .i64 (E i)] 217)
          have hb7 := hb.trans (hb6.mono hb.size)
          have hown6 := own_below hcut hb6
          have hs3 : (w2.setCell ⟨wr.heap.size, 0, none⟩ (.int .i64 (p i))).heap.size = w2.heap.size := by simp [World.setCell]
          have hc1 := cell_three_new (w2.setCell ⟨wr.heap.size, 0, none⟩ (.int .i64 (p i))) (.int .i64 (p i)) (.int .i64 (R i)) (.int .i64 (E i)) 217 w2.heap.size hs3
          have hc2 : ∀ v ∈ [Value.int .i64 (p i), Value.int .i64 (R i), Value.int .i64 (E i)], v.oneCell' = true := by simp [Value.oneCell']
          have hc5 := hb7.size
          have HC3 : (m - 1) + 1 ≤ maxLen := by unfold maxLen; omega
          have HC4 : ((m - 1) + 1) * 24 ≤ 140737488355328 := by omega
          have hlast2 := cell_later hb4 hlast
          have hgne : g ≠ wr.heap.size := by have := World.block_lt_of_cell? _ _ hlast; show g ≠ _; simp at this; omega
          clear x0 x1 x2 f0 z0 hb2 hs3 hb4 hb5 hb6 hlast
          go_wp2_with (at_builtin; refine wpList_append_own _ rfl _ _ 151 rfl w.heap.size 217 i0 (.agg #[.int .i64 0, .int .i64 0, .int .i64 0]) 3 24 Tryd.underlying151 Hi.out Hz.out hz1 hz2 rfl (by decide) _ _ _ rfl hown6 ⟨w2.heap.size, 0, none⟩ 1 1 [.int .i64 (p i), .int .i64 (R i), .int .i64 (E i)] rfl rfl hc1 hc2 HC3 HC4 hc5 ?_; intro v' w3 hown2 hg2 _)
          have hb8 := hb7.grown hg2 hc5 (fun k hk => (hown6.lt k hk).1)
          have hown3 : Rw w3 w.heap.size v' (scl p R E (i + 1)) := rw_push hown2 hlen1 hS
          clear hown2 hg2 hown6 hown
          go_wp2
          go_roundw
          case rel => exact ⟨i + 1, by omega, by go_num, hown3, fun e => by omega, hb8⟩
          case measure => first | omega | (simp [intOf]; omega)
        · have hS := hS2 hpe
          have t1 : (p (i - 1) == p i) = false := by simp; omega
          have hm := HM.out
          have HNI := Lib.hid hnil
          clear hS1 hS2 hpe hnil hcut
          have hbx := hb.alloc hsz (Obj.cells #[.int .i64 (F i), .int .i64 (R i), .int .i64 (E i)] 217)
          have x0 : (wr.alloc (Obj.cells #[.int .i64 (F i), .int .i64 (R i), .int .i64 (E i)] 217)).cell? ⟨wr.heap.size, 0, none⟩ = some (.int .i64 (F i)) := by simp [World.cell?_alloc_new]
          have x1 : (wr.alloc (Obj.cells #[.int .i64 (F i), .int .i64 (R i), .int .i64 (E i)] 217)).cell? ⟨wr.heap.size, 1, none⟩ = some (.int .i64 (R i)) := by simp [World.cell?_alloc_new]
          have x2 : (wr.alloc (Obj.cells #[.int .i64 (F i), .int .i64 (R i), .int .i64 (E i)] 217)).cell? ⟨wr.heap.size, 2, none⟩ = some (.int .i64 (E i)) := by simp [World.cell?_alloc_new]
          have f0 : (wr.alloc (Obj.cells #[.int .i64 (F i), .int .i64 (R i), .int .i64 (E i)] 217)).frozen? ⟨wr.heap.size, 0, none⟩ = false := (free_new wr _ _).1
          have z0 : wr.heap.size < (wr.alloc (Obj.cells #[.int .i64 (F i), .int .i64 (R i), .int .i64 (E i)] 217)).heap.size := by simp
          go_wp2_with (fail)
          refine (sc _).mono ?_
          rintro e w2 ⟨rfl, hb2⟩
          have hb3 := hbx.trans (hb2.mono (Nat.le_trans hb.size (by simp)))
          have y0 := cell_later hb2 x0
          have y1 := cell_later hb2 x1
          have y2 := cell_later hb2 x2
          have yf := (hb2.frozen (p := ⟨wr.heap.size, 0, none⟩) z0).trans f0
          have hz3 := hb2.size
          have hw2 : wr.heap.size < w2.heap.size := by simp at hz3; omega
          have hb4 : Below wr.heap.size wr w2 := ((Below.refl _ _).alloc (Nat.le_refl _) _).trans (hb2.mono (by simp))
          have hb5 := hb4.setCell (p := ⟨wr.heap.size, 0, none⟩) (Nat.le_refl _) (.int .i64 (p i))
          have hb6 := hb5.alloc hb5.size (.cells #[.int .i64 (p i), .int .i64 (R i), .int .i64 (E i)] 217)
          have hb7 := hb.trans (hb6.mono hb.size)
          have hown6 := own_below hown hb6
          have hs3 : (w2.setCell ⟨wr.heap.size, 0, none⟩ (.int .i64 (p i))).heap.size = w2.heap.size := by simp [World.setCell]
          have hc1 := cell_three_new (w2.setCell ⟨wr.heap.size, 0, none⟩ (.int .i64 (p i))) (.int .i64 (p i)) (.int .i64 (R i)) (.int .i64 (E i)) 217 w2.heap.size hs3
          have hc2 : ∀ v ∈ [Value.int .i64 (p i), Value.int .i64 (R i), Value.int .i64 (E i)], v.oneCell' = true := by simp [Value.oneCell']
          have hc5 := hb7.size
          have HC3 : m + 1 ≤ maxLen := by unfold maxLen; omega
          have HC4 : (m + 1) * 24 ≤ 140737488355328 := by omega
          have hlast2 := cell_later hb4 hlast
          have hgne : g ≠ wr.heap.size := by have := World.block_lt_of_cell? _ _ hlast; show g ≠ _; simp at this; omega
          clear x0 x1 x2 f0 z0 hb2 hs3 hb4 hb5 hb6 hlast
          go_wp2_with (at_builtin; refine wpList_append_own _ rfl _ _ 151 rfl w.heap.size 217 i0 (.agg #[.int .i64 0, .int .i64 0, .int .i64 0]) 3 24 Tryd.underlying151 Hi.out Hz.out hz1 hz2 rfl (by decide) _ _ _ rfl hown6 ⟨w2.heap.size, 0, none⟩ 1 1 [.int .i64 (p i), .int .i64 (R i), .int .i64 (E i)] rfl rfl hc1 hc2 HC3 HC4 hc5 ?_; intro v' w3 hown2 hg2 _)
          have hb8 := hb7.grown hg2 hc5 (fun k hk => (hown6.lt k hk).1)
          have hown3 : Rw w3 w.heap.size v' (scl p R E (i + 1)) := rw_push hown2 hm hS
          clear hown2 hg2 hown6 hown
          go_wp2
          go_roundw
          case rel => exact ⟨i + 1, by omega, by go_num, hown3, fun e => by omega, hb8⟩
          case measure => first | omega | (simp [intOf]; omega)
      · have e0 : i = 0 := by omega
        obtain rfl := hnil e0
        have E0 := Lib.hid e0
        have HNI := Lib.hid hnil
        clear e0 hnil
        have hbx := hb.alloc hsz (Obj.cells #[.int .i64 (F i), .int .i64 (R i), .int .i64 (E i)] 217)
        have x0 : (wr.alloc (Obj.cells #[.int .i64 (F i), .int .i64 (R i), .int .i64 (E i)] 217)).cell? ⟨wr.heap.size, 0, none⟩ = some (.int .i64 (F i)) := by simp [World.cell?_alloc_new]
        have x1 : (wr.alloc (Obj.cells #[.int .i64 (F i), .int .i64 (R i), .int .i64 (E i)] 217)).cell? ⟨wr.heap.size, 1, none⟩ = some (.int .i64 (R i)) := by simp [World.cell?_alloc_new]
        have x2 : (wr.alloc (Obj.cells #[.int .i64 (F i), .int .i64 (R i), .int .i64 (E i)] 217)).cell? ⟨wr.heap.size, 2, none⟩ = some (.int .i64 (E i)) := by simp [World.cell?_alloc_new]
        have f0 : (wr.alloc (Obj.cells #[.int .i64 (F i), .int .i64 (R i), .int .i64 (E i)] 217)).frozen? ⟨wr.heap.size, 0, none⟩ = false := (free_new wr _ _).1
        have z0 : wr.heap.size < (wr.alloc (Obj.cells #[.int .i64 (F i), .int .i64 (R i), .int .i64 (E i)] 217)).heap.size := by simp
        go_wp2_with (fail)
        refine (sc _).mono ?_
        rintro e w2 ⟨rfl, hb2⟩
        have hb3 := hbx.trans (hb2.mono (Nat.le_trans hb.size (by simp)))
        have y0 := cell_later hb2 x0
        have y1 := cell_later hb2 x1
        have y2 := cell_later hb2 x2
        have yf := (hb2.frozen (p := ⟨wr.heap.size, 0, none⟩) z0).trans f0
        have hz3 := hb2.size
        have hw2 : wr.heap.size < w2.heap.size := by simp at hz3; omega
        have hb4 : Below wr.heap.size wr w2 := ((Below.refl _ _).alloc (Nat.le_refl _) _).trans (hb2.mono (by simp))
        have hb5 := hb4.setCell (p := ⟨wr.heap.size, 0, none⟩) (Nat.le_refl _) (.int .i64 (p i))
        have hb6 := hb5.alloc hb5.size (.cells #[.int .i64 (p i), .int .i64 (R i), .int .i64 (E i)] 217)
        have hb7 := hb.trans (hb6.mono hb.size)
        have hown6 := own_below hown hb6
        have hs3 : (w2.setCell ⟨wr.heap.size, 0, none⟩ (.int .i64 (p i))).heap.size = w2.heap.size := by simp [World.setCell]
        have hc1 := cell_three_new (w2.setCell ⟨wr.heap.size, 0, none⟩ (.int .i64 (p i))) (.int .i64 (p i)) (.int .i64 (R i)) (.int .i64 (E i)) 217 w2.heap.size hs3
        have hc2 : ∀ v ∈ [Value.int .i64 (p i), Value.int .i64 (R i), Value.int .i64 (E i)], v.oneCell' = true := by simp [Value.oneCell']
        have hc5 := hb7.size
        have hlen : (scl p R E i).length = 0 := by have := E0.out; subst this; rfl
        have HC3 : (scl p R E i).length + 1 ≤ maxLen := by unfold maxLen; omega
        have HC4 : ((scl p R E i).length + 1) * 24 ≤ 140737488355328 := by omega
        clear hlen
        clear x0 x1 x2 f0 z0 hb2 hs3 hb4 hb5 hb6
        go_wp2_with (at_builtin; refine wpList_append_own _ rfl _ _ 151 rfl w.heap.size 217 i0 (.agg #[.int .i64 0, .int .i64 0, .int .i64 0]) 3 24 Tryd.underlying151 Hi.out Hz.out hz1 hz2 rfl (by decide) _ _ _ rfl hown6 ⟨w2.heap.size, 0, none⟩ 1 1 [.int .i64 (p i), .int .i64 (R i), .int .i64 (E i)] rfl rfl hc1 hc2 HC3 HC4 hc5 ?_; intro v' w3 hown2 hg2 _)
        have hb8 := hb7.grown hg2 hc5 (fun k hk => (hown6.lt k hk).1)
        have hown3 : Rw w3 w.heap.size v' (scl p R E (i + 1)) := rw_push hown2 rfl (by have := E0.out; subst this; rfl)
        clear hown2 hg2 hown6 hown
        go_wp2
        go_roundw
        case rel => exact ⟨i + 1, by omega, by go_num, hown3, fun e => by omega, hb8⟩
        case measure => first | omega | (simp [intOf]; omega)
    · obtain rfl : i = n := by omega
      clear h
      go_wp2
      go_ret2
      exact ⟨_, rfl, hown, hb⟩
end Go.Proofs.YtffihnbpjcgicaaDoor
