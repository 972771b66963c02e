/- Tables whose contributions and schemes stand the other way round: plain facts. -/
import Derived.Test.YtobdbjmpoefebaaDoorTblK
namespace Go.Proofs.YtobdbjmpoefebaaDoor
set_option linter.unusedVariables false
set_option linter.unusedSimpArgs false

theorem idxK_cases (p : Nat → Bool) : ∀ n, (idxN p n = -1 ∧ ∀ j, j < n → p j = false) ∨ ∃ i, i < n ∧ idxN p n = (i : Int) ∧ p i = true ∧ ∀ j, j < i → p j = false
  | 0 => .inl ⟨rfl, fun j hj => absurd hj (Nat.not_lt_zero _)⟩
  | n + 1 => by
    rcases idxK_cases p n with ⟨h1, h2⟩ | ⟨i, hi, h1, h2, h3⟩
    · cases hp : p n
      · refine .inl ⟨?_, fun j hj => ?_⟩
        · simp [idxN, h1, hp]
        · rcases Nat.lt_or_ge j n with q | q
          · exact h2 j q
          · obtain rfl : j = n := by omega
            exact hp
      · exact .inr ⟨n, by omega, by simp [idxN, h1, hp], hp, h2⟩
    · refine .inr ⟨i, by omega, ?_, h2, h3⟩
      have : (i : Int) ≠ -1 := by omega
      simp [idxN, h1, this]
/-- what is wrong with a contribution by itself -/
def oneE (c : CB) : Int := if nm c.N false = 0 then (if baseB c.B && modeB c.W && ceilB c.P && ceilB c.Y then chk c.b.F c.b.R c.b.E c.b.n else 1) else nm c.N false
theorem nm_true (N : ByteArray) : nm N true ≠ 0 := by
  unfold nm
  split
  · decide
  · decide
theorem conE_zero (C : Nat → CB) (n i : Nat) (hi : i < n) : conE C n i = 0 ↔ oneE (C i) = 0 ∧ ∀ j, j < i → (C j).N ≠ (C i).N := by
  have key : decide (conI C (C i).N n < i) = false ↔ ∀ j, j < i → (C j).N ≠ (C i).N := by
    rw [decide_eq_false_iff_not]
    unfold conI
    rcases idxK_cases (fun j => decide ((C j).N = (C i).N)) n with ⟨h1, h2⟩ | ⟨f, hf, h1, h2, h3⟩
    · have := h2 i hi
      simp at this
    · rw [h1]
      constructor
      · intro h j hj e
        rcases Nat.lt_or_ge f i with q | q
        · omega
        · have := h3 j (by omega)
          simp [e] at this
      · intro h q
        exact h f (by omega) (by simpa using h2)
  unfold conE oneE
  cases hd : decide (conI C (C i).N n < i)
  · rw [hd] at key
    have hk := key.1 rfl
    constructor
    · intro h; exact ⟨h, hk⟩
    · intro h; exact h.1
  · rw [hd] at key
    constructor
    · intro h
      rw [if_neg (nm_true _)] at h
      exact absurd h (nm_true _)
    · intro h
      exact absurd (key.2 h.2) (by decide)
theorem consE_iff (C : Nat → CB) (n : Nat) : consE C n = 0 ↔ n ≤ 6 ∧ (∀ i, i < n → oneE (C i) = 0) ∧ ∀ i j, i < n → j < n → (C i).N = (C j).N → i = j := by
  unfold consE
  by_cases h6 : 6 < n
  · rw [if_pos h6]
    constructor
    · intro h; exact absurd h (by decide)
    · intro h; omega
  · rw [if_neg h6]
    constructor
    · intro h
      have hz := first_zero h
      refine ⟨by omega, fun i hi => ((conE_zero C n i hi).1 (hz i hi)).1, fun i j hi hj e => ?_⟩
      rcases Nat.lt_trichotomy i j with q | q | q
      · exact absurd e (((conE_zero C n j hj).1 (hz j hj)).2 i q)
      · exact q
      · exact absurd e.symm (((conE_zero C n i hi).1 (hz i hi)).2 j q)
    · intro ⟨_, h1, h2⟩
      exact first_of_zero fun i hi => (conE_zero C n i hi).2 ⟨h1 i hi, fun j hj e => by
        have := h2 j i (by omega) hi e
        omega⟩
theorem consE_rev {C : Nat → CB} {n : Nat} (h : consE C n = 0) : consE (fun q => C (n - 1 - q)) n = 0 := by
  obtain ⟨h1, h2, h3⟩ := (consE_iff C n).1 h
  refine (consE_iff _ n).2 ⟨h1, fun i hi => h2 _ (by omega), fun i j hi hj e => ?_⟩
  have := h3 (n - 1 - i) (n - 1 - j) (by omega) (by omega) e
  omega
theorem consE_tail {C : Nat → CB} {n : Nat} (h : consE C (n + 1) = 0) : consE (fun q => C (q + 1)) n = 0 := by
  obtain ⟨h1, h2, h3⟩ := (consE_iff C (n + 1)).1 h
  refine (consE_iff _ n).2 ⟨by omega, fun i hi => h2 _ (by omega), fun i j hi hj e => ?_⟩
  have := h3 (i + 1) (j + 1) (by omega) (by omega) e
  omega
theorem schsE_rev {S : Nat → SB} {n : Nat} (h : schsE S n = 0) : schsE (fun q => S (n - 1 - q)) n = 0 := by
  unfold schsE at *
  by_cases hn : n < 1 ∨ 8 < n
  · rw [if_pos hn] at h; exact absurd h (by decide)
  · rw [if_neg hn] at *
    have hz := first_zero h
    exact first_of_zero fun i hi => hz _ (by omega)
theorem chkT_parts {S : Nat → SB} {nS : Nat} {C : Nat → CB} {nC : Nat} {K : Nat → KB} {nK : Nat} {L W : Int} (h : chkT S nS C nC K nK L W = 0) : headE L W = 0 ∧ schsE S nS = 0 ∧ consE C nC = 0 ∧ kinsE K nK = 0 := by
  unfold chkT at h
  have hh : headE L W = 0 := by
    split at h
    · assumption
    · exact h
  rw [if_pos hh] at h
  have hs : schsE S nS = 0 := by
    split at h
    · assumption
    · exact h
  rw [if_pos hs] at h
  have hc : consE C nC = 0 := by
    split at h
    · assumption
    · exact h
  rw [if_pos hc] at h
  exact ⟨hh, hs, hc, h⟩
theorem chkT_mk {S : Nat → SB} {nS : Nat} {C : Nat → CB} {nC : Nat} {K : Nat → KB} {nK : Nat} {L W : Int} (h1 : headE L W = 0) (h2 : schsE S nS = 0) (h3 : consE C nC = 0) (h4 : kinsE K nK = 0) : chkT S nS C nC K nK L W = 0 := by
  unfold chkT
  rw [if_pos h1, if_pos h2, if_pos h3, h4]
/-- what a contribution's worst band takes -/
def tk1 (c : CB) : Int := c.b.R (steep c.b.R c.b.n)
theorem takeC_succ (C : Nat → CB) (n : Nat) : takeC C (n + 1) = takeC C n + tk1 (C n) := rfl
theorem takeC_front (C : Nat → CB) : ∀ n, takeC C (n + 1) = tk1 (C 0) + takeC (fun q => C (q + 1)) n
  | 0 => by rw [takeC_succ]; show 0 + _ = _ + 0; omega
  | n + 1 => by
    rw [takeC_succ, takeC_front C n, takeC_succ]
    omega
theorem takeC_rev (C : Nat → CB) : ∀ n, takeC (fun q => C (n - 1 - q)) n = takeC C n
  | 0 => rfl
  | n + 1 => by
    rw [takeC_front, takeC_succ]
    have e : (fun q => (fun q => C (n + 1 - 1 - q)) (q + 1)) = fun q => C (n - 1 - q) := by
      funext q
      show C (n + 1 - 1 - (q + 1)) = C (n - 1 - q)
      congr 1
      omega
    rw [e, takeC_rev C n]
    show tk1 (C (n + 1 - 1 - 0)) + _ = _
    rw [show n + 1 - 1 - 0 = n by omega]
    omega
theorem allW_rev (S : Nat → SB) (L : Int) (n : Nat) : (allW (fun q => S (n - 1 - q)) L n).2.2 = (allW S L n).2.2 := by
  apply Int.le_antisymm
  · rcases allW_is (fun q => S (n - 1 - q)) L n with h | ⟨i, j, hi, hj, h⟩
    · rw [h]; exact allW_limit S L n
    · rw [h]; exact allW_top S L n (n - 1 - i) j (by omega) hj
  · rcases allW_is S L n with h | ⟨i, j, hi, hj, h⟩
    · rw [h]; exact allW_limit _ L n
    · rw [h]
      have := allW_top (fun q => S (n - 1 - q)) L n (n - 1 - i) j (by omega) (by show j < (S (n - 1 - (n - 1 - i))).n; rw [show n - 1 - (n - 1 - i) = i by omega]; exact hj)
      have e : (S (n - 1 - (n - 1 - i))).R j = (S i).R j := by rw [show n - 1 - (n - 1 - i) = i by omega]
      rw [e] at this
      exact this
theorem tk1_pos {T : TB} (h : TOk T) {i : Nat} (hi : i < T.nC) : 0 ≤ tk1 (T.C i) := by
  obtain ⟨h1, _, _, _, h5, _⟩ := h.c i hi
  have := h5 (steep (T.C i).b.R (T.C i).b.n) (steep_lt _ (by omega))
  unfold tk1
  omega
end Go.Proofs.YtobdbjmpoefebaaDoor
