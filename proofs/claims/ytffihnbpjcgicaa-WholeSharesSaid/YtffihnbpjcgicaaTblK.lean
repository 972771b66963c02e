/- Plain facts of what is kept: no program in sight. -/
import Derived.Test.YtffihnbpjcgicaaTblM
namespace Go.Proofs.Ytffihnbpjcgicaa
set_option linter.unusedVariables false
set_option linter.unusedSimpArgs false

/-- the worst band of the tax so far: the scheme, the band, the rate -/
def stepW (i j : Nat) (r : Int) (s : Int × Int × Int) : Int × Int × Int := if s.2.2 < r then ((i : Int), (j : Int), r) else s
def rowW (i : Nat) (R : Nat → Int) (s : Int × Int × Int) : Nat → Int × Int × Int
  | 0 => s
  | k + 1 => stepW i k (R k) (rowW i R s k)
def allW (S : Nat → SB) (L : Int) : Nat → Int × Int × Int
  | 0 => (-1, -1, L)
  | k + 1 => rowW k (S k).R (allW S L k) (S k).n
/-- the first one of the greatest -/
def steep (R : Nat → Int) : Nat → Nat
  | 0 => 0
  | k + 1 => if R (steep R k) < R k then k else steep R k
/-- what the worst bands of contributions take -/
def takeC (C : Nat → CB) : Nat → Int
  | 0 => 0
  | k + 1 => takeC C k + (C k).b.R (steep (C k).b.R (C k).b.n)
def keptW (T : TB) : Int := 10000 - (allW T.S T.L T.nS).2.2 - takeC T.C T.nC
theorem steep_lt (R : Nat → Int) {n : Nat} (h : 0 < n) : steep R n < n := by
  induction n with
  | zero => omega
  | succ n ih =>
    show (if R (steep R n) < R n then n else steep R n) < n + 1
    split
    · omega
    · cases n with
      | zero => exact Nat.zero_lt_one
      | succ n => have := ih (by omega); omega
theorem steep_top (R : Nat → Int) {n : Nat} : ∀ j, j < n → R j ≤ R (steep R n) := by
  induction n with
  | zero => intro j hj; omega
  | succ n ih =>
    intro j hj
    show R j ≤ R (if R (steep R n) < R n then n else steep R n)
    split
    · by_cases e : j = n
      · subst e; omega
      · have := ih j (by omega); omega
    · by_cases e : j = n
      · subst e; omega
      · exact ih j (by omega)
theorem rowW_mono (i : Nat) (R : Nat → Int) (s : Int × Int × Int) (n : Nat) : s.2.2 ≤ (rowW i R s n).2.2 := by
  induction n with
  | zero => exact Int.le_refl _
  | succ n ih =>
    show s.2.2 ≤ (if (rowW i R s n).2.2 < R n then ((i : Int), (n : Int), R n) else rowW i R s n).2.2
    split
    · show s.2.2 ≤ R n; omega
    · exact ih
theorem rowW_top (i : Nat) (R : Nat → Int) (s : Int × Int × Int) (n : Nat) : ∀ j, j < n → R j ≤ (rowW i R s n).2.2 := by
  induction n with
  | zero => intro j hj; omega
  | succ n ih =>
    intro j hj
    show R j ≤ (if (rowW i R s n).2.2 < R n then ((i : Int), (n : Int), R n) else rowW i R s n).2.2
    split
    · by_cases e : j = n
      · subst e; exact Int.le_refl _
      · have := ih j (by omega)
        show R j ≤ R n; omega
    · by_cases e : j = n
      · subst e; omega
      · exact ih j (by omega)
theorem rowW_is (i : Nat) (R : Nat → Int) (s : Int × Int × Int) (n : Nat) : rowW i R s n = s ∨ ∃ j, j < n ∧ rowW i R s n = ((i : Int), (j : Int), R j) := by
  induction n with
  | zero => exact .inl rfl
  | succ n ih =>
    by_cases h : (rowW i R s n).2.2 < R n
    · exact .inr ⟨n, by omega, if_pos h⟩
    · have e : rowW i R s (n + 1) = rowW i R s n := if_neg h
      rw [e]
      rcases ih with h | ⟨j, hj, h⟩
      · exact .inl h
      · exact .inr ⟨j, by omega, h⟩
theorem allW_limit (S : Nat → SB) (L : Int) (n : Nat) : L ≤ (allW S L n).2.2 := by
  induction n with
  | zero => exact Int.le_refl _
  | succ n ih => exact Int.le_trans ih (rowW_mono _ _ _ _)
theorem allW_top (S : Nat → SB) (L : Int) (n : Nat) : ∀ i j, i < n → j < (S i).n → (S i).R j ≤ (allW S L n).2.2 := by
  induction n with
  | zero => intro i j hi; omega
  | succ n ih =>
    intro i j hi hj
    by_cases e : i = n
    · subst e; exact rowW_top _ _ _ _ j hj
    · exact Int.le_trans (ih i j (by omega) hj) (rowW_mono _ _ _ _)
theorem allW_is (S : Nat → SB) (L : Int) (n : Nat) : allW S L n = (-1, -1, L) ∨ ∃ i j : Nat, i < n ∧ j < (S i).n ∧ allW S L n = ((i : Int), (j : Int), (S i).R j) := by
  induction n with
  | zero => exact .inl rfl
  | succ n ih =>
    rcases rowW_is n (S n).R (allW S L n) (S n).n with h | ⟨j, hj, h⟩
    · have e : allW S L (n + 1) = allW S L n := h
      rw [e]
      rcases ih with h | ⟨i, j, hi, hj, h⟩
      · exact .inl h
      · exact .inr ⟨i, j, by omega, hj, h⟩
    · exact .inr ⟨n, j, by omega, hj, h⟩
/-- what is known of a table that may be -/
structure TOk (T : TB) : Prop where
  s1 : 1 ≤ T.nS
  s8 : T.nS ≤ 8
  c6 : T.nC ≤ 6
  k1 : 1 ≤ T.nK
  k12 : T.nK ≤ 12
  l0 : 0 ≤ T.L
  l1 : T.L ≤ 10000
  s : ∀ i, i < T.nS → Okb (T.S i).F (T.S i).R (T.S i).E (T.S i).n
  c : ∀ i, i < T.nC → Okb (T.C i).b.F (T.C i).b.R (T.C i).b.E (T.C i).b.n
def TB.chk (T : TB) : Int := chkT T.S T.nS T.C T.nC T.K T.nK T.L T.W
theorem tok_of {T : TB} (h : T.chk = 0) : TOk T := by
  unfold TB.chk chkT at h
  have hh : headE T.L T.W = 0 := by
    split at h
    · assumption
    · exact h
  rw [if_pos hh] at h
  have hs : schsE T.S T.nS = 0 := by
    split at h
    · assumption
    · exact h
  rw [if_pos hs] at h
  have hc : consE T.C T.nC = 0 := by
    split at h
    · assumption
    · exact h
  rw [if_pos hc] at h
  unfold headE at hh
  have hr : rateB T.L = true := by
    split at hh
    · assumption
    · omega
  have hl := rateB_yes hr
  unfold schsE at hs
  have s1 : ¬ (T.nS < 1 ∨ 8 < T.nS) := by
    intro q
    rw [if_pos q] at hs
    omega
  rw [if_neg s1] at hs
  unfold consE at hc
  have c1 : ¬ 6 < T.nC := by
    intro q
    rw [if_pos q] at hc
    omega
  rw [if_neg c1] at hc
  unfold kinsE at h
  have k1 : ¬ (T.nK < 1 ∨ 12 < T.nK) := by
    intro q
    rw [if_pos q] at h
    omega
  refine ⟨by omega, by omega, by omega, by omega, by omega, hl.1, hl.2, fun i hi => ?_, fun i hi => ?_⟩
  · have := first_zero hs i hi
    unfold schE at this
    have h0 : chk (T.S i).F (T.S i).R (T.S i).E (T.S i).n = 0 := by
      split at this
      · assumption
      · exact this
    exact okb_of h0
  · have := first_zero hc i hi
    unfold conE at this
    split at this
    · split at this
      · exact okb_of this
      · omega
    · omega
theorem sum_bd {T : TB} (h : TOk T) : ∀ n, n ≤ T.nC → 0 ≤ takeC T.C n ∧ takeC T.C n ≤ 10000 * n := by
  intro n
  induction n with
  | zero => intro _; exact ⟨Int.le_refl _, Int.le_refl _⟩
  | succ n ih =>
    intro hn
    have := ih (by omega)
    obtain ⟨b1, b8, _, _, r, _⟩ := h.c n (by omega)
    have r := r _ (steep_lt (T.C n).b.R (show 0 < (T.C n).b.n by omega))
    show 0 ≤ takeC T.C n + _ ∧ takeC T.C n + _ ≤ _
    omega
theorem rate_bd {T : TB} (h : TOk T) : 0 ≤ (allW T.S T.L T.nS).2.2 ∧ (allW T.S T.L T.nS).2.2 ≤ 10000 := by
  have h0 := h.l0
  have h1 := h.l1
  rcases allW_is T.S T.L T.nS with e | ⟨i, j, hi, hj, e⟩
  · rw [e]; exact ⟨h0, h1⟩
  · rw [e]
    exact (h.s i hi).2.2.2.2.1 j hj
end Go.Proofs.Ytffihnbpjcgicaa
