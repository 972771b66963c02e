/- Merged: Tbl, TblM, TblK. -/
import Derived.Test.YtffihnbpjcgicaaDoorBnd
import Derived.Test.YtffihnbpjcgicaaDoorNam
import Derived.Test.YtffihnbpjcgicaaDoorBandZ
/- Plain facts of tables: which may be, and why others may not: no program in sight. -/
namespace Go.Proofs.YtffihnbpjcgicaaDoor
set_option linter.unusedVariables false

/-- the first of n that is not 0, or 0 -/
def firstE (f : Nat → Int) : Nat → Int
  | 0 => 0
  | k + 1 => if firstE f k = 0 then f k else firstE f k
theorem first_stop {f : Nat → Int} {i n : Nat} (hi : i < n) (h0 : firstE f i = 0) (hs : f i ≠ 0) : firstE f n = f i := by
  obtain ⟨m, rfl⟩ : ∃ m, n = i + 1 + m := ⟨n - i - 1, by omega⟩
  induction m with
  | zero => simp [firstE, h0]
  | succ m ih =>
    have := ih (by omega)
    show (if firstE f (i + 1 + m) = 0 then _ else firstE f (i + 1 + m)) = _
    rw [this, if_neg hs]
theorem first_succ {f : Nat → Int} {i : Nat} (h0 : firstE f i = 0) (hs : f i = 0) : firstE f (i + 1) = 0 := by
  simp [firstE, h0, hs]
theorem first_zero {f : Nat → Int} {n : Nat} (h : firstE f n = 0) : ∀ i, i < n → f i = 0 := by
  induction n with
  | zero => intro i hi; omega
  | succ n ih =>
    have h1 : firstE f n = 0 := by
      have h' : (if firstE f n = 0 then f n else firstE f n) = 0 := h
      split at h' <;> simp_all
    have h2 : f n = 0 := by
      have h' : (if firstE f n = 0 then f n else firstE f n) = 0 := h
      rwa [if_pos h1] at h'
    intro i hi
    by_cases e : i = n
    · subst e; exact h2
    · exact ih h1 i (by omega)
theorem first_of_zero {f : Nat → Int} {n : Nat} (h : ∀ i, i < n → f i = 0) : firstE f n = 0 := by
  induction n with
  | zero => rfl
  | succ n ih => exact first_succ (ih fun i hi => h i (by omega)) (h n (by omega))
/-- the number of the first of n of which it is so, or -1 -/
def idxN (p : Nat → Bool) : Nat → Int
  | 0 => -1
  | k + 1 => if idxN p k = -1 then (if p k = true then (k : Int) else -1) else idxN p k
theorem idx_none {p : Nat → Bool} {n : Nat} (h : ∀ i, i < n → p i = false) : idxN p n = -1 := by
  induction n with
  | zero => rfl
  | succ n ih =>
    show (if idxN p n = -1 then _ else _) = _
    rw [ih fun i hi => h i (by omega), if_pos rfl, h n (by omega)]
    rfl
theorem idx_stop {p : Nat → Bool} {i n : Nat} (hi : i < n) (h0 : ∀ j, j < i → p j = false) (hp : p i = true) : idxN p n = i := by
  obtain ⟨m, rfl⟩ : ∃ m, n = i + 1 + m := ⟨n - i - 1, by omega⟩
  induction m with
  | zero =>
    show (if idxN p i = -1 then _ else _) = _
    rw [idx_none h0, if_pos rfl, hp]
    rfl
  | succ m ih =>
    have := ih (by omega)
    show (if idxN p (i + 1 + m) = -1 then _ else idxN p (i + 1 + m)) = _
    rw [this, if_neg (by omega)]
theorem idx_bd (p : Nat → Bool) (n : Nat) : -1 ≤ idxN p n ∧ idxN p n < n := by
  induction n with
  | zero => exact ⟨Int.le_refl _, by show (-1 : Int) < 0; omega⟩
  | succ n ih =>
    show -1 ≤ (if idxN p n = -1 then (if p n = true then (n : Int) else -1) else idxN p n) ∧ (if idxN p n = -1 then (if p n = true then (n : Int) else -1) else idxN p n) < ((n + 1 : Nat) : Int)
    split
    · split <;> omega
    · omega
theorem idx_no {p : Nat → Bool} {n : Nat} (h : idxN p n = -1) : ∀ i, i < n → p i = false := by
  intro i hi
  cases hp : p i
  · rfl
  · exfalso
    by_cases hx : ∃ j, j < i ∧ p j = true
    · induction i using Nat.strongRecOn with
      | ind i ih =>
        obtain ⟨j, hj, hpj⟩ := hx
        by_cases hy : ∃ k, k < j ∧ p k = true
        · exact ih j hj (by omega) hpj hy
        · have := idx_stop (n := n) (show j < n by omega) (fun k hk => by cases hk2 : p k; rfl; exact absurd ⟨k, hk, hk2⟩ hy) hpj
          omega
    · have := idx_stop hi (fun k hk => by cases hk2 : p k; rfl; exact absurd ⟨k, hk, hk2⟩ hx) hp
      omega

/-- bands as they lie: where, how many, how far the slice reaches; and their numbers -/
structure SB where
  A : Option Addr
  n : Nat
  c : Nat
  F : Nat → Int
  R : Nat → Int
  E : Nat → Int
/-- a contribution -/
structure CB where
  N : ByteArray
  B : Int
  b : SB
  P : Int
  Y : Int
  W : Int
/-- a kind of elements -/
structure KB where
  N : ByteArray
  c : Int
  t : Int
  s : Int
/-- what is wrong with a scheme -/
def schE (b : SB) : Int := if chk b.F b.R b.E b.n = 0 then (if 0 ≤ idxN (fun j => b.E j != 0) b.n then 50 else 0) else chk b.F b.R b.E b.n
def nm (N : ByteArray) (taken : Bool) : Int := if nameB N.data.toList = false then 5 else if taken = true then 4 else 0
/-- the first contribution of a name, and the first kind -/
def conI (C : Nat → CB) (N : ByteArray) (n : Nat) : Int := idxN (fun j => decide ((C j).N = N)) n
def kinI (K : Nat → KB) (N : ByteArray) (n : Nat) : Int := idxN (fun j => decide ((K j).N = N)) n
def ceilB (x : Int) : Bool := decide (0 ≤ x) && amtB x
def baseB (x : Int) : Bool := decide (x = 1) || decide (x = 2)
def sgnB (x : Int) : Bool := decide (-1 ≤ x) && decide (x ≤ 1)
/-- what is wrong with a contribution -/
def conE (C : Nat → CB) (n i : Nat) : Int :=
  if nm (C i).N (decide (conI C (C i).N n < i)) = 0 then
    (if baseB (C i).B && modeB (C i).W && ceilB (C i).P && ceilB (C i).Y then chk (C i).b.F (C i).b.R (C i).b.E (C i).b.n else 1)
  else nm (C i).N (decide (conI C (C i).N n < i))
def kinE (K : Nat → KB) (n i : Nat) : Int :=
  if nm (K i).N (decide (kinI K (K i).N n < i)) = 0 then
    (if sgnB (K i).c && sgnB (K i).t && sgnB (K i).s then 0 else 1)
  else nm (K i).N (decide (kinI K (K i).N n < i))
def headE (L W : Int) : Int := if rateB L = true then (if modeB W = true then 0 else 1) else 50
def schsE (S : Nat → SB) (n : Nat) : Int := if n < 1 ∨ 8 < n then 2 else firstE (fun i => schE (S i)) n
def consE (C : Nat → CB) (n : Nat) : Int := if 6 < n then 2 else firstE (conE C n) n
def kinsE (K : Nat → KB) (n : Nat) : Int := if n < 1 ∨ 12 < n then 2 else firstE (kinE K n) n
/-- what is wrong with a table -/
def chkT (S : Nat → SB) (nS : Nat) (C : Nat → CB) (nC : Nat) (K : Nat → KB) (nK : Nat) (L W : Int) : Int :=
  if headE L W = 0 then (if schsE S nS = 0 then (if consE C nC = 0 then kinsE K nK else consE C nC) else schsE S nS) else headE L W
end Go.Proofs.YtffihnbpjcgicaaDoor

/- A table as it lies in memory. -/
namespace Go.Proofs.YtffihnbpjcgicaaDoor
open Go.RowKit
set_option linter.unusedVariables false

/-- schemes, wherever they lie -/
def SchM (w : World) (A : Option Addr) (n : Nat) (S : Nat → SB) : Prop :=
  0 < n → ∃ b o, A = some ⟨b, o, none⟩ ∧ ∀ i, i < n → w.cell? ⟨b, o + i, none⟩ = some (.slice (S i).A (S i).n (S i).c) ∧ Bds w (S i).A (S i).n (S i).F (S i).R (S i).E
/-- contributions, wherever they lie -/
def ConM (w : World) (A : Option Addr) (n : Nat) (C : Nat → CB) : Prop :=
  0 < n → ∃ b o, A = some ⟨b, o, none⟩ ∧ ∀ i, i < n → w.cell? ⟨b, o + i * 6, none⟩ = some (.string (C i).N) ∧ w.cell? ⟨b, o + i * 6 + 1, none⟩ = some (.int .i64 (C i).B) ∧
    w.cell? ⟨b, o + i * 6 + 2, none⟩ = some (.slice (C i).b.A (C i).b.n (C i).b.c) ∧ w.cell? ⟨b, o + i * 6 + 3, none⟩ = some (.int .i64 (C i).P) ∧ w.cell? ⟨b, o + i * 6 + 4, none⟩ = some (.int .i64 (C i).Y) ∧
    w.cell? ⟨b, o + i * 6 + 5, none⟩ = some (.int .i64 (C i).W) ∧ Bds w (C i).b.A (C i).b.n (C i).b.F (C i).b.R (C i).b.E
/-- kinds, wherever they lie -/
def KinM (w : World) (A : Option Addr) (n : Nat) (K : Nat → KB) : Prop :=
  0 < n → ∃ b o, A = some ⟨b, o, none⟩ ∧ ∀ i, i < n → w.cell? ⟨b, o + i * 4, none⟩ = some (.string (K i).N) ∧ w.cell? ⟨b, o + i * 4 + 1, none⟩ = some (.int .i64 (K i).c) ∧
    w.cell? ⟨b, o + i * 4 + 2, none⟩ = some (.int .i64 (K i).t) ∧ w.cell? ⟨b, o + i * 4 + 3, none⟩ = some (.int .i64 (K i).s)
theorem SchM.below {w w' : World} {A : Option Addr} {n : Nat} {S : Nat → SB} (h : SchM w A n S) (hb : Below w.heap.size w w') : SchM w' A n S := fun hn => by
  obtain ⟨b, o, e, hc⟩ := h hn
  exact ⟨b, o, e, fun i hi => ⟨below_cell hb (Nat.le_refl _) (hc i hi).1, (hc i hi).2.below hb⟩⟩
theorem ConM.below {w w' : World} {A : Option Addr} {n : Nat} {C : Nat → CB} (h : ConM w A n C) (hb : Below w.heap.size w w') : ConM w' A n C := fun hn => by
  obtain ⟨b, o, e, hc⟩ := h hn
  refine ⟨b, o, e, fun i hi => ?_⟩
  obtain ⟨c0, c1, c2, c3, c4, c5, c6⟩ := hc i hi
  exact ⟨below_cell hb (Nat.le_refl _) c0, below_cell hb (Nat.le_refl _) c1, below_cell hb (Nat.le_refl _) c2, below_cell hb (Nat.le_refl _) c3, below_cell hb (Nat.le_refl _) c4, below_cell hb (Nat.le_refl _) c5, c6.below hb⟩
theorem KinM.below {w w' : World} {A : Option Addr} {n : Nat} {K : Nat → KB} (h : KinM w A n K) (hb : Below w.heap.size w w') : KinM w' A n K := fun hn => by
  obtain ⟨b, o, e, hc⟩ := h hn
  refine ⟨b, o, e, fun i hi => ?_⟩
  obtain ⟨c0, c1, c2, c3⟩ := hc i hi
  exact ⟨below_cell hb (Nat.le_refl _) c0, below_cell hb (Nat.le_refl _) c1, below_cell hb (Nat.le_refl _) c2, below_cell hb (Nat.le_refl _) c3⟩
/-- a table's values, and what they tell -/
structure TB where
  AS : Option Addr
  nS : Nat
  cS : Nat
  AC : Option Addr
  nC : Nat
  cC : Nat
  AK : Option Addr
  nK : Nat
  cK : Nat
  L : Int
  W : Int
  S : Nat → SB
  C : Nat → CB
  K : Nat → KB
def TB.v (T : TB) : Value := .agg #[.slice T.AS T.nS T.cS, .slice T.AC T.nC T.cC, .slice T.AK T.nK T.cK, .int .i64 T.L, .int .i64 T.W]
def Tm (w : World) (T : TB) : Prop := SchM w T.AS T.nS T.S ∧ ConM w T.AC T.nC T.C ∧ KinM w T.AK T.nK T.K
theorem Tm.below {w w' : World} {T : TB} (h : Tm w T) (hb : Below w.heap.size w w') : Tm w' T := ⟨h.1.below hb, h.2.1.below hb, h.2.2.below hb⟩
/-- how many bands lie in each row at most: sizes that a machine has -/
def Tz (T : TB) : Prop := (∀ i, i < T.nS → (T.S i).n ≤ 4611686018427387904) ∧ (∀ i, i < T.nC → (T.C i).b.n ≤ 4611686018427387904)
end Go.Proofs.YtffihnbpjcgicaaDoor

/- Plain facts of what is kept: no program in sight. -/
namespace Go.Proofs.YtffihnbpjcgicaaDoor
set_option linter.unusedVariables false
set_option linter.unusedSimpArgs false

/-- the worst band of the tax so far: the scheme, the band, the rate -/
def stepW (i j : Nat) (r : Int) (s : Int × Int × Int) : Int × Int × Int := if s.2.2 < r then ((i : Int), (j : Int), r) else s
def rowW (i : Nat) (R : Nat → Int) (s : Int × Int × Int) : Nat → Int × Int × Int
  | 0 => s
  | k + 1 => stepW i k (R k) (rowW i R s k)
def allW (S : Nat → SB) (L : Int) : Nat → Int × Int × Int
  | 0 => (-1, -1, L)
  | k + 1 => rowW k (S k).R (allW S L k) (S k).n
/-- the first one of the greatest -/
def steep (R : Nat → Int) : Nat → Nat
  | 0 => 0
  | k + 1 => if R (steep R k) < R k then k else steep R k
/-- what the worst bands of contributions take -/
def takeC (C : Nat → CB) : Nat → Int
  | 0 => 0
  | k + 1 => takeC C k + (C k).b.R (steep (C k).b.R (C k).b.n)
def keptW (T : TB) : Int := 10000 - (allW T.S T.L T.nS).2.2 - takeC T.C T.nC
theorem steep_lt (R : Nat → Int) {n : Nat} (h : 0 < n) : steep R n < n := by
  induction n with
  | zero => omega
  | succ n ih =>
    show (if R (steep R n) < R n then n else steep R n) < n + 1
    split
    · omega
    · cases n with
      | zero => exact Nat.zero_lt_one
      | succ n => have := ih (by omega); omega
theorem steep_top (R : Nat → Int) {n : Nat} : ∀ j, j < n → R j ≤ R (steep R n) := by
  induction n with
  | zero => intro j hj; omega
  | succ n ih =>
    intro j hj
    show R j ≤ R (if R (steep R n) < R n then n else steep R n)
    split
    · by_cases e : j = n
      · subst e; omega
      · have := ih j (by omega); omega
    · by_cases e : j = n
      · subst e; omega
      · exact ih j (by omega)
theorem rowW_mono (i : Nat) (R : Nat → Int) (s : Int × Int × Int) (n : Nat) : s.2.2 ≤ (rowW i R s n).2.2 := by
  induction n with
  | zero => exact Int.le_refl _
  | succ n ih =>
    show s.2.2 ≤ (if (rowW i R s n).2.2 < R n then ((i : Int), (n : Int), R n) else rowW i R s n).2.2
    split
    · show s.2.2 ≤ R n; omega
    · exact ih
theorem rowW_top (i : Nat) (R : Nat → Int) (s : Int × Int × Int) (n : Nat) : ∀ j, j < n → R j ≤ (rowW i R s n).2.2 := by
  induction n with
  | zero => intro j hj; omega
  | succ n ih =>
    intro j hj
    show R j ≤ (if (rowW i R s n).2.2 < R n then ((i : Int), (n : Int), R n) else rowW i R s n).2.2
    split
    · by_cases e : j = n
      · subst e; exact Int.le_refl _
      · have := ih j (by omega)
        show R j ≤ R n; omega
    · by_cases e : j = n
      · subst e; omega
      · exact ih j (by omega)
theorem rowW_is (i : Nat) (R : Nat → Int) (s : Int × Int × Int) (n : Nat) : rowW i R s n = s ∨ ∃ j, j < n ∧ rowW i R s n = ((i : Int), (j : Int), R j) := by
  induction n with
  | zero => exact .inl rfl
  | succ n ih =>
    by_cases h : (rowW i R s n).2.2 < R n
    · exact .inr ⟨n, by omega, if_pos h⟩
    · have e : rowW i R s (n + 1) = rowW i R s n := if_neg h
      rw [e]
      rcases ih with h | ⟨j, hj, h⟩
      · exact .inl h
      · exact .inr ⟨j, by omega, h⟩
theorem allW_limit (S : Nat → SB) (L : Int) (n : Nat) : L ≤ (allW S L n).2.2 := by
  induction n with
  | zero => exact Int.le_refl _
  | succ n ih => exact Int.le_trans ih (rowW_mono _ _ _ _)
theorem allW_top (S : Nat → SB) (L : Int) (n : Nat) : ∀ i j, i < n → j < (S i).n → (S i).R j ≤ (allW S L n).2.2 := by
  induction n with
  | zero => intro i j hi; omega
  | succ n ih =>
    intro i j hi hj
    by_cases e : i = n
    · subst e; exact rowW_top _ _ _ _ j hj
    · exact Int.le_trans (ih i j (by omega) hj) (rowW_mono _ _ _ _)
theorem allW_is (S : Nat → SB) (L : Int) (n : Nat) : allW S L n = (-1, -1, L) ∨ ∃ i j : Nat, i < n ∧ j < (S i).n ∧ allW S L n = ((i : Int), (j : Int), (S i).R j) := by
  induction n with
  | zero => exact .inl rfl
  | succ n ih =>
    rcases rowW_is n (S n).R (allW S L n) (S n).n with h | ⟨j, hj, h⟩
    · have e : allW S L (n + 1) = allW S L n := h
      rw [e]
      rcases ih with h | ⟨i, j, hi, hj, h⟩
      · exact .inl h
      · exact .inr ⟨i, j, by omega, hj, h⟩
    · exact .inr ⟨n, j, by omega, hj, h⟩
/-- what is known of a table that may be -/
structure TOk (T : TB) : Prop where
  s1 : 1 ≤ T.nS
  s8 : T.nS ≤ 8
  c6 : T.nC ≤ 6
  k1 : 1 ≤ T.nK
  k12 : T.nK ≤ 12
  l0 : 0 ≤ T.L
  l1 : T.L ≤ 10000
  s : ∀ i, i < T.nS → Okb (T.S i).F (T.S i).R (T.S i).E (T.S i).n
  c : ∀ i, i < T.nC → Okb (T.C i).b.F (T.C i).b.R (T.C i).b.E (T.C i).b.n
def TB.chk (T : TB) : Int := chkT T.S T.nS T.C T.nC T.K T.nK T.L T.W
theorem tok_of {T : TB} (h : T.chk = 0) : TOk T := by
  unfold TB.chk chkT at h
  have hh : headE T.L T.W = 0 := by
    split at h
    · assumption
    · exact h
  rw [if_pos hh] at h
  have hs : schsE T.S T.nS = 0 := by
    split at h
    · assumption
    · exact h
  rw [if_pos hs] at h
  have hc : consE T.C T.nC = 0 := by
    split at h
    · assumption
    · exact h
  rw [if_pos hc] at h
  unfold headE at hh
  have hr : rateB T.L = true := by
    split at hh
    · assumption
    · omega
  have hl := rateB_yes hr
  unfold schsE at hs
  have s1 : ¬ (T.nS < 1 ∨ 8 < T.nS) := by
    intro q
    rw [if_pos q] at hs
    omega
  rw [if_neg s1] at hs
  unfold consE at hc
  have c1 : ¬ 6 < T.nC := by
    intro q
    rw [if_pos q] at hc
    omega
  rw [if_neg c1] at hc
  unfold kinsE at h
  have k1 : ¬ (T.nK < 1 ∨ 12 < T.nK) := by
    intro q
    rw [if_pos q] at h
    omega
  refine ⟨by omega, by omega, by omega, by omega, by omega, hl.1, hl.2, fun i hi => ?_, fun i hi => ?_⟩
  · have := first_zero hs i hi
    unfold schE at this
    have h0 : chk (T.S i).F (T.S i).R (T.S i).E (T.S i).n = 0 := by
      split at this
      · assumption
      · exact this
    exact okb_of h0
  · have := first_zero hc i hi
    unfold conE at this
    split at this
    · split at this
      · exact okb_of this
      · omega
    · omega
theorem sum_bd {T : TB} (h : TOk T) : ∀ n, n ≤ T.nC → 0 ≤ takeC T.C n ∧ takeC T.C n ≤ 10000 * n := by
  intro n
  induction n with
  | zero => intro _; exact ⟨Int.le_refl _, Int.le_refl _⟩
  | succ n ih =>
    intro hn
    have := ih (by omega)
    obtain ⟨b1, b8, _, _, r, _⟩ := h.c n (by omega)
    have r := r _ (steep_lt (T.C n).b.R (show 0 < (T.C n).b.n by omega))
    show 0 ≤ takeC T.C n + _ ∧ takeC T.C n + _ ≤ _
    omega
theorem rate_bd {T : TB} (h : TOk T) : 0 ≤ (allW T.S T.L T.nS).2.2 ∧ (allW T.S T.L T.nS).2.2 ≤ 10000 := by
  have h0 := h.l0
  have h1 := h.l1
  rcases allW_is T.S T.L T.nS with e | ⟨i, j, hi, hj, e⟩
  · rw [e]; exact ⟨h0, h1⟩
  · rw [e]
    exact (h.s i hi).2.2.2.2.1 j hj
end Go.Proofs.YtffihnbpjcgicaaDoor
