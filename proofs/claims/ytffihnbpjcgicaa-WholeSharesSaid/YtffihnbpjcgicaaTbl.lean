/- Plain facts of tables: which may be, and why others may not: no program in sight. -/
import Derived.Test.YtffihnbpjcgicaaBnd
import Derived.Test.YtffihnbpjcgicaaNam
namespace Go.Proofs.Ytffihnbpjcgicaa
set_option linter.unusedVariables false

/-- the first of n that is not 0, or 0 -/
def firstE (f : Nat → Int) : Nat → Int
  | 0 => 0
  | k + 1 => if firstE f k = 0 then f k else firstE f k
theorem first_stop {f : Nat → Int} {i n : Nat} (hi : i < n) (h0 : firstE f i = 0) (hs : f i ≠ 0) : firstE f n = f i := by
  obtain ⟨m, rfl⟩ : ∃ m, n = i + 1 + m := ⟨n - i - 1, by omega⟩
  induction m with
  | zero => simp [firstE, h0]
  | succ m ih =>
    have := ih (by omega)
    show (if firstE f (i + 1 + m) = 0 then _ else firstE f (i + 1 + m)) = _
    rw [this, if_neg hs]
theorem first_succ {f : Nat → Int} {i : Nat} (h0 : firstE f i = 0) (hs : f i = 0) : firstE f (i + 1) = 0 := by
  simp [firstE, h0, hs]
theorem first_zero {f : Nat → Int} {n : Nat} (h : firstE f n = 0) : ∀ i, i < n → f i = 0 := by
  induction n with
  | zero => intro i hi; omega
  | succ n ih =>
    have h1 : firstE f n = 0 := by
      have h' : (if firstE f n = 0 then f n else firstE f n) = 0 := h
      split at h' <;> simp_all
    have h2 : f n = 0 := by
      have h' : (if firstE f n = 0 then f n else firstE f n) = 0 := h
      rwa [if_pos h1] at h'
    intro i hi
    by_cases e : i = n
    · subst e; exact h2
    · exact ih h1 i (by omega)
theorem first_of_zero {f : Nat → Int} {n : Nat} (h : ∀ i, i < n → f i = 0) : firstE f n = 0 := by
  induction n with
  | zero => rfl
  | succ n ih => exact first_succ (ih fun i hi => h i (by omega)) (h n (by omega))
/-- the number of the first of n of which it is so, or -1 -/
def idxN (p : Nat → Bool) : Nat → Int
  | 0 => -1
  | k + 1 => if idxN p k = -1 then (if p k = true then (k : Int) else -1) else idxN p k
theorem idx_none {p : Nat → Bool} {n : Nat} (h : ∀ i, i < n → p i = false) : idxN p n = -1 := by
  induction n with
  | zero => rfl
  | succ n ih =>
    show (if idxN p n = -1 then _ else _) = _
    rw [ih fun i hi => h i (by omega), if_pos rfl, h n (by omega)]
    rfl
theorem idx_stop {p : Nat → Bool} {i n : Nat} (hi : i < n) (h0 : ∀ j, j < i → p j = false) (hp : p i = true) : idxN p n = i := by
  obtain ⟨m, rfl⟩ : ∃ m, n = i + 1 + m := ⟨n - i - 1, by omega⟩
  induction m with
  | zero =>
    show (if idxN p i = -1 then _ else _) = _
    rw [idx_none h0, if_pos rfl, hp]
    rfl
  | succ m ih =>
    have := ih (by omega)
    show (if idxN p (i + 1 + m) = -1 then _ else idxN p (i + 1 + m)) = _
    rw [this, if_neg (by omega)]
theorem idx_bd (p : Nat → Bool) (n : Nat) : -1 ≤ idxN p n ∧ idxN p n < n := by
  induction n with
  | zero => exact ⟨Int.le_refl _, by show (-1 : Int) < 0; omega⟩
  | succ n ih =>
    show -1 ≤ (if idxN p n = -1 then (if p n = true then (n : Int) else -1) else idxN p n) ∧ (if idxN p n = -1 then (if p n = true then (n : Int) else -1) else idxN p n) < ((n + 1 : Nat) : Int)
    split
    · split <;> omega
    · omega
theorem idx_no {p : Nat → Bool} {n : Nat} (h : idxN p n = -1) : ∀ i, i < n → p i = false := by
  intro i hi
  cases hp : p i
  · rfl
  · exfalso
    by_cases hx : ∃ j, j < i ∧ p j = true
    · induction i using Nat.strongRecOn with
      | ind i ih =>
        obtain ⟨j, hj, hpj⟩ := hx
        by_cases hy : ∃ k, k < j ∧ p k = true
        · exact ih j hj (by omega) hpj hy
        · have := idx_stop (n := n) (show j < n by omega) (fun k hk => by cases hk2 : p k; rfl; exact absurd ⟨k, hk, hk2⟩ hy) hpj
          omega
    · have := idx_stop hi (fun k hk => by cases hk2 : p k; rfl; exact absurd ⟨k, hk, hk2⟩ hx) hp
      omega

/-- bands as they lie: where, how many, how far the slice reaches; and their numbers -/
structure SB where
  A : Option Addr
  n : Nat
  c : Nat
  F : Nat → Int
  R : Nat → Int
  E : Nat → Int
/-- a contribution -/
structure CB where
  N : ByteArray
  B : Int
  b : SB
  P : Int
  Y : Int
  W : Int
/-- a kind of elements -/
structure KB where
  N : ByteArray
  c : Int
  t : Int
  s : Int
/-- what is wrong with a scheme -/
def schE (b : SB) : Int := if chk b.F b.R b.E b.n = 0 then (if 0 ≤ idxN (fun j => b.E j != 0) b.n then 50 else 0) else chk b.F b.R b.E b.n
def nm (N : ByteArray) (taken : Bool) : Int := if nameB N.data.toList = false then 5 else if taken = true then 4 else 0
/-- the first contribution of a name, and the first kind -/
def conI (C : Nat → CB) (N : ByteArray) (n : Nat) : Int := idxN (fun j => decide ((C j).N = N)) n
def kinI (K : Nat → KB) (N : ByteArray) (n : Nat) : Int := idxN (fun j => decide ((K j).N = N)) n
def ceilB (x : Int) : Bool := decide (0 ≤ x) && amtB x
def baseB (x : Int) : Bool := decide (x = 1) || decide (x = 2)
def sgnB (x : Int) : Bool := decide (-1 ≤ x) && decide (x ≤ 1)
/-- what is wrong with a contribution -/
def conE (C : Nat → CB) (n i : Nat) : Int :=
  if nm (C i).N (decide (conI C (C i).N n < i)) = 0 then
    (if baseB (C i).B && modeB (C i).W && ceilB (C i).P && ceilB (C i).Y then chk (C i).b.F (C i).b.R (C i).b.E (C i).b.n else 1)
  else nm (C i).N (decide (conI C (C i).N n < i))
def kinE (K : Nat → KB) (n i : Nat) : Int :=
  if nm (K i).N (decide (kinI K (K i).N n < i)) = 0 then
    (if sgnB (K i).c && sgnB (K i).t && sgnB (K i).s then 0 else 1)
  else nm (K i).N (decide (kinI K (K i).N n < i))
def headE (L W : Int) : Int := if rateB L = true then (if modeB W = true then 0 else 1) else 50
def schsE (S : Nat → SB) (n : Nat) : Int := if n < 1 ∨ 8 < n then 2 else firstE (fun i => schE (S i)) n
def consE (C : Nat → CB) (n : Nat) : Int := if 6 < n then 2 else firstE (conE C n) n
def kinsE (K : Nat → KB) (n : Nat) : Int := if n < 1 ∨ 12 < n then 2 else firstE (kinE K n) n
/-- what is wrong with a table -/
def chkT (S : Nat → SB) (nS : Nat) (C : Nat → CB) (nC : Nat) (K : Nat → KB) (nK : Nat) (L W : Int) : Int :=
  if headE L W = 0 then (if schsE S nS = 0 then (if consE C nC = 0 then kinsE K nK else consE C nC) else schsE S nS) else headE L W
end Go.Proofs.Ytffihnbpjcgicaa
