/- Orders as plain numbers: whether one may be, what it orders, what is due, and how orders are served one by one. No program in sight. -/
import Derived.Test.YthknjpmhomjobaaGreatDoorPlain
namespace Go.Proofs.YthknjpmhomjobaaGreatDoor
open Go.RowKit

/-- what is wrong with an order: 0, if nothing is -/
def chkO (i p a r t : Int) : Int :=
  if i < 1 ∨ 999999 < i ∨ p < 0 ∨ 999 < p then 1
  else if (amtB a && amtB t) = false then 10
  else if a < 0 ∨ t < 0 then 1
  else if rateB r = false then 50
  else if a = 0 ∧ r = 0 then 5
  else 0
theorem chkO_zero {i p a r t : Int} (h : chkO i p a r t = 0) : (1 ≤ i ∧ i ≤ 999999) ∧ (0 ≤ p ∧ p ≤ 999) ∧ (0 ≤ a ∧ a ≤ 100000000000) ∧ (0 ≤ r ∧ r ≤ 10000) ∧ (0 ≤ t ∧ t ≤ 100000000000) ∧ ¬ (a = 0 ∧ r = 0) := by
  unfold chkO at h
  by_cases h1 : i < 1 ∨ 999999 < i ∨ p < 0 ∨ 999 < p
  · rw [if_pos h1] at h; omega
  rw [if_neg h1] at h
  by_cases h2 : (amtB a && amtB t) = false
  · rw [if_pos h2] at h; omega
  rw [if_neg h2] at h
  by_cases h3 : a < 0 ∨ t < 0
  · rw [if_pos h3] at h; omega
  rw [if_neg h3] at h
  by_cases h4 : rateB r = false
  · rw [if_pos h4] at h; omega
  rw [if_neg h4] at h
  by_cases h5 : a = 0 ∧ r = 0
  · rw [if_pos h5] at h; omega
  simp only [Bool.not_eq_false, Bool.and_eq_true] at h2 h4
  have := amtB_yes h2.1
  have := amtB_yes h2.2
  have := rateB_yes h4
  omega
/-- an order, what it took in all, and its arrears -/
structure Sta where
  id : Int
  pr : Int
  am : Int
  rt : Int
  tot : Int
  tk : Int
  ar : Int
instance : Inhabited Sta := ⟨⟨0, 0, 0, 0, 0, 0, 0⟩⟩
def fit (x : Int) : Prop := -9223372036854775808 ≤ x ∧ x ≤ 9223372036854775807
def Sta.F (s : Sta) : Prop := fit s.id ∧ fit s.pr ∧ fit s.am ∧ fit s.rt ∧ fit s.tot ∧ fit s.tk ∧ fit s.ar
def Sta.chk (s : Sta) : Int := chkO s.id s.pr s.am s.rt s.tot
/-- an order that may be, with amounts that aren't below nothing -/
def Sta.OK (s : Sta) : Prop := s.chk = 0 ∧ (0 ≤ s.tk ∧ s.tk ≤ 100000000000) ∧ (0 ≤ s.ar ∧ s.ar ≤ 100000000000)
def Sta.lft (s : Sta) : Int := if s.tot = 0 then 100000000000 else if 0 < s.tot - s.tk - s.ar then s.tot - s.tk - s.ar else 0
def pos (n : Int) : Int := max n 0
/-- the part of a net pay that a rate tells -/
def prt (n r : Int) : Int := pos n * r / 10000
def Sta.ordX (s : Sta) (n : Int) : Int := if prt n s.rt + s.am ≤ s.lft then prt n s.rt + s.am else s.lft
def Sta.ordB (s : Sta) (n : Int) : Bool := decide (n ≤ 100000000000) && decide (prt n s.rt + s.am ≤ 100000000000)
def Sta.dueX (s : Sta) (n : Int) : Int := s.ordX n + s.ar
def Sta.dueB (s : Sta) (n : Int) : Bool := s.ordB n && decide (s.dueX n ≤ 100000000000)
def leI (a b : Int) : Int := if a ≤ b then a else b
theorem pos_bd {n : Int} (h : n ≤ 100000000000) : 0 ≤ pos n ∧ pos n ≤ 100000000000 := by unfold pos; omega
theorem prt_bd {n r : Int} (h : n ≤ 100000000000) (hr : 0 ≤ r) (hr' : r ≤ 10000) : 0 ≤ prt n r ∧ prt n r ≤ 100000000000 := by
  have hp := pos_bd h
  have h1 : 0 ≤ pos n * r := Int.mul_nonneg hp.1 hr
  have h2 : pos n * r ≤ 100000000000 * 10000 := Int.mul_le_mul hp.2 hr' hr (by omega)
  unfold prt
  generalize pos n * r = q at *
  omega
theorem Sta.OK.nums {s : Sta} (h : s.OK) : (1 ≤ s.id ∧ s.id ≤ 999999) ∧ (0 ≤ s.pr ∧ s.pr ≤ 999) ∧ (0 ≤ s.am ∧ s.am ≤ 100000000000) ∧ (0 ≤ s.rt ∧ s.rt ≤ 10000) ∧ (0 ≤ s.tot ∧ s.tot ≤ 100000000000) ∧ (0 ≤ s.tk ∧ s.tk ≤ 100000000000) ∧ (0 ≤ s.ar ∧ s.ar ≤ 100000000000) := by
  obtain ⟨h1, h2, h3⟩ := h
  obtain ⟨a, b, c, d, e, _⟩ := chkO_zero h1
  exact ⟨a, b, c, d, e, h2, h3⟩
theorem Sta.OK.lft_bd {s : Sta} (h : s.OK) : 0 ≤ s.lft ∧ s.lft ≤ 100000000000 := by
  have := h.nums
  unfold Sta.lft
  split
  · omega
  · split <;> omega
theorem Sta.OK.ord_bd {s : Sta} (h : s.OK) {n : Int} (hn : n ≤ 100000000000) : 0 ≤ s.ordX n ∧ s.ordX n ≤ 100000000000 ∧ s.ordX n ≤ s.lft := by
  have := h.lft_bd
  have := h.nums
  have := prt_bd hn (r := s.rt) (by omega) (by omega)
  unfold Sta.ordX
  split <;> omega
/-- orders served one by one: how much may still be taken ahead of the k-th -/
def rmX (g : Nat → Sta) (n r : Int) : Nat → Int
  | 0 => r
  | k + 1 => rmX g n r k - leI ((g k).dueX n) (rmX g n r k)
/-- what the k-th one takes -/
def tkX (g : Nat → Sta) (n r : Int) (k : Nat) : Int := leI ((g k).dueX n) (rmX g n r k)
theorem rmX_succ (g : Nat → Sta) (n r : Int) (k : Nat) : rmX g n r (k + 1) = rmX g n r k - tkX g n r k := rfl
/-- may all of the first ones be served? -/
def svB (g : Nat → Sta) (n : Int) : Nat → Bool
  | 0 => true
  | k + 1 => svB g n k && (g k).dueB n
theorem svB_mono {g : Nat → Sta} {n : Int} {k m : Nat} (hk : k ≤ m) (h : svB g n m = true) : svB g n k = true := by
  obtain ⟨d, rfl⟩ : ∃ d, m = k + d := ⟨m - k, by omega⟩
  induction d with
  | zero => exact h
  | succ d ih =>
    have h' : (svB g n (k + d) && (g (k + d)).dueB n) = true := h
    simp only [Bool.and_eq_true] at h'
    exact ih (by omega) h'.1
theorem svB_at {g : Nat → Sta} {n : Int} {k m : Nat} (hk : k < m) (h : svB g n m = true) : (g k).dueB n = true := by
  have h' : (svB g n k && (g k).dueB n) = true := svB_mono (k := k + 1) hk h
  simp only [Bool.and_eq_true] at h'
  exact h'.2
theorem dueB_yes {s : Sta} {n : Int} (h : s.dueB n = true) : n ≤ 100000000000 ∧ prt n s.rt + s.am ≤ 100000000000 ∧ s.dueX n ≤ 100000000000 := by
  simp only [Sta.dueB, Sta.ordB, Bool.and_eq_true, decide_eq_true_eq] at h
  exact ⟨h.1.1, h.1.2, h.2⟩
theorem rm_bd {g : Nat → Sta} {n r : Int} (hr : 0 ≤ r) : ∀ {k : Nat}, (∀ i, i < k → (g i).OK) → svB g n k = true → 0 ≤ rmX g n r k ∧ rmX g n r k ≤ r := by
  intro k
  induction k with
  | zero => intro _ _; exact ⟨hr, Int.le_refl _⟩
  | succ k ih =>
    intro hg h
    have hs := svB_mono (k := k) (by omega) h
    have hd := dueB_yes (svB_at (k := k) (by omega) h)
    obtain ⟨a, b⟩ := ih (fun i hi => hg i (by omega)) hs
    have ho := (hg k (by omega)).ord_bd hd.1
    have hn := (hg k (by omega)).nums
    have hx : (g k).dueX n = (g k).ordX n + (g k).ar := rfl
    show 0 ≤ rmX g n r k - leI ((g k).dueX n) (rmX g n r k) ∧ rmX g n r k - leI ((g k).dueX n) (rmX g n r k) ≤ r
    unfold leI
    split <;> omega
theorem tk_bd {g : Nat → Sta} {n r : Int} (hr : 0 ≤ r) {k : Nat} (hg : ∀ i, i < k + 1 → (g i).OK) (h : svB g n (k + 1) = true) : 0 ≤ tkX g n r k ∧ tkX g n r k ≤ rmX g n r k ∧ tkX g n r k ≤ (g k).dueX n ∧ (g k).dueX n ≤ 100000000000 ∧ (tkX g n r k = (g k).dueX n ∨ tkX g n r k = rmX g n r k) := by
  have hs := svB_mono (k := k) (by omega) h
  have hd := dueB_yes (svB_at (k := k) (by omega) h)
  have a := rm_bd hr (k := k) (fun i hi => hg i (by omega)) hs
  have ho := (hg k (by omega)).ord_bd hd.1
  have hn := (hg k (by omega)).nums
  have hx : (g k).dueX n = (g k).ordX n + (g k).ar := rfl
  unfold tkX leI
  split <;> omega
/-- what an order came to in a period -/
structure Tkn where
  o : Int
  b : Int
  r : Int
  d : Int
  t : Int
  c : Int
instance : Inhabited Tkn := ⟨⟨0, 0, 0, 0, 0, 0⟩⟩
def Tkn.F (x : Tkn) : Prop := fit x.o ∧ fit x.b ∧ fit x.r ∧ fit x.d ∧ fit x.t ∧ fit x.c
def svT (g : Nat → Sta) (n r : Int) (k : Nat) : Tkn := ⟨(g k).id, (g k).ar, (g k).ordX n, (g k).dueX n, tkX g n r k, (g k).dueX n - tkX g n r k⟩
/-- is one of the first ones short? -/
def shR (f : Nat → Tkn) : Nat → Bool
  | 0 => false
  | k + 1 => shR f k || decide ((f k).t < (f k).d)
def rtB (x : Tkn) (s : Bool) : Bool := decide (x.b + x.r = x.d) && decide (x.t + x.c = x.d) && decide (0 ≤ x.t) && !(s && decide (x.t ≠ 0))
/-- are the first ones what orders may have taken? -/
def okR (f : Nat → Tkn) : Nat → Bool
  | 0 => true
  | k + 1 => okR f k && rtB (f k) (shR f k)
theorem okR_stop {f : Nat → Tkn} {k n : Nat} (hk : k < n) (h : okR f (k + 1) = false) : okR f n = false := by
  obtain ⟨m, rfl⟩ : ∃ m, n = k + 1 + m := ⟨n - k - 1, by omega⟩
  induction m with
  | zero => exact h
  | succ m ih =>
    have := ih (by omega)
    show (okR f (k + 1 + m) && _) = false
    rw [this]; rfl
theorem short_no {g : Nat → Sta} {n r : Int} (hr : 0 ≤ r) : ∀ {k : Nat}, (∀ i, i < k → (g i).OK) → svB g n k = true → shR (svT g n r) k = true → rmX g n r k = 0 := by
  intro k
  induction k with
  | zero => intro _ _ h; cases h
  | succ k ih =>
    intro hg h hs
    have ht := tk_bd hr hg h
    have hs' : (shR (svT g n r) k || decide (tkX g n r k < (g k).dueX n)) = true := hs
    rw [rmX_succ]
    have a := rm_bd hr (k := k) (fun i hi => hg i (by omega)) (svB_mono (k := k) (by omega) h)
    cases hq : shR (svT g n r) k
    · rw [hq] at hs'
      simp only [Bool.false_or, decide_eq_true_eq] at hs'
      omega
    · have := ih (fun i hi => hg i (by omega)) (svB_mono (k := k) (by omega) h) hq
      omega
/-- what is served is right -/
theorem served_right {g : Nat → Sta} {n r : Int} (hr : 0 ≤ r) : ∀ {k : Nat}, (∀ i, i < k → (g i).OK) → svB g n k = true → okR (svT g n r) k = true := by
  intro k
  induction k with
  | zero => intro _ _; rfl
  | succ k ih =>
    intro hg h
    have ht := tk_bd hr hg h
    have hk := svB_mono (k := k) (by omega) h
    have hi := ih (fun i hi => hg i (by omega)) hk
    show (okR (svT g n r) k && rtB (svT g n r k) (shR (svT g n r) k)) = true
    rw [hi]
    have hx : (g k).dueX n = (g k).ordX n + (g k).ar := rfl
    have e1 : (svT g n r k).b + (svT g n r k).r = (svT g n r k).d := by show (g k).ar + (g k).ordX n = (g k).dueX n; omega
    have e2 : (svT g n r k).t + (svT g n r k).c = (svT g n r k).d := by show tkX g n r k + ((g k).dueX n - tkX g n r k) = (g k).dueX n; omega
    have e3 : 0 ≤ (svT g n r k).t := ht.1
    cases hq : shR (svT g n r) k
    · simp [rtB, e1, e2, e3]
    · have := short_no hr (fun i hi => hg i (by omega)) hk hq
      have e4 : (svT g n r k).t = 0 := by show tkX g n r k = 0; omega
      have e5 : (svT g n r k).c = (svT g n r k).d := by omega
      simp [rtB, e1, e4, e5]
/-- what the first ones took together -/
def sumT (f : Nat → Tkn) : Nat → Int
  | 0 => 0
  | k + 1 => sumT f k + (f k).t
theorem sum_served (g : Nat → Sta) (n r : Int) : ∀ k, sumT (svT g n r) k = r - rmX g n r k := by
  intro k
  induction k with
  | zero => simp [sumT, rmX]
  | succ k ih =>
    show sumT (svT g n r) k + tkX g n r k = _
    rw [ih, rmX_succ]; omega
end Go.Proofs.YthknjpmhomjobaaGreatDoor
