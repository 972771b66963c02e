/- Payslips as plain numbers: whether one hangs together, and what some come to. -/
import Derived.Test.YtfnjhalpedccaaaOrdM
import Derived.Test.YtfnjhalpedccaaaSocE
namespace Go.Proofs.Ytfnjhalpedccaaa
open Go.RowKit Go.Sort
set_option linter.unusedVariables false
set_option linter.unusedSimpArgs false

/-- a payslip: its numbers, and where its lists lie -/
structure Slp where
  k : Int
  ca : Int
  tb : Int
  so : Int
  tx : Int
  sf : Int
  A : Option Addr
  n : Nat
  c : Nat
  net : Int
  T : Option Addr
  m : Nat
  d : Nat
  pay : Int
  X : Nat → Int
  Y : Nat → Int
  f : Nat → Tkn
instance : Inhabited Slp := ⟨⟨0, 0, 0, 0, 0, 0, none, 0, 0, 0, none, 0, 0, 0, fun _ => 0, fun _ => 0, fun _ => default⟩⟩
def Slp.cs (s : Slp) : List Value := [.int .i64 s.k, .int .i64 s.ca, .int .i64 s.tb, .int .i64 s.so, .int .i64 s.tx, .int .i64 s.sf, .slice s.A s.n s.c, .int .i64 s.net, .slice s.T s.m s.d, .int .i64 s.pay]
/-- may what the first ones took be put together? -/
def okS (f : Nat → Tkn) : Nat → Bool
  | 0 => true
  | k + 1 => okS f k && (amtB (f k).t && amtB (sumT f k + (f k).t))
theorem okS_amt {f : Nat → Tkn} {k : Nat} (h : okS f k = true) : amtB (sumT f k) = true := by
  cases k with
  | zero => rfl
  | succ k =>
    simp only [okS, Bool.and_eq_true] at h
    exact h.2.2
theorem okS_stop {f : Nat → Tkn} {k n : Nat} (hk : k < n) (h : okS f (k + 1) = false) : okS f n = false := by
  obtain ⟨m, rfl⟩ : ∃ m, n = k + 1 + m := ⟨n - k - 1, by omega⟩
  induction m with
  | zero => exact h
  | succ m ih =>
    have := ih (by omega)
    show (okS f (k + 1 + m) && _) = false
    rw [this]; rfl
theorem okS_mono {f : Nat → Tkn} {k n : Nat} (hk : k ≤ n) (h : okS f n = true) : okS f k = true := by
  cases hq : okS f k
  · rcases Nat.lt_or_ge k n with hl | hl
    · cases k with
      | zero => cases hq
      | succ k => rw [okS_stop (by omega) hq] at h; cases h
    · obtain rfl : k = n := by omega
      rw [h] at hq; cases hq
  · rfl
theorem okS_at {f : Nat → Tkn} {k n : Nat} (hk : k < n) (h : okS f n = true) : amtB (f k).t = true ∧ amtB (sumT f k + (f k).t) = true := by
  have := okS_mono (k := k + 1) hk h
  simp only [okS, Bool.and_eq_true] at this
  exact this.2
/-- may its amounts be? -/
def Slp.amB (s : Slp) : Bool := (amtB s.ca && amtB s.tb && amtB s.so) && (amtB s.tx && amtB s.sf && amtB s.net && amtB s.pay)
/-- what is wrong with a payslip of so many contributions -/
def Slp.chk (s : Slp) (n : Int) : Int :=
  if s.k < 1 ∨ 53 < s.k then 1
  else if (s.n : Int) ≠ n then 3
  else if okT s.X s.Y s.n = false then 10
  else if s.amB = false then 10
  else if okS s.f s.m = false then 10
  else if s.net = s.ca - s.tx - tsm s.X s.n ∧ s.pay = s.net - sumT s.f s.m then 0
  else 5
structure Slp.OK (s : Slp) (n : Nat) : Prop where
  kb : 1 ≤ s.k ∧ s.k ≤ 53
  n : s.n = n
  t : okT s.X s.Y s.n = true
  am : s.amB = true
  o : okS s.f s.m = true
  net : s.net = s.ca - s.tx - tsm s.X s.n
  pay : s.pay = s.net - sumT s.f s.m
theorem Slp.ok_of {s : Slp} {n : Nat} (h : s.chk n = 0) : s.OK n := by
  unfold Slp.chk at h
  by_cases h1 : s.k < 1 ∨ 53 < s.k
  · rw [if_pos h1] at h; omega
  rw [if_neg h1] at h
  by_cases h2 : (s.n : Int) ≠ n
  · rw [if_pos h2] at h; omega
  rw [if_neg h2] at h
  by_cases h3 : okT s.X s.Y s.n = false
  · rw [if_pos h3] at h; omega
  rw [if_neg h3] at h
  by_cases h4 : s.amB = false
  · rw [if_pos h4] at h; omega
  rw [if_neg h4] at h
  by_cases h5 : okS s.f s.m = false
  · rw [if_pos h5] at h; omega
  rw [if_neg h5] at h
  by_cases h6 : s.net = s.ca - s.tx - tsm s.X s.n ∧ s.pay = s.net - sumT s.f s.m
  · exact ⟨by omega, by omega, by simpa using h3, by simpa using h4, by simpa using h5, h6.1, h6.2⟩
  · rw [if_neg h6] at h; omega
theorem Slp.OK.chk {s : Slp} {n : Nat} (h : s.OK n) : s.chk n = 0 := by
  obtain ⟨h1, h2, h3, h4, h5, h6, h7⟩ := h
  unfold Slp.chk
  rw [if_neg (by omega), if_neg (by omega), if_neg (by rw [h3]; decide), if_neg (by rw [h4]; decide), if_neg (by rw [h5]; decide), if_pos ⟨h6, h7⟩]
/-- what some come to together -/
structure Tot where
  ca : Int
  tb : Int
  so : Int
  tx : Int
  sf : Int
  X : Nat → Int
  Y : Nat → Int
  net : Int
  tk : Int
  pay : Int
def Tot.z : Tot := ⟨0, 0, 0, 0, 0, fun _ => 0, fun _ => 0, 0, 0, 0⟩
def Tot.cs (t : Tot) (A : Option Addr) (n c : Nat) : List Value := [.int .i64 t.ca, .int .i64 t.tb, .int .i64 t.so, .int .i64 t.tx, .int .i64 t.sf, .slice A n c, .int .i64 t.net, .int .i64 t.tk, .int .i64 t.pay]
/-- with one more -/
def Tot.add (t : Tot) (s : Slp) : Tot := ⟨t.ca + s.ca, t.tb + s.tb, t.so + s.so, t.tx + s.tx, s.sf, fun i => t.X i + s.X i, fun i => t.Y i + s.Y i, t.net + s.net, t.tk + sumT s.f s.m, t.pay + s.pay⟩
/-- may all but the contributions be? -/
def Tot.amB (t : Tot) : Bool := (amtB t.ca && amtB t.tb && amtB t.so) && (amtB t.tx && amtB t.net && amtB t.tk && amtB t.pay)
/-- may the contributions be? -/
def Tot.shB (t : Tot) (n : Nat) : Bool := (List.range n).all fun i => amtB (t.X i) && amtB (t.Y i)
def Tot.rB (t : Tot) (n : Nat) : Bool := t.amB && t.shB n
theorem shB_at {t : Tot} {n i : Nat} (h : t.shB n = true) (hi : i < n) : amtB (t.X i) = true ∧ amtB (t.Y i) = true := by
  unfold Tot.shB at h
  rw [List.all_eq_true] at h
  simpa using h i (List.mem_range.2 hi)
theorem z_rB (n : Nat) : Tot.z.rB n = true := by
  have h1 : Tot.z.amB = true := by decide +kernel
  have h2 : Tot.z.shB n = true := by
    unfold Tot.shB
    rw [List.all_eq_true]
    intro i _
    rfl
  unfold Tot.rB
  rw [h1, h2]; rfl
end Go.Proofs.Ytfnjhalpedccaaa
