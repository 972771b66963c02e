/- Payslips, and a year's, as they lie in memory. -/
import Derived.Test.YtfnjhalpedccaaaSlp
import Derived.Test.YtfnjhalpedccaaaOwnN
namespace Go.Proofs.Ytfnjhalpedccaaa
open Go.RowKit Go.Sort
set_option linter.unusedVariables false
set_option linter.unusedSimpArgs false

/-- nothing older has changed but what lies in F -/
structure Chg (F : Nat → Prop) (w w' : World) : Prop where
  os : w'.os = w.os
  tape : w'.tape = w.tape
  output : w'.output = w.output
  size : w.heap.size ≤ w'.heap.size
  block : ∀ q, q < w.heap.size → ¬ F q → w'.heap[q]? = w.heap[q]?
theorem Chg.of {F : Nat → Prop} {w w' : World} (h : Below w.heap.size w w') : Chg F w w' := ⟨h.os, h.tape, h.output, h.size, fun q hq _ => h.block q hq⟩
theorem Chg.below {F : Nat → Prop} {B : Nat} {w0 w w' : World} (h : Chg F w w') (h0 : Below B w0 w) (hB : B ≤ w.heap.size) (hF : ∀ q, F q → B ≤ q) : Below B w0 w' :=
  ⟨h.os.trans h0.os, h.tape.trans h0.tape, h.output.trans h0.output, Nat.le_trans h0.size h.size, fun q hq => (h.block q (by omega) (fun hf => by have := hF q hf; omega)).trans (h0.block q hq)⟩
theorem Chg.pre {F : Nat → Prop} {w w1 w2 : World} (h : Below w.heap.size w w1) (c : Chg F w1 w2) : Chg F w w2 :=
  ⟨c.os.trans h.os, c.tape.trans h.tape, c.output.trans h.output, Nat.le_trans h.size c.size, fun q hq hf => (c.block q (Nat.lt_of_lt_of_le hq h.size) hf).trans (h.block q hq)⟩
theorem Chg.post {F : Nat → Prop} {w w1 w2 : World} (c : Chg F w w1) (h : Below w1.heap.size w1 w2) : Chg F w w2 :=
  ⟨h.os.trans c.os, h.tape.trans c.tape, h.output.trans c.output, Nat.le_trans c.size h.size, fun q hq hf => (h.block q (Nat.lt_of_lt_of_le hq c.size)).trans (c.block q hq hf)⟩
theorem Chg.set {F : Nat → Prop} {w w1 : World} (c : Chg F w w1) {p : Nat} (hp : F p) (j : Nat) (v : Value) : Chg F w (w1.setCell ⟨p, j, none⟩ v) :=
  ⟨c.os, c.tape, c.output, by simpa [World.setCell] using c.size, fun q hq hf => (Go.Deep.blk_setCell_other _ _ _ _ (by show q ≠ p; rintro rfl; exact hf hp)).trans (c.block q hq hf)⟩
/-- the block of an address -/
def atB (A : Option Addr) (q : Nat) : Prop := A.map Addr.block = some q
theorem shs_blk {w w' : World} {A : Option Addr} {n : Nat} {X Y : Nat → Int} (h : Shs w A n X Y) (hq : ∀ q, atB A q → w'.heap[q]? = w.heap[q]?) : Shs w' A n X Y := fun hn => by
  obtain ⟨b, o, rfl, hc⟩ := h hn
  have e := hq b rfl
  exact ⟨b, o, rfl, fun i hi => ⟨(World.cell?_of_block e).trans (hc i hi).1, (World.cell?_of_block e).trans (hc i hi).2⟩⟩
theorem tks_blk {w w' : World} {A : Option Addr} {n : Nat} {f : Nat → Tkn} (h : Tks w A n f) (hq : ∀ q, atB A q → w'.heap[q]? = w.heap[q]?) : Tks w' A n f := fun hn => by
  obtain ⟨b, o, rfl, hc⟩ := h hn
  have e := hq b rfl
  refine ⟨b, o, rfl, fun i hi => ?_⟩
  obtain ⟨c0, c1, c2, c3, c4, c5⟩ := hc i hi
  exact ⟨(World.cell?_of_block e).trans c0, (World.cell?_of_block e).trans c1, (World.cell?_of_block e).trans c2, (World.cell?_of_block e).trans c3, (World.cell?_of_block e).trans c4, (World.cell?_of_block e).trans c5⟩
/-- a payslip's lists, wherever they lie -/
structure SlM (W : World) (s : Slp) : Prop where
  sh : Shs W s.A s.n s.X s.Y
  tk : Tks W s.T s.m s.f
  sa : s.A = none → s.c = 0
  ta : s.T = none → s.d = 0
def Slp.at_ (s : Slp) (q : Nat) : Prop := atB s.A q ∨ atB s.T q
theorem SlM.below {W W' : World} {s : Slp} (h : SlM W s) (hb : Below W.heap.size W W') : SlM W' s := ⟨h.sh.below hb, h.tk.below hb, h.sa, h.ta⟩
theorem SlM.blk {W W' : World} {s : Slp} (h : SlM W s) (hq : ∀ q, s.at_ q → W'.heap[q]? = W.heap[q]?) : SlM W' s := ⟨shs_blk h.sh fun q h => hq q (.inl h), tks_blk h.tk fun q h => hq q (.inr h), h.sa, h.ta⟩
/-- the cells of the first ones -/
def slc (g : Nat → Slp) : Nat → List Value
  | 0 => []
  | n + 1 => slc g n ++ (g n).cs
theorem slc_len (g : Nat → Slp) (n : Nat) : (slc g n).length = n * 10 := by
  induction n with
  | zero => rfl
  | succ n ih => simp [slc, ih, Slp.cs]; omega
theorem slc_get (g : Nat → Slp) {n i j : Nat} (hi : i < n) (hj : j < 10) : (slc g n)[i * 10 + j]? = (g i).cs[j]? := by
  induction n with
  | zero => omega
  | succ n ih =>
    show (slc g n ++ (g n).cs)[i * 10 + j]? = _
    by_cases h : i < n
    · rw [List.getElem?_append_left (by rw [slc_len]; omega)]; exact ih h
    · obtain rfl : i = n := by omega
      rw [List.getElem?_append_right (by rw [slc_len]; omega), slc_len, show i * 10 + j - i * 10 = j by omega]
theorem slc_congr {g g' : Nat → Slp} : ∀ n, (∀ i, i < n → g i = g' i) → slc g n = slc g' n := by
  intro n
  induction n with
  | zero => intro _; rfl
  | succ n ih =>
    intro h
    show slc g n ++ (g n).cs = slc g' n ++ (g' n).cs
    rw [ih (fun i hi => h i (by omega)), h n (by omega)]
theorem slc_one (g : Nat → Slp) (n : Nat) : ∀ v ∈ slc g n, v.oneCell' = true := by
  induction n with
  | zero => intro v hv; cases hv
  | succ n ih =>
    intro v hv
    rcases List.mem_append.1 (show v ∈ slc g n ++ (g n).cs from hv) with h | h
    · exact ih v h
    · simp [Slp.cs] at h
      rcases h with rfl | rfl | rfl | rfl | rfl | rfl | rfl | rfl | rfl | rfl <;> rfl
/-- a payslip lies there -/
def SlAt (W : World) (b o : Nat) (s : Slp) : Prop := ∀ j v, s.cs[j]? = some v → W.cell? ⟨b, o + j, none⟩ = some v
theorem SlAt.below {W W' : World} {b o : Nat} {s : Slp} (h : SlAt W b o s) (hb : Below W.heap.size W W') : SlAt W' b o s := fun j v hv => cell_later hb (h j v hv)
theorem SlAt.all {W : World} {b o : Nat} {s : Slp} (h : SlAt W b o s) : W.cell? ⟨b, o, none⟩ = some (.int .i64 s.k) ∧ W.cell? ⟨b, o + 1, none⟩ = some (.int .i64 s.ca) ∧ W.cell? ⟨b, o + 2, none⟩ = some (.int .i64 s.tb) ∧ W.cell? ⟨b, o + 3, none⟩ = some (.int .i64 s.so) ∧ W.cell? ⟨b, o + 4, none⟩ = some (.int .i64 s.tx) ∧ W.cell? ⟨b, o + 5, none⟩ = some (.int .i64 s.sf) ∧ W.cell? ⟨b, o + 6, none⟩ = some (.slice s.A s.n s.c) ∧ W.cell? ⟨b, o + 7, none⟩ = some (.int .i64 s.net) ∧ W.cell? ⟨b, o + 8, none⟩ = some (.slice s.T s.m s.d) ∧ W.cell? ⟨b, o + 9, none⟩ = some (.int .i64 s.pay) :=
  ⟨h 0 _ rfl, h 1 _ rfl, h 2 _ rfl, h 3 _ rfl, h 4 _ rfl, h 5 _ rfl, h 6 _ rfl, h 7 _ rfl, h 8 _ rfl, h 9 _ rfl⟩
/-- a slice's payslips, wherever they lie -/
def Sls (W : World) (A : Option Addr) (n : Nat) (g : Nat → Slp) : Prop := 0 < n → ∃ b o, A = some ⟨b, o, none⟩ ∧ ∀ i, i < n → SlAt W b (o + i * 10) (g i) ∧ SlM W (g i)
theorem Sls.below {W W' : World} {A : Option Addr} {n : Nat} {g : Nat → Slp} (h : Sls W A n g) (hb : Below W.heap.size W W') : Sls W' A n g := fun hn => by
  obtain ⟨b, o, e, hc⟩ := h hn
  exact ⟨b, o, e, fun i hi => ⟨(hc i hi).1.below hb, (hc i hi).2.below hb⟩⟩
/-- a row of the call's own is kept where its block is -/
theorem own_blk {w w' : World} {B n size : Nat} {e : TypeId} {v : Value} {xs : List Value} (h : w.ownsRow B e size v n xs) (hq : ∀ q, v.ownBlock = some q → w'.heap[q]? = w.heap[q]?) : w'.ownsRow B e size v n xs := by
  obtain ⟨hl, h | ⟨g, cap, cur, hv, hg, hh, h1, h2, h3, h4⟩⟩ := h
  · exact ⟨hl, .inl h⟩
  · exact ⟨hl, .inr ⟨g, cap, cur, hv, hg, (hq g (by rw [hv]; rfl)).trans hh, h1, h2, h3, h4⟩⟩
theorem sl_own {w : World} {B n c : Nat} {A : Option Addr} {g : Nat → Slp} (h : w.ownsRow B 37 10 (.slice A n c) n (slc g n)) {i : Nat} (hi : i < n) : ∃ b, A = some ⟨b, 0, none⟩ ∧ SlAt w b (i * 10) (g i) := by
  obtain ⟨A', c', e, hA, hg⟩ := own_len h
  obtain ⟨b, rfl⟩ := hg (by omega)
  obtain ⟨rfl, _, rfl⟩ := Value.slice.inj e
  refine ⟨b, rfl, fun j v hv => ?_⟩
  have hj : j < 10 := (List.getElem?_eq_some_iff.1 hv).1
  exact own_cells h ((slc_get g hi hj).trans hv)
end Go.Proofs.Ytfnjhalpedccaaa
