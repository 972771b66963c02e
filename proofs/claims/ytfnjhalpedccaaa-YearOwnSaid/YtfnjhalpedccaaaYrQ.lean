/- What a payslip that is posted leaves of a year in memory. -/
import Derived.Test.YtfnjhalpedccaaaYrK
namespace Go.Proofs.Ytfnjhalpedccaaa
open Go.RowKit Go.Sort
set_option linter.unusedVariables false
set_option linter.unusedSimpArgs false

theorem stAll_os {p : Nat} : ∀ (vals : List Value) (W : World) (o : Nat), (stAll W p o vals).os = W.os ∧ (stAll W p o vals).tape = W.tape ∧ (stAll W p o vals).output = W.output := by
  intro vals
  induction vals with
  | nil => intro W o; exact ⟨rfl, rfl, rfl⟩
  | cons v l ih => intro W o; exact ih (W.setCell ⟨p, o, none⟩ v) (o + 1)
/-- with one payslip more -/
def exG (g : Nat → Slp) (n : Nat) (s : Slp) (i : Nat) : Slp := if i < n then g i else s
theorem exG_lt {g : Nat → Slp} {n i : Nat} {s : Slp} (h : i < n) : exG g n s i = g i := if_pos h
theorem exG_at {g : Nat → Slp} {n : Nat} {s : Slp} : exG g n s n = s := if_neg (Nat.lt_irrefl n)
theorem exG_cells (g : Nat → Slp) (n : Nat) (s : Slp) : slc (exG g n s) (n + 1) = slc g n ++ s.cs := by
  show slc (exG g n s) n ++ (exG g n s n).cs = _
  rw [exG_at, slc_congr n fun i hi => exG_lt hi]
def addF (F : Nat → Prop) (w w' : World) (q : Nat) : Prop := F q ∨ (w.heap.size ≤ q ∧ q < w'.heap.size)
theorem shs_at {w : World} {A : Option Addr} {n : Nat} {X Y : Nat → Int} (h : w.ownsRow 0 53 2 (.slice A n 0) n (sh2 X Y n)) : Shs w A n X Y := shs_own h
theorem post_made {W w3 w6 w7 w9 wz : World} {p n cnt : Nat} {g : Nat → Slp} {t t' : Tot} {F : Nat → Prop} {A : Option Addr} {c : Nat} {B : Option Addr} {bc : Nat} {s : Slp} {A6 T6 : Option Addr} {c6 d6 bq g9 cap9 : Nat}
    (h3 : YOf w3 p n cnt g t F A c B bc) (hF : ∀ q, F q → q < W.heap.size) (h03 : Below W.heap.size W w3)
    (b36 : Below w3.heap.size w3 w6) (b67 : Below w6.heap.size w6 w7) (hg : w7.grownBy w9 (Value.slice A cnt c).ownBlock)
    (hown : w9.ownsRow 0 37 10 (.slice (some ⟨g9, 0, none⟩) (cnt + 1) cap9) (cnt + 1) (slc g cnt ++ (s.mv A6 c6 T6 d6).cs))
    (hat : (Value.slice A cnt c).ownBlock = some g9 ∨ g9 = w7.heap.size) (hlt9 : g9 < w9.heap.size)
    (hz : ∀ q, q ≠ p → wz.heap[q]? = w9.heap[q]?) (hzs : wz.heap.size = w9.heap.size) (hos : wz.os = w9.os ∧ wz.tape = w9.tape ∧ wz.output = w9.output)
    (Kz : Bx wz p 86 (.slice (some ⟨g9, 0, none⟩) (cnt + 1) cap9 :: t'.cs (some ⟨bq, 0, none⟩) n n))
    (HS : ShB w3 bq n t'.X t'.Y) (hbq : W.heap.size ≤ bq)
    (O1 : w6.ownsRow w3.heap.size 53 2 (.slice A6 s.n c6) s.n (sh2 s.X s.Y s.n)) (O2 : w6.ownsRow w3.heap.size 58 6 (.slice T6 s.m d6) s.m (tkc s.f s.m)) (hne : ∀ q, atB A6 q → ¬ atB T6 q) :
    YO wz p n (cnt + 1) (exG g cnt (s.mv A6 c6 T6 d6)) t' (addF F W wz) ∧ Chg F W wz := by
  have z03 := h03.size
  have z36 := b36.size
  have z67 := b67.size
  have z79 := hg.size
  have hpW : p < W.heap.size := hF p h3.fp
  have hAW : ∀ q, atB A q → q < W.heap.size := fun q hq => hF q (h3.fA q hq)
  have hblk : ∀ q, q < w3.heap.size → q ≠ p → ¬ atB A q → wz.heap[q]? = w3.heap[q]? := fun q hq hp hA => by
    rw [hz q hp, hg.block q (by omega) (fun e => hA (own_hb e.symm)), b67.block q (by omega), b36.block q hq]
  have hblk6 : ∀ q, w3.heap.size ≤ q → q < w6.heap.size → wz.heap[q]? = w6.heap[q]? := fun q h1 h2 => by
    rw [hz q (by omega), hg.block q (by omega) (fun e => by have := hAW q (own_hb e.symm); omega), b67.block q h2]
  have hlb := World.rowIs.lt HS
  have hg9p : g9 ≠ p := by
    rcases hat with e | e
    · exact fun e2 => h3.dA (by rw [← e2]; exact own_hb e)
    · omega
  have n1 := own_new (w := w3) (w' := w6) O1
  have n2 := own_new (w := w3) (w' := w6) O2
  have hg9 : F g9 ∨ (W.heap.size ≤ g9 ∧ g9 < wz.heap.size) := by
    rcases hat with e | e
    · exact .inl (h3.fA g9 (own_hb e))
    · exact .inr ⟨by omega, by omega⟩
  have hg9n : ∀ q, w3.heap.size ≤ q → q < w6.heap.size → q ≠ g9 := fun q h1 h2 => by
    rcases hat with e | e
    · have := hAW g9 (own_hb e); omega
    · omega
  have hs' : SlM w6 (s.mv A6 c6 T6 d6) := ⟨shs_own O1, tks_own O2, n1.2, n2.2⟩
  constructor
  · refine ⟨some ⟨g9, 0, none⟩, cap9, some ⟨bq, 0, none⟩, n, ?_⟩
    exact {
      K := Kz
      S := ShB.shs (show ShB wz bq n t'.X t'.Y from World.rowIs.of_block HS (hblk bq hlb (by omega) (fun e => by have := hAW bq e; omega)))
      sB := fun e => nomatch e
      O := by
        rw [exG_cells]
        exact own_blk hown fun q e => by
          obtain rfl : g9 = q := by simpa [Value.ownBlock] using e
          exact hz g9 hg9p
      M := fun i hi => by
        rcases Nat.lt_or_ge i cnt with hl | hl
        · rw [exG_lt hl]
          refine (h3.M i hl).blk fun q hq => hblk q (by have := hF q (h3.fg i hl q hq); omega) (h3.dg i hl q hq).1 (h3.dg i hl q hq).2
        · obtain rfl : i = cnt := by omega
          rw [exG_at]
          refine hs'.blk fun q hq => ?_
          rcases hq with hq | hq
          · exact hblk6 q (n1.1 q hq).1 (n1.1 q hq).2
          · exact hblk6 q (n2.1 q hq).1 (n2.1 q hq).2
      lt := fun q hq => by
        rcases hq with hq | hq
        · have := hF q hq; omega
        · exact hq.2
      fp := .inl h3.fp
      fB := fun q hq => by
        obtain rfl : bq = q := by simpa [atB] using hq
        exact .inr ⟨hbq, by omega⟩
      fA := fun q hq => by
        obtain rfl : g9 = q := by simpa [atB] using hq
        exact hg9
      fg := fun i hi q hq => by
        rcases Nat.lt_or_ge i cnt with hl | hl
        · rw [exG_lt hl] at hq
          exact .inl (h3.fg i hl q hq)
        · obtain rfl : i = cnt := by omega
          rw [exG_at] at hq
          rcases hq with hq | hq
          · have := n1.1 q hq; exact .inr ⟨by omega, by omega⟩
          · have := n2.1 q hq; exact .inr ⟨by omega, by omega⟩
      dB := fun e => by
        have : bq = p := by simpa [atB] using e
        omega
      dA := fun e => by
        have : g9 = p := by simpa [atB] using e
        exact hg9p this
      dAB := fun q h1 h2 => by
        obtain rfl : g9 = q := by simpa [atB] using h1
        have e2 : bq = g9 := by simpa [atB] using h2
        rcases hat with e | e
        · have := hAW g9 (own_hb e); omega
        · omega
      dg := fun i hi q hq => by
        rcases Nat.lt_or_ge i cnt with hl | hl
        · rw [exG_lt hl] at hq
          refine ⟨(h3.dg i hl q hq).1, fun e => ?_⟩
          obtain rfl : g9 = q := by simpa [atB] using e
          rcases hat with e | e
          · exact (h3.dg i hl g9 hq).2 (own_hb e)
          · have := hF g9 (h3.fg i hl g9 hq); omega
        · obtain rfl : i = cnt := by omega
          rw [exG_at] at hq
          have hq2 : w3.heap.size ≤ q ∧ q < w6.heap.size := by
            rcases hq with hq | hq
            · exact n1.1 q hq
            · exact n2.1 q hq
          refine ⟨by omega, fun e => ?_⟩
          obtain rfl : g9 = q := by simpa [atB] using e
          exact hg9n g9 hq2.1 hq2.2 rfl }
  · refine ⟨?_, ?_, ?_, by omega, fun q hq hf => ?_⟩
    · rw [hos.1, hg.os, b67.os, b36.os, h03.os]
    · rw [hos.2.1, hg.tape, b67.tape, b36.tape, h03.tape]
    · rw [hos.2.2, hg.output, b67.output, b36.output, h03.output]
    · rw [hblk q (by omega) (fun e => hf (e ▸ h3.fp)) (fun e => hf (h3.fA q e)), h03.block q hq]
end Go.Proofs.Ytfnjhalpedccaaa
