/- CodeForms: which texts are codes, form by form: no program in sight. -/
import Derived.Test.YtoppipjbdakmeaaDoorCodN
namespace Go.Proofs.YtoppipjbdakmeaaDoor
open Go.RowKit
set_option linter.unusedVariables false
set_option linter.unusedSimpArgs false

/-- no capital letter -/
def noAZ (l : List UInt8) : Prop := ∀ c, c ∈ l → ¬ ((65 : Int) ≤ (c.toNat : Int) ∧ (c.toNat : Int) ≤ 90)
def preF (s : Int) : List UInt8 := if 0 < s then [UInt8.ofNat (79 + s.toNat)] else []
def bodyF (k : Int) (l : List UInt8) : List UInt8 := if k = 0 then l ++ [76] else if k = 1 then 75 :: l else if k = 2 then 68 :: l else [78, 84]
def sufF (x : Bool) : List UInt8 := if x = true then [88] else []
theorem noAZ_last {l : List UInt8} (h : noAZ l) {c : UInt8} (hc : (65 : Int) ≤ (c.toNat : Int) ∧ (c.toNat : Int) ≤ 90) : l.getLast? ≠ some c := fun e => h c (List.mem_of_getLast? e) hc
theorem cons_last {d c : UInt8} {l : List UInt8} (h : noAZ l) (hc : (65 : Int) ≤ (c.toNat : Int) ∧ (c.toNat : Int) ≤ 90) (hd : d ≠ c) : (d :: l).getLast? ≠ some c := by
  cases l with
  | nil => simpa using hd
  | cons a r => rw [List.getLast?_cons_cons]; exact noAZ_last h hc
theorem body_last (k : Int) {l : List UInt8} (h : noAZ l) : bodyF k l ≠ [] ∧ (bodyF k l).getLast? ≠ some 88 := by
  unfold bodyF
  split
  · exact ⟨by simp, by simp⟩
  · split
    · exact ⟨by simp, cons_last h (by decide) (by decide)⟩
    · split
      · exact ⟨by simp, cons_last h (by decide) (by decide)⟩
      · exact ⟨by simp, by decide⟩
theorem cut_suf {B : List UInt8} (x : Bool) (hB : B.getLast? ≠ some 88) : cutX (B ++ sufF x) = B ∧ sufB 88 (B ++ sufF x) = x := by
  cases x
  · have : sufB 88 (B ++ []) = false := by
      unfold sufB
      rw [List.append_nil]
      simpa using hB
    show cutX (B ++ []) = B ∧ sufB 88 (B ++ []) = false
    refine ⟨?_, this⟩
    unfold cutX
    rw [this, List.append_nil]
    rfl
  · have : sufB 88 (B ++ [88]) = true := by simp [sufB]
    show cutX (B ++ [88]) = B ∧ sufB 88 (B ++ [88]) = true
    refine ⟨?_, this⟩
    unfold cutX
    rw [this]
    simp
theorem knd_body {k : Int} (h0 : 0 ≤ k) (h3 : k ≤ 3) {l : List UInt8} (h : noAZ l) :
    kndV (bodyF k l) = if k = 3 then (4, 0, true) else numV (k + 1) l := by
  rcases (show k = 0 ∨ k = 1 ∨ k = 2 ∨ k = 3 by omega) with rfl | rfl | rfl | rfl
  · have : sufB 76 (l ++ [76]) = true := by simp [sufB]
    show kndV (l ++ [76]) = numV 1 l
    unfold kndV
    rw [if_pos this]
    simp
  · have a : sufB 76 (75 :: l) = false := by
      unfold sufB
      simpa using cons_last (d := 75) (c := 76) h (by decide) (by decide)
    show kndV (75 :: l) = numV 2 l
    unfold kndV
    rw [a, show preB 75 (75 :: l) = true from rfl]
    rfl
  · have a : sufB 76 (68 :: l) = false := by
      unfold sufB
      simpa using cons_last (d := 68) (c := 76) h (by decide) (by decide)
    show kndV (68 :: l) = numV 3 l
    unfold kndV
    rw [a, show preB 75 (68 :: l) = false from rfl, show preB 68 (68 :: l) = true from rfl]
    rfl
  · rfl
theorem knd_ahead {k : Int} (h0 : 0 ≤ k) (h3 : k ≤ 3) {l : List UInt8} (h : noAZ l) (c : UInt8) (hc : c = 87 ∨ c = 88) :
    (kndV (c :: bodyF k l)).2.2 = false := by
  have nd : isDg c = false := by rcases hc with rfl | rfl <;> rfl
  have p75 : preB 75 (c :: bodyF k l) = false := by rcases hc with rfl | rfl <;> rfl
  have p68 : preB 68 (c :: bodyF k l) = false := by rcases hc with rfl | rfl <;> rfl
  have pnt : ((c :: bodyF k l) == [78, 84]) = false := by rcases hc with rfl | rfl <;> rfl
  rcases (show k = 0 ∨ (k = 1 ∨ k = 2 ∨ k = 3) by omega) with rfl | hk
  · have a : sufB 76 (c :: (l ++ [76])) = true := by
      unfold sufB
      rw [show c :: (l ++ [76]) = (c :: l) ++ [76] from rfl, List.getLast?_concat]
      rfl
    show (kndV (c :: (l ++ [76]))).2.2 = false
    unfold kndV
    rw [if_pos a, show c :: (l ++ [76]) = (c :: l) ++ [76] from rfl, List.dropLast_concat]
    have : numB (c :: l) = false := by
      cases hn : numB (c :: l)
      · rfl
      · have := (numB_yes hn).2.2.2
        simp [nd] at this
    unfold numV
    simp [this]
  · have a : sufB 76 (c :: bodyF k l) = false := by
      unfold sufB
      rcases hk with rfl | rfl | rfl
      · show ((c :: 75 :: l).getLast? == some 76) = false
        rw [List.getLast?_cons_cons]
        simpa using cons_last (d := 75) (c := 76) h (by decide) (by decide)
      · show ((c :: 68 :: l).getLast? == some 76) = false
        rw [List.getLast?_cons_cons]
        simpa using cons_last (d := 68) (c := 76) h (by decide) (by decide)
      · rfl
    unfold kndV
    rw [a, p75, p68, pnt]
    rfl
/-- the first byte of a body is no scheme's -/
theorem body_head (k : Int) {l : List UInt8} (h : noAZ l) (X : List UInt8) : ∃ c r, bodyF k l ++ X = c :: r ∧ ¬ ((80 : Int) ≤ (c.toNat : Int) ∧ (c.toNat : Int) ≤ 86) := by
  unfold bodyF
  split
  · cases l with
    | nil => exact ⟨76, _, rfl, by decide⟩
    | cons a r => exact ⟨a, r ++ [76] ++ X, rfl, fun q => h a (by simp) (by omega)⟩
  · split
    · exact ⟨75, _, rfl, by decide⟩
    · split
      · exact ⟨68, _, rfl, by decide⟩
      · exact ⟨78, _, rfl, by decide⟩
/-- what a form is read as -/
theorem par_form (s k : Int) (x : Bool) {l : List UInt8} (h : noAZ l) (s0 : 0 ≤ s) (s9 : s ≤ 9) (k0 : 0 ≤ k) (k3 : k ≤ 3) :
    parC (preF s ++ (bodyF k l ++ sufF x)) = if s ≤ 7 ∧ (k = 3 ∨ numB l = true) then mkC s (k + 1) (if k = 3 then 0 else numG 0 l) x else noC 5 := by
  obtain ⟨hne, hl⟩ := body_last k h
  have hK := knd_body k0 k3 h
  have hval : (kndV (bodyF k l)).2.2 = decide (k = 3 ∨ numB l = true) ∧ ((k = 3 ∨ numB l = true) → (kndV (bodyF k l)).1 = k + 1 ∧ (kndV (bodyF k l)).2.1 = if k = 3 then 0 else numG 0 l) := by
    rw [hK]
    by_cases e : k = 3
    · subst e
      simp
    · rw [if_neg e]
      unfold numV
      cases hn : numB l <;> simp [e]
  have core : ∀ q, schV (preF s ++ (bodyF k l ++ sufF x)) = (q, bodyF k l ++ sufF x) →
      parC (preF s ++ (bodyF k l ++ sufF x)) = if (k = 3 ∨ numB l = true) then mkC q (k + 1) (if k = 3 then 0 else numG 0 l) x else noC 5 := by
    intro q hq
    unfold parC
    rw [hq]
    obtain ⟨c1, c2⟩ := cut_suf x hl
    show (if (kndV (cutX (bodyF k l ++ sufF x))).2.2 = true then mkC q (kndV (cutX (bodyF k l ++ sufF x))).1 (kndV (cutX (bodyF k l ++ sufF x))).2.1 (sufB 88 (bodyF k l ++ sufF x)) else noC 5) = _
    rw [c1, c2, hval.1]
    by_cases e : k = 3 ∨ numB l = true
    · rw [if_pos e, if_pos (by simpa using e), (hval.2 e).1, (hval.2 e).2]
    · rw [if_neg e, if_neg (by simpa using e)]
  by_cases hs : s = 0
  · subst hs
    obtain ⟨c, r, hcr, hc⟩ := body_head k h (sufF x)
    rw [core 0 (by
      show schV (bodyF k l ++ sufF x) = _
      rw [hcr]
      exact if_neg hc)]
    simp
  · by_cases h7 : s ≤ 7
    · have hp : preF s = [UInt8.ofNat (79 + s.toNat)] := if_pos (by omega)
      have hn : ((UInt8.ofNat (79 + s.toNat)).toNat : Int) = 79 + s := by
        rw [UInt8.toNat_ofNat_of_lt' (by show 79 + s.toNat < 256; omega)]
        omega
      rw [core s (by
        rw [hp]
        show schV (UInt8.ofNat (79 + s.toNat) :: (bodyF k l ++ sufF x)) = _
        refine (if_pos (by omega)).trans ?_
        rw [hn, show 79 + s - 79 = s by omega])]
      simp [h7]
    · rw [if_neg (by omega)]
      have hp : ∃ c, preF s = [c] ∧ (c = 87 ∨ c = 88) := by
        rcases (show s = 8 ∨ s = 9 by omega) with rfl | rfl
        · exact ⟨87, rfl, .inl rfl⟩
        · exact ⟨88, rfl, .inr rfl⟩
      obtain ⟨c, hp, hc⟩ := hp
      have hq : schV (preF s ++ (bodyF k l ++ sufF x)) = (0, c :: bodyF k l ++ sufF x) := by
        rw [hp]
        show schV (c :: (bodyF k l ++ sufF x)) = _
        exact if_neg (by rcases hc with rfl | rfl <;> decide)
      have hl2 : (c :: bodyF k l).getLast? ≠ some 88 := by
        cases hb : bodyF k l with
        | nil => exact absurd hb hne
        | cons a r => rw [List.getLast?_cons_cons, ← hb]; exact hl
      unfold parC
      rw [hq]
      obtain ⟨c1, c2⟩ := cut_suf x hl2
      show (if (kndV (cutX (c :: bodyF k l ++ sufF x))).2.2 = true then _ else noC 5) = _
      rw [c1, knd_ahead k0 k3 h c hc]
      rfl
end Go.Proofs.YtoppipjbdakmeaaDoor
