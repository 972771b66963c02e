/- Codes as texts, whole: there and back, and with bytes beside them: no program in sight. -/
import Derived.Test.YtoppipjbdakmeaaDoorCodM
namespace Go.Proofs.YtoppipjbdakmeaaDoor
open Go.RowKit
set_option linter.unusedVariables false
set_option linter.unusedSimpArgs false

def xT (x : Bool) : List UInt8 := if x = true then [88] else []
theorem sch_byte {s : Int} (h : 0 < s) (h' : s ≤ 7) : ((UInt8.ofNat (79 + s.toNat)).toNat : Int) = 79 + s := by
  rw [UInt8.toNat_ofNat']; omega
theorem sch_of {s : Int} (h : 0 < s) (h' : s ≤ 7) (l : List UInt8) : schV (schT s ++ l) = (s, l) := by
  have hb := sch_byte h h'
  unfold schT
  rw [if_pos h]
  show (if 80 ≤ ((UInt8.ofNat (79 + s.toNat)).toNat : Int) ∧ ((UInt8.ofNat (79 + s.toNat)).toNat : Int) ≤ 86 then (((UInt8.ofNat (79 + s.toNat)).toNat : Int) - 79, l) else (0, UInt8.ofNat (79 + s.toNat) :: l)) = (s, l)
  rw [hb, if_pos (by omega)]
  congr 1
  omega
theorem sch_no {c : UInt8} {r : List UInt8} (h : ¬ (80 ≤ (c.toNat : Int) ∧ (c.toNat : Int) ≤ 86)) : schV (c :: r) = (0, c :: r) := by
  show (if 80 ≤ (c.toNat : Int) ∧ (c.toNat : Int) ≤ 86 then ((c.toNat : Int) - 79, r) else (0, c :: r)) = _
  rw [if_neg h]
theorem sch_yes {c : UInt8} {r : List UInt8} (h : 80 ≤ (c.toNat : Int) ∧ (c.toNat : Int) ≤ 86) : schV (c :: r) = ((c.toNat : Int) - 79, r) := by
  show (if 80 ≤ (c.toNat : Int) ∧ (c.toNat : Int) ≤ 86 then ((c.toNat : Int) - 79, r) else (0, c :: r)) = _
  rw [if_pos h]
theorem sch_back (l : List UInt8) : schT (schV l).1 ++ (schV l).2 = l := by
  cases l with
  | nil => rfl
  | cons c r =>
    by_cases h : 80 ≤ (c.toNat : Int) ∧ (c.toNat : Int) ≤ 86
    · rw [sch_yes h]
      show schT ((c.toNat : Int) - 79) ++ r = c :: r
      unfold schT
      rw [if_pos (by omega)]
      have : UInt8.ofNat (79 + ((c.toNat : Int) - 79).toNat) = c := by
        apply UInt8.toNat_inj.1
        rw [UInt8.toNat_ofNat']
        omega
      rw [this]
      rfl
    · rw [sch_no h]
      rfl
theorem schV_le (l : List UInt8) : 0 ≤ (schV l).1 ∧ (schV l).1 ≤ 7 := by
  cases l with
  | nil => simp [schV]
  | cons c r =>
    by_cases h : 80 ≤ (c.toNat : Int) ∧ (c.toNat : Int) ≤ 86
    · rw [sch_yes h]; simp only; omega
    · rw [sch_no h]; simp
theorem cut_x (t : List UInt8) (x : Bool) (h : sufB 88 t = false) : sufB 88 (t ++ xT x) = x ∧ cutX (t ++ xT x) = t := by
  cases x
  · have e : t ++ xT false = t := by simp [xT]
    rw [e]
    refine ⟨h, ?_⟩
    unfold cutX
    rw [h, if_neg (by simp)]
  · show sufB 88 (t ++ [88]) = true ∧ cutX (t ++ [88]) = t
    have hs : sufB 88 (t ++ [88]) = true := by rw [sufB_app]; decide
    refine ⟨hs, ?_⟩
    unfold cutX
    rw [hs, if_pos rfl, List.dropLast_concat]
theorem x_back (l : List UInt8) : cutX l ++ xT (sufB 88 l) = l := by
  unfold cutX xT
  cases h : sufB 88 l
  · simp
  · rw [if_pos rfl, if_pos rfl, ← sufB_yes h]
theorem txtC_of {s k a f : Int} {x : Bool} (h : chkC s k a f = 0) : txtC s k a f x = schT s ++ (kndT k a f ++ xT x) := by
  unfold txtC; rw [if_pos h, List.append_assoc]; rfl
theorem chk_back {s k a f : Int} (h : chkC s k a f = 0) : a = (if k = 3 then 0 else (if k = 3 then f else a / 1000) * 1000) ∧ f = (if k = 3 then (if k = 3 then f else a / 1000) else 0) := by
  obtain ⟨_, _, hf⟩ := chkC_zero h
  rcases fitB_yes hf with ⟨rfl, a0, a9, am, rfl⟩ | ⟨rfl, a0, a9, am, rfl⟩ | ⟨rfl, rfl, f0, f7⟩ | ⟨rfl, rfl, rfl⟩
  · simp; omega
  · simp; omega
  · simp
  · simp
theorem mkC_back {s k a f : Int} {x : Bool} (h : chkC s k a f = 0) : mkC s k (if k = 3 then f else a / 1000) x = ⟨s, k, a, f, x, 0⟩ := by
  obtain ⟨e1, e2⟩ := chk_back h
  unfold mkC
  rw [← e1, ← e2, if_pos h]
/-- a text behind a scheme, or none -/
theorem par_of {s : Int} {t : List UInt8} {l : List UInt8} (hs : schV l = (s, t)) : parC l = if (kndV (cutX t)).2.2 = true then mkC s (kndV (cutX t)).1 (kndV (cutX t)).2.1 (sufB 88 t) else noC 5 := by
  unfold parC; rw [hs]
theorem sch_txt {s k a f : Int} {x : Bool} (h : chkC s k a f = 0) (m : List UInt8) : schV (txtC s k a f x ++ m) = (s, kndT k a f ++ xT x ++ m) := by
  obtain ⟨s0, s7, hf⟩ := chkC_zero h
  obtain ⟨hx, hn, c, r, hc, hb⟩ := knd_ends hf
  rw [txtC_of h, List.append_assoc]
  by_cases h0 : 0 < s
  · rw [sch_of h0 s7]
  · obtain rfl : s = 0 := by omega
    have : schT 0 = [] := rfl
    rw [this, List.nil_append, hc]
    exact sch_no hb
theorem par_txt {s k a f : Int} {x : Bool} (h : chkC s k a f = 0) : parC (txtC s k a f x) = ⟨s, k, a, f, x, 0⟩ := by
  obtain ⟨s0, s7, hf⟩ := chkC_zero h
  obtain ⟨hx, _⟩ := knd_ends hf
  have hs := sch_txt (x := x) h []
  rw [List.append_nil, List.append_nil] at hs
  obtain ⟨c1, c2⟩ := cut_x _ x hx
  rw [par_of hs, c1, c2, knd_back hf, if_pos rfl, mkC_back h]
theorem mkC_cases (s k n : Int) (x : Bool) : ∃ a f : Int, a = (if k = 3 then 0 else n * 1000) ∧ f = (if k = 3 then n else 0) ∧ ((chkC s k a f = 0 ∧ mkC s k n x = ⟨s, k, a, f, x, 0⟩) ∨ (chkC s k a f ≠ 0 ∧ mkC s k n x = noC (chkC s k a f))) := by
  refine ⟨_, _, rfl, rfl, ?_⟩
  unfold mkC
  by_cases h : chkC s k (if k = 3 then 0 else n * 1000) (if k = 3 then n else 0) = 0
  · rw [if_pos h]; exact .inl ⟨h, rfl⟩
  · rw [if_neg h]; exact .inr ⟨h, rfl⟩
theorem par_cases (l : List UInt8) : ((kndV (cutX (schV l).2)).2.2 = false ∧ parC l = noC 5) ∨ ∃ k n, kndV (cutX (schV l).2) = (k, n, true) ∧ parC l = mkC (schV l).1 k n (sufB 88 (schV l).2) := by
  unfold parC
  obtain ⟨⟨k, n, b⟩, hv⟩ : ∃ v, kndV (cutX (schV l).2) = v := ⟨_, rfl⟩
  rw [hv]
  cases b
  · exact .inl ⟨rfl, rfl⟩
  · exact .inr ⟨k, n, rfl, rfl⟩
theorem txt_par {l : List UInt8} {s k a f : Int} {x : Bool} (h : parC l = ⟨s, k, a, f, x, 0⟩) : chkC s k a f = 0 ∧ txtC s k a f x = l := by
  rcases par_cases l with ⟨_, e⟩ | ⟨k', n', hv, e⟩
  · rw [e] at h; simp [noC] at h
  · rw [e] at h
    obtain ⟨a', f', ha, hf, ⟨hc, em⟩ | ⟨hc, em⟩⟩ := mkC_cases (schV l).1 k' n' (sufB 88 (schV l).2)
    · rw [em] at h
      simp only [CV.mk.injEq] at h
      obtain ⟨rfl, rfl, rfl, rfl, rfl, _⟩ := h
      refine ⟨hc, ?_⟩
      rw [txtC_of hc, ha, hf, (knd_forth hv).2, x_back, sch_back]
    · rw [em] at h
      simp only [noC, CV.mk.injEq] at h
      exact absurd h.2.2.2.2.2 hc
theorem par_err (l : List UInt8) : (∃ s k a f x, parC l = ⟨s, k, a, f, x, 0⟩) ∨ parC l = noC 5 ∨ parC l = noC 80 := by
  rcases par_cases l with ⟨_, e⟩ | ⟨k, n, hv, e⟩
  · exact .inr (.inl e)
  · obtain ⟨a, f, ha, hf, ⟨hc, em⟩ | ⟨hc, em⟩⟩ := mkC_cases (schV l).1 k n (sufB 88 (schV l).2)
    · exact .inl ⟨_, _, _, _, _, e.trans em⟩
    · refine .inr (.inr (e.trans (em.trans ?_)))
      obtain ⟨s0, s7⟩ := schV_le l
      have : chkC (schV l).1 k a f = 80 := by
        unfold chkC at hc ⊢
        rw [if_neg (by omega)] at hc ⊢
        by_cases hq : fitB k a f = true
        · rw [if_pos hq] at hc; exact absurd rfl hc
        · rw [if_neg hq]
      rw [this]
theorem numV_bad {k : Int} {l : List UInt8} (h : numB l = false) : (numV k l).2.2 = false := by unfold numV; rw [if_neg (by simp [h])]
theorem numB_last {c : UInt8} {l : List UInt8} (h : l = [] ∨ sufB c l = true) (hc : isDg c = false) : numB l = false := by
  rcases h with rfl | h
  · rfl
  · unfold numB
    have : l.all isDg = false := by
      rw [sufB_yes h, List.all_append]
      simp [hc]
    rw [this]; simp
/-- what ends in no byte of a code is no kind -/
theorem knd_last {c : UInt8} (t : List UInt8) (hc : isDg c = false) (h1 : c ≠ 76) (h2 : c ≠ 84) : (kndV (t ++ [c])).2.2 = false := by
  unfold kndV
  have hs : sufB 76 (t ++ [c]) = false := by rw [sufB_app]; simpa using h1
  have ht : (t ++ [c]).tail = [] ∨ sufB c (t ++ [c]).tail = true := by
    cases t with
    | nil => exact .inl rfl
    | cons d r => right; show sufB c (r ++ [c]) = true; rw [sufB_app]; simp
  rw [hs, if_neg (by simp)]
  split
  · exact numV_bad (numB_last ht hc)
  · split
    · exact numV_bad (numB_last ht hc)
    · simp only
      cases hq : (t ++ [c] == [78, 84])
      · rfl
      · have := beq_iff_eq.1 hq
        have := congrArg List.getLast? this
        simp at this
        exact absurd this h2
/-- what begins with no byte of a kind is none -/
theorem knd_first {c : UInt8} (r : List UInt8) (hc : isDg c = false) (h1 : c ≠ 76) (h2 : c ≠ 75) (h3 : c ≠ 68) (h4 : c ≠ 78) : (kndV (c :: r)).2.2 = false := by
  unfold kndV
  rw [preB_cons, preB_cons]
  split
  · rename_i hs
    refine numV_bad ?_
    cases r with
    | nil => unfold sufB at hs; simp at hs; exact absurd hs h1
    | cons d r =>
      have : (c :: d :: r).dropLast = c :: (d :: r).dropLast := rfl
      rw [this]
      unfold numB
      simp [hc]
  · rw [if_neg (by simpa using h2), if_neg (by simpa using h3)]
    simp [h4]
theorem par_x {l : List UInt8} {s k a f : Int} {x : Bool} (h : parC l = ⟨s, k, a, f, x, 0⟩) : sufB 88 l = x ∧ (∃ c : CV, parC (l ++ [88]) = c ∧ (c.e = if x = true then 5 else 0)) := by
  obtain ⟨hc, ht⟩ := txt_par h
  obtain ⟨s0, s7, hf⟩ := chkC_zero hc
  obtain ⟨hx, hn, _⟩ := knd_ends hf
  refine ⟨?_, _, rfl, ?_⟩
  · rw [← ht, txtC_of hc]
    cases x
    · have e : kndT k a f ++ xT false = kndT k a f := by simp [xT]
      rw [e]
      by_cases h0 : 0 < s
      · unfold schT
        rw [if_pos h0]
        show sufB 88 (_ :: kndT k a f) = false
        rw [sufB_cons hn, hx]
      · have : schT s = [] := by unfold schT; rw [if_neg h0]
        rw [this]
        exact hx
    · show sufB 88 (schT s ++ (kndT k a f ++ [88])) = true
      rw [← List.append_assoc, sufB_app]
      decide
  · cases x
    · have e : l ++ [88] = txtC s k a f true := by
        rw [← ht, txtC_of hc, txtC_of hc]
        simp [xT]
      rw [e, par_txt hc]
      rfl
    · have hs := sch_txt (x := true) hc [88]
      rw [ht] at hs
      have hs2 : schV (l ++ [88]) = (s, (kndT k a f ++ [88]) ++ [88]) := hs
      rw [par_of hs2]
      have hcx : cutX ((kndT k a f ++ [88]) ++ [88]) = kndT k a f ++ [88] := by
        unfold cutX
        rw [sufB_app, if_pos (by decide), List.dropLast_concat]
      rw [hcx, knd_last _ (by decide) (by decide) (by decide), if_neg (by simp)]
      rfl
theorem par_blank {l : List UInt8} {s k a f : Int} {x : Bool} (h : parC l = ⟨s, k, a, f, x, 0⟩) : parC (l ++ [32]) = noC 5 := by
  obtain ⟨hc, ht⟩ := txt_par h
  have hs := sch_txt (x := x) hc [32]
  rw [ht] at hs
  rw [par_of hs]
  have hcx : cutX (kndT k a f ++ xT x ++ [32]) = kndT k a f ++ xT x ++ [32] := by
    unfold cutX
    rw [sufB_app, if_neg (by decide)]
  rw [hcx, knd_last _ (by decide) (by decide) (by decide), if_neg (by simp)]
theorem par_P {c : UInt8} {r : List UInt8} {s k a f : Int} {x : Bool} (h : parC (c :: r) = ⟨s, k, a, f, x, 0⟩) : (parC (80 :: c :: r)).e = if 80 ≤ (c.toNat : Int) ∧ (c.toNat : Int) ≤ 86 then 5 else 0 := by
  have hs : schV (80 :: c :: r) = (1, c :: r) := sch_yes (by decide)
  rw [par_of hs]
  by_cases hb : 80 ≤ (c.toNat : Int) ∧ (c.toNat : Int) ≤ 86
  · rw [if_pos hb]
    have hne : ∀ d : UInt8, ¬ (80 ≤ (d.toNat : Int) ∧ (d.toNat : Int) ≤ 86) → c ≠ d := fun d hd e => hd (e ▸ hb)
    have hd : isDg c = false := by
      cases hq : isDg c
      · rfl
      · have := isDg_yes hq; omega
    have hcx : ∃ q, cutX (c :: r) = c :: q := by
      unfold cutX
      split
      · rename_i hs
        cases r with
        | nil => unfold sufB at hs; simp at hs; exact absurd hs (hne 88 (by decide))
        | cons d r => exact ⟨_, rfl⟩
      · exact ⟨_, rfl⟩
    obtain ⟨q, hq⟩ := hcx
    rw [hq, knd_first q hd (hne 76 (by decide)) (hne 75 (by decide)) (hne 68 (by decide)) (hne 78 (by decide)), if_neg (by simp)]
    rfl
  · rw [if_neg hb]
    have hs0 := sch_no (r := r) hb
    rcases par_cases (c :: r) with ⟨_, e⟩ | ⟨k', n', hv, e⟩
    · rw [e] at h; simp [noC] at h
    · rw [e, hs0] at h
      rw [hs0] at hv
      rw [hv, if_pos rfl]
      obtain ⟨a', f', ha, hf, ⟨hc, em⟩ | ⟨hc, em⟩⟩ := mkC_cases 0 k' n' (sufB 88 (c :: r))
      · obtain ⟨_, _, hfit⟩ := chkC_zero hc
        obtain ⟨a2, f2, ha2, hf2, ⟨hc2, em2⟩ | ⟨hc2, em2⟩⟩ := mkC_cases 1 k' n' (sufB 88 (c :: r))
        · rw [em2]
        · exfalso
          rw [ha2, hf2, ← ha, ← hf] at hc2
          exact hc2 (chkC_ok (by omega) (by omega) hfit)
      · rw [em] at h
        simp only [noC, CV.mk.injEq] at h
        exact absurd h.2.2.2.2.2 hc
theorem txtC_empty (s k a f : Int) (x : Bool) : txtC s k a f x = [] ↔ chkC s k a f ≠ 0 := by
  constructor
  · intro h hc
    rw [txtC_of hc] at h
    obtain ⟨_, _, hf⟩ := chkC_zero hc
    have hn := (knd_ends hf).2.1
    simp at h
    exact hn h.2.1
  · intro h
    unfold txtC
    rw [if_neg h]
end Go.Proofs.YtoppipjbdakmeaaDoor
