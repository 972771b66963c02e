/- That the reference's loops, as plain functions, tell what money.Parse's reading tells. No walk. -/
import Derived.Test.YtjjeohnejhhacaaDoorRefParse
import Derived.Test.YtjjeohnejhhacaaDoorTxtParse
namespace Go.Proofs.YtjjeohnejhhacaaDoor
open Go.RowKit
set_option linter.unusedVariables false
set_option linter.unusedSimpArgs false

theorem dig46 {c : UInt8} (h : c.toNat = 46) : isDig c = false := by
  simp only [isDig, decide_eq_false_iff_not]
  omega
theorem digitsB_cons (c : UInt8) (l : List UInt8) : digitsB (c :: l) = (isDig c && digitsB l) := rfl
theorem scan_some : ∀ (l : List UInt8) (q k : Nat), scan (some q) k l = if digitsB l = true then some (some q) else none
  | [], q, k => rfl
  | c :: r, q, k => by
    have hne : ¬ (c.toNat = 46 ∧ some q = none) := by simp
    simp only [scan]
    rw [if_neg hne, digitsB_cons]
    cases h : isDig c
    · simp
    · simp only [if_true, Bool.true_and]
      exact scan_some r q (k + 1)
theorem byte46 {c : UInt8} : (c == 46) = decide (c.toNat = 46) := by
  cases h : (c == 46)
  · rw [beq_eq_false_iff_ne] at h
    have : c.toNat ≠ 46 := fun e => h (UInt8.toNat_inj.1 (by simpa using e))
    simp [this]
  · rw [beq_iff_eq] at h
    subst h
    rfl
theorem scan_none : ∀ (l : List UInt8) (k : Nat), scan none k l = (if Lib.indexByte l 46 = -1 then (if digitsB l = true then some none else none) else (if (digitsB (l.take (Lib.indexByte l 46).toNat) && digitsB (l.drop ((Lib.indexByte l 46).toNat + 1))) = true then some (some (k + (Lib.indexByte l 46).toNat)) else none))
  | [], k => rfl
  | c :: r, k => by
    have ih := scan_none r (k + 1)
    by_cases h46 : c.toNat = 46
    · have hb : (c == 46) = true := by rw [byte46]; simp [h46]
      have hi : Lib.indexByte (c :: r) 46 = 0 := by simp [Lib.indexByte, hb]
      simp only [scan]
      rw [if_pos ⟨h46, trivial⟩, hi, scan_some]
      simp [digitsB]
    · have hb : (c == 46) = false := by rw [byte46]; simp [h46]
      have hne : ¬ (c.toNat = 46 ∧ True) := fun h => h46 h.1
      simp only [scan]
      rw [if_neg hne]
      rcases index_cases r with h | ⟨i, h, hi⟩
      · have hi : Lib.indexByte (c :: r) 46 = -1 := by simp [Lib.indexByte, hb, h]
        rw [hi, if_pos rfl, digitsB_cons]
        rw [h, if_pos rfl] at ih
        cases hd : isDig c
        · simp
        · simp only [if_true, Bool.true_and]
          exact ih
      · have hn : ((i : Int) == -1) = false := by rw [beq_eq_false_iff_ne]; omega
        have hi2 : Lib.indexByte (c :: r) 46 = ((i + 1 : Nat) : Int) := by simp [Lib.indexByte, hb, h, hn]
        have hm : ¬ ((i + 1 : Nat) : Int) = -1 := by omega
        have hm2 : ¬ (i : Int) = -1 := by omega
        rw [hi2, if_neg hm, Int.toNat_natCast, List.take_succ_cons, List.drop_succ_cons, digitsB_cons]
        rw [h, if_neg hm2, Int.toNat_natCast] at ih
        cases hd : isDig c
        · simp
        · simp only [if_true, Bool.true_and]
          rw [ih, show k + 1 + i = k + (i + 1) by omega]
/-- the value of digits and points -/
def vv : Int → List UInt8 → Int
  | n, [] => n
  | n, c :: r => if c.toNat = 46 then vv n r else vv (10 * n + ((c.toNat : Int) - 48)) r
def nz : List UInt8 → Bool
  | [] => false
  | c :: r => if c.toNat = 46 then nz r else (decide (c.toNat ≠ 48) || nz r)
def okC (l : List UInt8) : Prop := ∀ c ∈ l, c.toNat = 46 ∨ isDig c = true
theorem okC_cons {c : UInt8} {l : List UInt8} (h : okC (c :: l)) : (c.toNat = 46 ∨ isDig c = true) ∧ okC l := ⟨h c (List.mem_cons_self ..), fun d hd => h d (List.mem_cons_of_mem _ hd)⟩
theorem vv_mono : ∀ (l : List UInt8) (n : Int), okC l → 0 ≤ n → n ≤ vv n l ∧ (vv n l = 0 ↔ n = 0 ∧ nz l = false)
  | [], n, _, h0 => ⟨Int.le_refl _, by simp [vv, nz]⟩
  | c :: r, n, h, h0 => by
    obtain ⟨hc, hr⟩ := okC_cons h
    simp only [vv, nz]
    by_cases h46 : c.toNat = 46
    · rw [if_pos h46, if_pos h46]
      exact vv_mono r n hr h0
    · obtain ⟨d1, d2⟩ := isDig_yes (hc.resolve_left h46)
      rw [if_neg h46, if_neg h46]
      obtain ⟨i1, i2⟩ := vv_mono r (10 * n + ((c.toNat : Int) - 48)) hr (by omega)
      refine ⟨by omega, i2.trans ⟨fun ⟨a, b⟩ => ⟨by omega, by rw [b]; simp; omega⟩, fun ⟨a, b⟩ => ?_⟩⟩
      rw [Bool.or_eq_false_iff] at b
      have b1 : c.toNat = 48 := by simpa using b.1
      exact ⟨by omega, b.2⟩
theorem digs_great : ∀ (l : List UInt8) (n : Int) (s : Bool), (digs n true s l).2.1 = true
  | [], n, s => rfl
  | c :: r, n, s => by
    simp only [digs]
    split
    · exact digs_great r _ _
    · split
      · exact digs_great r _ _
      · exact digs_great r _ _
theorem digs_some : ∀ (l : List UInt8) (n : Int) (g s : Bool), (digs n g s l).2.2 = (s || nz l)
  | [], n, g, s => by simp [digs, nz]
  | c :: r, n, g, s => by
    simp only [digs, nz]
    split
    · exact digs_some r _ _ _
    · split
      · rw [digs_some r _ _ _, Bool.or_assoc]
      · rw [digs_some r _ _ _, Bool.or_assoc]
theorem digs_val : ∀ (l : List UInt8) (n : Int) (g s : Bool), okC l → 0 ≤ n → n ≤ 10000000000000 → (vv n l ≤ 10000000000000 → (digs n g s l).1 = vv n l ∧ (digs n g s l).2.1 = g) ∧ (10000000000000 < vv n l → (digs n g s l).2.1 = true)
  | [], n, g, s, _, h0, h1 => ⟨fun _ => ⟨rfl, rfl⟩, fun h => by simp only [vv] at h; omega⟩
  | c :: r, n, g, s, h, h0, h1 => by
    obtain ⟨hc, hr⟩ := okC_cons h
    simp only [vv, digs]
    by_cases h46 : c.toNat = 46
    · rw [if_pos h46, if_pos h46]
      exact digs_val r n g s hr h0 h1
    · obtain ⟨d1, d2⟩ := isDig_yes (hc.resolve_left h46)
      rw [if_neg h46, if_neg h46]
      by_cases hov : 10000000000000 < 10 * n + ((c.toNat : Int) - 48)
      · rw [if_pos hov]
        have := (vv_mono r (10 * n + ((c.toNat : Int) - 48)) hr (by omega)).1
        exact ⟨fun h => by omega, fun _ => digs_great r _ _⟩
      · rw [if_neg hov]
        exact digs_val r _ g _ hr (by omega) (by omega)
theorem vv_digits : ∀ (l : List UInt8) (n : Int), digitsB l = true → vv n l = val n l
  | [], _, _ => rfl
  | c :: r, n, h => by
    obtain ⟨hc, hr⟩ := digits_cons h
    have : ¬ c.toNat = 46 := fun e => by rw [dig46 e] at hc; cases hc
    simp only [vv, val]
    rw [if_neg this, show 10 * n = n * 10 by omega]
    exact vv_digits r _ hr
theorem vv_append : ∀ (l m : List UInt8) (n : Int), vv n (l ++ m) = vv (vv n l) m
  | [], _, _ => rfl
  | c :: r, m, n => by
    simp only [List.cons_append, vv]
    split
    · exact vv_append r m n
    · exact vv_append r m _
theorem okC_digits {l : List UInt8} (h : digitsB l = true) : okC l := fun c hc => .inr (by
  unfold digitsB at h
  exact List.all_eq_true.1 h c hc)
/-- what stands ahead of the point, and behind it, against the digits' run -/
theorem ends_alike (b f : Bool) (x y v V : Int) (N : Int) (G S : Bool) (hv : 0 ≤ v) (hy0 : 0 ≤ y) (hy1 : y ≤ 99) (hx : x = v ∨ (100000000000 < x ∧ 100000000000 < v))
    (hV : V = if f = true then v * 100 + y else v) (hf : f = false → y = 0) (hS : S = decide (V ≠ 0)) (h1 : V ≤ 10000000000000 → N = V ∧ G = false) (h2 : 10000000000000 < V → G = true) :
    (if (b && decide ((if amtB x = true then x * 100 + y else x) = 0)) = true then (0, 5)
      else if amtB (if b = true then -(if amtB x = true then x * 100 + y else x) else (if amtB x = true then x * 100 + y else x)) = true then
        (if b = true then -(if amtB x = true then x * 100 + y else x) else (if amtB x = true then x * 100 + y else x), 0) else ((0, 10) : Int × Int)) = pEnd b (if f = true then N else N * 100) G S := by
  have flip : ∀ z : Int, amtB (-z) = amtB z := fun z => by
    simp only [amtB]
    congr 1
    simp
    omega
  have hW : ∃ W, W = v * 100 + y := ⟨_, rfl⟩
  obtain ⟨W, hW⟩ := hW
  have hSW : S = decide (W ≠ 0) := by
    rw [hS]
    congr 1
    cases f
    · have := hf rfl
      simp only [Bool.false_eq_true, if_false] at hV
      simp only [ne_eq, eq_iff_iff]
      omega
    · simp only [if_true] at hV
      rw [hV, ← hW]
  by_cases hm : v ≤ 100000000000
  · have hxv : x = v := by
      rcases hx with h | h
      · exact h
      · omega
    subst hxv
    have ha : amtB x = true := by simp only [amtB]; simp; omega
    rw [ha]
    simp only [if_true]
    rw [← hW]
    have hVs : V ≤ 10000000000099 := by
      cases f
      · simp only [Bool.false_eq_true, if_false] at hV; omega
      · simp only [if_true] at hV; omega
    have hbig : (100000000000 < W) ↔ ((G || decide (100000000000 < if f = true then N else N * 100)) = true) := by
      by_cases hV1 : V ≤ 10000000000000
      · obtain ⟨e1, e2⟩ := h1 hV1
        subst e1 e2
        cases f
        · have := hf rfl
          simp only [Bool.false_eq_true, if_false] at hV ⊢
          simp
          omega
        · simp only [if_true] at hV ⊢
          simp
          omega
      · have e2 := h2 (by omega)
        rw [e2]
        simp
        cases f
        · simp only [Bool.false_eq_true, if_false] at hV; omega
        · simp only [if_true] at hV; omega
    have hN : ¬ 100000000000 < W → (if f = true then N else N * 100) = W := fun h => by
      have hV1 : V ≤ 10000000000000 := by
        cases f
        · simp only [Bool.false_eq_true, if_false] at hV; omega
        · simp only [if_true] at hV; omega
      obtain ⟨e1, _⟩ := h1 hV1
      cases f
      · have := hf rfl
        simp only [Bool.false_eq_true, if_false] at hV ⊢
        omega
      · simp only [if_true] at hV ⊢
        omega
    unfold pEnd
    have hs2 : (b && !S) = (b && decide (W = 0)) := by rw [hSW]; simp
    rw [hs2]
    by_cases hB : (b && decide (W = 0)) = true
    · rw [if_pos hB, if_pos hB]
    · rw [if_neg hB, if_neg hB]
      by_cases hG : 100000000000 < W
      · rw [if_pos (hbig.1 hG)]
        have : amtB W = false := by simp only [amtB]; simp; omega
        cases b
        · simp [this]
        · simp [flip, this]
      · rw [if_neg (fun h => hG (hbig.2 h)), hN hG]
        have : amtB W = true := by simp only [amtB]; simp; omega
        cases b
        · simp [this]
        · simp [flip, this]
  · have hx2 : 100000000000 < x := by rcases hx with h | h <;> omega
    have ha : amtB x = false := by simp only [amtB]; simp; omega
    rw [ha]
    simp only [Bool.false_eq_true, if_false]
    have hx0 : ¬ x = 0 := by omega
    have hb0 : (b && decide (x = 0)) = false := by simp [hx0]
    rw [hb0]
    simp only [Bool.false_eq_true, if_false]
    have hV0 : 100000000000 < V := by
      cases f
      · simp only [Bool.false_eq_true, if_false] at hV; omega
      · simp only [if_true] at hV; omega
    have hST : S = true := by rw [hS]; simp; omega
    have hG : (G || decide (100000000000 < if f = true then N else N * 100)) = true := by
      by_cases hV1 : V ≤ 10000000000000
      · obtain ⟨e1, e2⟩ := h1 hV1
        subst e1 e2
        cases f
        · simp; omega
        · simp; omega
      · rw [h2 (by omega)]; rfl
    unfold pEnd
    rw [hST, hG]
    cases b
    · simp [ha]
    · simp [flip, ha]
theorem val_nonneg (l : List UInt8) (h : digitsB l = true) : 0 ≤ val 0 l := val_mono l 0 h (by omega)
theorem digitsB_append (l m : List UInt8) : digitsB (l ++ m) = (digitsB l && digitsB m) := by unfold digitsB; exact List.all_append
theorem byte_dig {c : UInt8} (h : isDig c = true) : UInt8.ofNat (48 + (c.toNat - 48)) = c := by
  obtain ⟨b1, b2⟩ := isDig_yes h
  apply UInt8.toNat_inj.1
  rw [dig_byte (show c.toNat - 48 < 10 by omega)]
  omega
/-- digits without a 0 ahead are the ones of their number -/
theorem dd_val : ∀ (n : Nat) (l : List UInt8), l.length = n + 1 → digitsB l = true → (1 < l.length → l.head? ≠ some 48) → Lib.decDigits (val 0 l).toNat = l
  | 0, l, hl, hd, _ => by
    match l, hl with
    | [c], _ =>
      obtain ⟨hc, _⟩ := digits_cons hd
      obtain ⟨b1, b2⟩ := isDig_yes hc
      have e : (val 0 [c]).toNat = c.toNat - 48 := by simp only [val]; omega
      rw [e, Lib.decDigits_one (by omega), byte_dig hc]
  | n + 1, l, hl, hd, hh => by
    have hne : l ≠ [] := by intro e; rw [e] at hl; simp at hl
    obtain ⟨g, c, rfl⟩ : ∃ g c, l = g ++ [c] := ⟨l.dropLast, l.getLast hne, (List.dropLast_concat_getLast hne).symm⟩
    have hgl : g.length = n + 1 := by simpa using hl
    rw [digitsB_append, Bool.and_eq_true] at hd
    obtain ⟨hg, hc⟩ := hd
    obtain ⟨hc, _⟩ := digits_cons hc
    obtain ⟨b1, b2⟩ := isDig_yes hc
    have hhd : (g ++ [c]).head? = g.head? := by
      cases g with
      | nil => simp at hgl
      | cons a r => rfl
    have h48 := hh (by simp; omega)
    rw [hhd] at h48
    have ih := dd_val n g hgl hg (fun _ => h48)
    have hv : val 0 (g ++ [c]) = val 0 g * 10 + ((c.toNat : Int) - 48) := by rw [val_append]; rfl
    have hpos : 1 ≤ val 0 g := by
      cases g with
      | nil => simp at hgl
      | cons a r =>
        obtain ⟨ha, hr⟩ := digits_cons hg
        obtain ⟨a1, a2⟩ := isDig_yes ha
        have : a.toNat ≠ 48 := fun e => h48 (by
          have : a = 48 := UInt8.toNat_inj.1 (by simpa using e)
          simp [this])
        have := val_mono r (0 * 10 + ((a.toNat : Int) - 48)) hr (by omega)
        simp only [val]
        omega
    have e1 : (val 0 (g ++ [c])).toNat / 10 = (val 0 g).toNat := by rw [hv]; omega
    have e2 : (val 0 (g ++ [c])).toNat % 10 = c.toNat - 48 := by rw [hv]; omega
    rw [dd_split (by rw [hv]; omega), e1, e2, ih, byte_dig hc]
theorem whole_parts {l : List UInt8} (h : wholeB l = true) : digitsB l = true ∧ l ≠ [] ∧ (1 < l.length → l.head? ≠ some 48) := by
  unfold wholeB at h
  rw [Bool.and_eq_true, Bool.and_eq_true] at h
  obtain ⟨⟨h1, h2⟩, h3⟩ := h
  refine ⟨h3, fun e => by rw [e] at h1; simp at h1, fun h4 e => ?_⟩
  rw [e] at h2
  simp [h4] at h2
theorem dd_whole_val {l : List UInt8} (h : wholeB l = true) : Lib.decDigits (val 0 l).toNat = l := by
  obtain ⟨h1, h2, h3⟩ := whole_parts h
  cases hl : l with
  | nil => exact absurd hl h2
  | cons a r =>
    rw [← hl]
    exact dd_val r.length l (by rw [hl]; rfl) h1 h3
/-- two digits -/
theorem cents_val {A : List UInt8} (h : centsB A = true) : ∃ y : Nat, y ≤ 99 ∧ val 0 A = y ∧ numGo 0 A = y ∧ ∀ v : Nat, tailB (v * 100 + y) = A := by
  unfold centsB at h
  rw [Bool.and_eq_true, decide_eq_true_eq] at h
  obtain ⟨h1, h2⟩ := h
  match A, h1 with
  | [c, d], _ =>
    obtain ⟨hc, hd⟩ := digits_cons h2
    obtain ⟨hd, _⟩ := digits_cons hd
    obtain ⟨c1, c2⟩ := isDig_yes hc
    obtain ⟨d1, d2⟩ := isDig_yes hd
    refine ⟨(c.toNat - 48) * 10 + (d.toNat - 48), by omega, by simp only [val]; omega, ?_, fun v => ?_⟩
    · have n1 : ¬ (100000000000 : Int) < 0 := by omega
      have n2 : ¬ (100000000000 : Int) < 0 * 10 + ((c.toNat : Int) - 48) := by omega
      simp only [numGo]
      rw [if_neg n1, if_neg n2]
      omega
    · unfold tailB
      rw [show (v * 100 + ((c.toNat - 48) * 10 + (d.toNat - 48))) % 100 / 10 = c.toNat - 48 by omega, show (v * 100 + ((c.toNat - 48) * 10 + (d.toNat - 48))) % 10 = d.toNat - 48 by omega, byte_dig hc, byte_dig hd]
/-- what is read without a fault is written so, with its coins -/
theorem text_of {b f : Bool} {F A : List UInt8} {n : Nat} {x : Int} (h : pTail n b F A f = (x, 0)) (hA : f = false → A = []) :
    txt x = (if b = true then [45] else []) ++ (F ++ 46 :: (if f = true then A else [48, 48])) := by
  unfold pTail at h
  by_cases h1 : (decide (20 < n) || !wholeB F || (f && !centsB A)) = true
  · rw [if_pos h1] at h
    simp at h
  · rw [if_neg h1] at h
    have h1 : (decide (20 < n) || !wholeB F || (f && !centsB A)) = false := by simpa using h1
    rw [Bool.or_eq_false_iff, Bool.or_eq_false_iff] at h1
    obtain ⟨⟨_, hw⟩, hf⟩ := h1
    have hw : wholeB F = true := by simpa using hw
    have hdF := (whole_parts hw).1
    have hv0 := val_nonneg F hdF
    have hg := numGo_val F 0 hdF (by omega)
    obtain ⟨y, hy, hyA, hyt⟩ : ∃ y : Nat, y ≤ 99 ∧ numGo 0 A = y ∧ ∀ v : Nat, tailB (v * 100 + y) = (if f = true then A else [48, 48]) := by
      cases f
      · refine ⟨0, by omega, by rw [hA rfl]; simp [numGo], fun v => ?_⟩
        unfold tailB
        rw [show (v * 100 + 0) % 100 / 10 = 0 by omega, show (v * 100 + 0) % 10 = 0 by omega]
        rfl
      · have hc : centsB A = true := by simpa using hf
        obtain ⟨y, a1, _, a2, a3⟩ := cents_val hc
        exact ⟨y, a1, a2, a3⟩
    rw [hyA] at h
    clear hyA hf
    generalize hxe : numGo 0 F = x0 at h hg
    by_cases h2 : (b && decide ((if amtB x0 = true then x0 * 100 + (y : Int) else x0) = 0)) = true
    · rw [if_pos h2] at h
      simp at h
    · rw [if_neg h2] at h
      by_cases h3 : amtB (if b = true then -(if amtB x0 = true then x0 * 100 + (y : Int) else x0) else (if amtB x0 = true then x0 * 100 + (y : Int) else x0)) = true
      · rw [if_pos h3] at h
        have hx := congrArg Prod.fst h
        simp only at hx
        cases ha : amtB x0
        · rw [ha] at h3
          simp only [Bool.false_eq_true, if_false] at h3
          have a1 := amtB_yes h3
          have a2 := amtB_no ha
          exfalso
          cases b
          · simp only [Bool.false_eq_true, if_false] at a1
            omega
          · simp only [if_true] at a1
            omega
        · rw [ha] at h2 h3 hx
          simp only [if_true] at h2 h3 hx
          have a1 := amtB_yes ha
          have hxv : x0 = val 0 F := by
            rcases hg with e | e
            · exact e
            · omega
          obtain ⟨v, hv⟩ : ∃ v : Nat, val 0 F = v := ⟨(val 0 F).toNat, by omega⟩
          have hdd := dd_whole_val hw
          rw [hv, Int.toNat_natCast] at hdd
          rw [hxv, hv] at h2 hx
          have hn : x.natAbs = v * 100 + y := by
            cases b
            · simp only [Bool.false_eq_true, if_false] at hx
              omega
            · simp only [if_true] at hx
              omega
          have hs : (x < 0) ↔ b = true := by
            cases b
            · simp only [Bool.false_eq_true, if_false] at hx
              simp
              omega
            · simp only [if_true] at hx
              simp at h2
              simp
              omega
          have ht : txt x = (if x < 0 then [45] else []) ++ (Lib.decDigits (x.natAbs / 100) ++ (46 :: tailB x.natAbs)) := rfl
          rw [ht, hn, show (v * 100 + y) / 100 = v by omega, hdd, hyt]
          by_cases hb : b = true
          · rw [if_pos (hs.2 hb), if_pos hb]
          · rw [if_neg (fun e => hb (hs.1 e)), if_neg hb]
      · rw [if_neg h3] at h
        simp at h
theorem pre_split (l : List UInt8) : l = (if Lib.hasPrefix l [45] = true then [45] else []) ++ Lib.trimPrefix l [45] := by
  unfold Lib.trimPrefix
  cases hp : Lib.hasPrefix l [45]
  · simp
  · simp only [if_true]
    cases l with
    | nil => simp [Lib.hasPrefix] at hp
    | cons c r =>
      have : (45 : UInt8) = c := by
        have hp : ((45 : UInt8) == c && List.isPrefixOf [] r) = true := hp
        rw [Bool.and_eq_true, beq_iff_eq] at hp
        exact hp.1
      subst this
      rfl
theorem parse_text {l : List UInt8} {x : Int} (h : parseP l = (x, 0)) : txt x = l ∨ txt x = l ++ [46, 48, 48] := by
  have hl := pre_split l
  unfold parseP at h
  generalize Lib.hasPrefix l [45] = b at *
  generalize Lib.trimPrefix l [45] = T at *
  rcases index_cases T with hi | ⟨i, hi, hlt⟩
  · unfold pCut at h
    rw [if_pos hi] at h
    refine .inr ?_
    rw [text_of h (fun _ => rfl), hl]
    simp
  · have hm : ¬ Lib.indexByte T 46 = -1 := by rw [hi]; omega
    unfold pCut at h
    rw [if_neg hm, hi, Int.toNat_natCast] at h
    refine .inl ?_
    rw [text_of h (fun e => by cases e), hl]
    have h46 := (Lib.indexByte_some hi).1
    have e1 : T.drop i = 46 :: T.drop (i + 1) := by
      rw [List.drop_eq_getElem_cons hlt]
      rw [List.getElem?_eq_getElem hlt] at h46
      rw [Option.some.inj h46]
    simp only [if_true]
    rw [← e1, List.take_append_drop]
theorem pTail_amt {b f : Bool} {F A : List UInt8} {n : Nat} {x : Int} (h : pTail n b F A f = (x, 0)) : amtB x = true := by
  unfold pTail at h
  by_cases h1 : (decide (20 < n) || !wholeB F || (f && !centsB A)) = true
  · rw [if_pos h1] at h
    simp at h
  · rw [if_neg h1] at h
    generalize (if amtB (numGo 0 F) = true then numGo 0 F * 100 + numGo 0 A else numGo 0 F) = z at h
    by_cases h2 : (b && decide (z = 0)) = true
    · rw [if_pos h2] at h
      simp at h
    · rw [if_neg h2] at h
      by_cases h3 : amtB (if b = true then -z else z) = true
      · rw [if_pos h3] at h
        have := congrArg Prod.fst h
        simp only at this
        rw [← this]
        exact h3
      · rw [if_neg h3] at h
        simp at h
theorem parse_amt {l : List UInt8} {x : Int} (h : parseP l = (x, 0)) : amtB x = true := by
  unfold parseP pCut at h
  split at h
  · exact pTail_amt h
  · exact pTail_amt h
end Go.Proofs.YtjjeohnejhhacaaDoor
