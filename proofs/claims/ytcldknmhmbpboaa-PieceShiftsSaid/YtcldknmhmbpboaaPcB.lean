/- Where two functions are cut, and functions that are put together piece by piece, as plain numbers. -/
import Derived.Test.YtcldknmhmbpboaaPc
namespace Go.Proofs.Ytcldknmhmbpboaa
open Go.RowKit
set_option linter.unusedVariables false
namespace Lf
theorem ln_from (f : Lf) (i : Nat) (a x : Int) : f.ln i x = f.ln i a + (x - a) * f.R i := by
  unfold ln
  rw [Int.add_assoc, ← Int.add_mul]
  congr 2
  omega
theorem ln_self (f : Lf) (i : Nat) : f.ln i (f.F i) = f.V i := by simp [ln]
/-- where two functions are cut -/
def cut (f g : Lf) : Nat → Int
  | 0 => 0
  | k + 1 => min (f.lst (f.idx (cut f g k))) (g.lst (g.idx (cut f g k))) + 1
/-- the end of the stretch that begins at a -/
def ce (f g : Lf) (a : Int) : Int := min (f.lst (f.idx a)) (g.lst (g.idx a))
theorem cut_succ (f g : Lf) (k : Nat) : cut f g (k + 1) = ce f g (cut f g k) + 1 := rfl
theorem ce_bd {f g : Lf} (hf : f.Ord) (hg : g.Ord) {a : Int} (h0 : 0 ≤ a) (hT : a ≤ 10000000000) : a ≤ ce f g a ∧ ce f g a ≤ 10000000000 ∧ ce f g a ≤ f.lst (f.idx a) ∧ ce f g a ≤ g.lst (g.idx a) := by
  have p := hf.idx_bd h0 hT
  have q := hg.idx_bd h0 hT
  have p2 := hf.lst_bd p.1
  unfold ce
  omega
theorem cut_bd {f g : Lf} (hf : f.Ord) (hg : g.Ord) : ∀ {k : Nat}, (∀ j, j < k → cut f g j ≤ 10000000000) → 0 ≤ cut f g k ∧ cut f g k ≤ 10000000001
  | 0, _ => ⟨Int.le_refl _, by show (0 : Int) ≤ _; omega⟩
  | k + 1, h => by
    have ih := cut_bd hf hg (k := k) fun j hj => h j (by omega)
    have := ce_bd hf hg ih.1 (h k (by omega))
    rw [cut_succ]; omega
/-- over a stretch a function goes by one piece -/
theorem Ord.over {f : Lf} (hf : f.Ord) {a x : Int} (h0 : 0 ≤ a) (hT : a ≤ 10000000000) (h1 : a ≤ x) (h2 : x ≤ f.lst (f.idx a)) : f.idx x = f.idx a ∧ f.val x = f.val a + (x - a) * f.R (f.idx a) := by
  have p := hf.idx_bd h0 hT
  have q := hf.idx_is (x := x) p.1 (by omega) h2
  refine ⟨q.1, ?_⟩
  rw [q.2, p.2.2.2, ln_from f (f.idx a) a x]
theorem Ord.ge_idx {f : Lf} (hf : f.Ord) {x : Int} {i : Nat} (h0 : 0 ≤ x) (hT : x ≤ 10000000000) (hi : i < f.n) (h : f.F i ≤ x) : i ≤ f.idx x := by
  obtain ⟨a, b, c, _⟩ := hf.idx_bd h0 hT
  rcases Nat.lt_or_ge (f.idx x) i with hlt | hge
  · have := hf.mono (i := f.idx x + 0) (j := i) hlt hi
    rw [lst_in (show f.idx x + 1 < f.n by omega)] at c
    have : f.F (f.idx x + 1) ≤ f.F i := by
      by_cases e : f.idx x + 1 = i
      · rw [e]; exact Int.le_refl _
      · exact Int.le_of_lt (hf.mono (by omega) hi)
    omega
  · exact hge
theorem cut_cnt {f g : Lf} (hf : f.Ord) (hg : g.Ord) : ∀ {k : Nat}, (∀ j, j ≤ k → cut f g j ≤ 10000000000) → k ≤ f.idx (cut f g k) + g.idx (cut f g k)
  | 0, _ => Nat.zero_le _
  | k + 1, h => by
    have ih := cut_cnt hf hg (k := k) fun j hj => h j (by omega)
    have b := cut_bd hf hg (k := k) fun j hj => h j (by omega)
    have c := ce_bd hf hg b.1 (h k (by omega))
    have hn := h (k + 1) (Nat.le_refl _)
    rw [cut_succ] at hn ⊢
    have pf := hf.idx_bd b.1 (h k (by omega))
    have pg := hg.idx_bd b.1 (h k (by omega))
    have uf := hf.ge_idx (x := ce f g (cut f g k) + 1) (by omega) hn pf.1 (by omega)
    have ug := hg.ge_idx (x := ce f g (cut f g k) + 1) (by omega) hn pg.1 (by omega)
    rcases Int.le_total (f.lst (f.idx (cut f g k))) (g.lst (g.idx (cut f g k))) with e | e
    · have ee : ce f g (cut f g k) = f.lst (f.idx (cut f g k)) := Int.min_eq_left e
      by_cases hh : f.idx (cut f g k) + 1 < f.n
      · rw [lst_in hh] at ee
        have := hf.ge_idx (x := ce f g (cut f g k) + 1) (by omega) hn hh (by omega)
        omega
      · rw [lst_out hh] at ee; omega
    · have ee : ce f g (cut f g k) = g.lst (g.idx (cut f g k)) := Int.min_eq_right e
      by_cases hh : g.idx (cut f g k) + 1 < g.n
      · rw [lst_in hh] at ee
        have := hg.ge_idx (x := ce f g (cut f g k) + 1) (by omega) hn hh (by omega)
        omega
      · rw [lst_out hh] at ee; omega
theorem cut_few {f g : Lf} (hf : f.Ord) (hg : g.Ord) {k : Nat} (h : ∀ j, j < k → cut f g j ≤ 10000000000) : k + 1 ≤ f.n + g.n := by
  rcases Nat.eq_zero_or_pos k with rfl | hk
  · have := hf.n1; have := hg.n1; omega
  · have c := cut_cnt hf hg (k := k - 1) fun j hj => h j (by omega)
    have b := cut_bd hf hg (k := k - 1) fun j hj => h j (by omega)
    have p := hf.idx_bd b.1 (h _ (by omega))
    have q := hg.idx_bd b.1 (h _ (by omega))
    omega
/-- a piece more; one that goes on as the last one does is one with it -/
def pu (f : Lf) (a v r : Int) : Lf := ⟨f.n + 1, fun i => if i = f.n then a else f.F i, fun i => if i = f.n then v else f.V i, fun i => if i = f.n then r else f.R i⟩
def goB (f : Lf) (a v r : Int) : Bool := decide (0 < f.n ∧ f.R (f.n - 1) = r ∧ f.ln (f.n - 1) a = v)
def thn (f : Lf) (a v r : Int) : Lf := if f.goB a v r = true then f else f.pu a v r
/-- pieces that are h on the numbers below b -/
structure Rep (f : Lf) (b : Int) (h : Int → Int) : Prop where
  z : 0 < f.n → f.F 0 = 0
  e : f.n = 0 → b = 0
  nn : ∀ i, i < f.n → 0 ≤ f.F i ∧ f.F i < b
  up : ∀ i, i + 1 < f.n → f.F i < f.F (i + 1)
  as : ∀ i, i < f.n → ∀ x, f.F i ≤ x → x < (if i + 1 < f.n then f.F (i + 1) else b) → f.ln i x = h x
  mg : ∀ i, i + 1 < f.n → ¬ (f.R (i + 1) = f.R i ∧ f.ln i (f.F (i + 1)) = f.V (i + 1))
def emp : Lf := ⟨0, fun _ => 0, fun _ => 0, fun _ => 0⟩
theorem rep_emp (h : Int → Int) : Rep emp 0 h where
  z := fun h => absurd h (Nat.lt_irrefl 0)
  e := fun _ => rfl
  nn := fun i hi => absurd hi (Nat.not_lt_zero i)
  up := fun i hi => absurd hi (Nat.not_lt_zero _)
  as := fun i hi => absurd hi (Nat.not_lt_zero i)
  mg := fun i hi => absurd hi (Nat.not_lt_zero _)
theorem pu_old (f : Lf) (a v r : Int) {i : Nat} (hi : i < f.n) : (f.pu a v r).F i = f.F i ∧ (f.pu a v r).V i = f.V i ∧ (f.pu a v r).R i = f.R i ∧ ∀ x, (f.pu a v r).ln i x = f.ln i x := by
  have hne : i ≠ f.n := by omega
  have h1 : (f.pu a v r).F i = f.F i := if_neg hne
  have h2 : (f.pu a v r).V i = f.V i := if_neg hne
  have h3 : (f.pu a v r).R i = f.R i := if_neg hne
  exact ⟨h1, h2, h3, fun x => by unfold ln; rw [h1, h2, h3]⟩
theorem pu_new (f : Lf) (a v r : Int) : (f.pu a v r).F f.n = a ∧ (f.pu a v r).V f.n = v ∧ (f.pu a v r).R f.n = r ∧ ∀ x, (f.pu a v r).ln f.n x = v + (x - a) * r := by
  have h1 : (f.pu a v r).F f.n = a := if_pos rfl
  have h2 : (f.pu a v r).V f.n = v := if_pos rfl
  have h3 : (f.pu a v r).R f.n = r := if_pos rfl
  exact ⟨h1, h2, h3, fun x => by unfold ln; rw [h1, h2, h3]⟩
theorem Rep.thn {f : Lf} {b b' : Int} {h : Int → Int} {v r : Int} (H : Rep f b h) (hb : 0 ≤ b) (hbb : b < b') (hx : ∀ x, b ≤ x → x < b' → v + (x - b) * r = h x) : Rep (f.thn b v r) b' h := by
  unfold Lf.thn
  cases hg : f.goB b v r
  · rw [if_neg (by simp)]
    have hg' : ¬ (0 < f.n ∧ f.R (f.n - 1) = r ∧ f.ln (f.n - 1) b = v) := by simpa [goB] using hg
    obtain ⟨n1, n2, n3, n4⟩ := f.pu_new b v r
    have hn : (f.pu b v r).n = f.n + 1 := rfl
    refine { z := fun _ => ?_, e := fun e => by rw [hn] at e; omega, nn := fun i hi => ?_, up := fun i hi => ?_, as := fun i hi x h1 h2 => ?_, mg := fun i hi => ?_ }
    · rcases Nat.eq_zero_or_pos f.n with e | e
      · have := H.e e; rw [e] at n1; rw [n1]; exact this
      · rw [(f.pu_old b v r e).1]; exact H.z e
    · rw [hn] at hi
      by_cases e : i = f.n
      · rw [e, n1]; omega
      · rw [(f.pu_old b v r (show i < f.n by omega)).1]; have := H.nn i (by omega); omega
    · rw [hn] at hi
      rw [(f.pu_old b v r (show i < f.n by omega)).1]
      by_cases e : i + 1 = f.n
      · rw [e, n1]; exact (H.nn i (by omega)).2
      · rw [(f.pu_old b v r (show i + 1 < f.n by omega)).1]; exact H.up i (by omega)
    · rw [hn] at hi h2
      by_cases e : i = f.n
      · subst e
        rw [n1] at h1
        rw [if_neg (by omega)] at h2
        rw [n4]; exact hx x h1 h2
      · obtain ⟨o1, o2, o3, o4⟩ := f.pu_old b v r (show i < f.n by omega)
        rw [if_pos (by omega)] at h2
        rw [o4]
        rw [o1] at h1
        refine H.as i (by omega) x h1 ?_
        by_cases e2 : i + 1 = f.n
        · rw [if_neg (by omega)]; rw [e2, n1] at h2; exact h2
        · rw [if_pos (by omega)]; rw [(f.pu_old b v r (show i + 1 < f.n by omega)).1] at h2; exact h2
    · rw [hn] at hi
      obtain ⟨o1, o2, o3, o4⟩ := f.pu_old b v r (show i < f.n by omega)
      rw [o3, o4]
      by_cases e2 : i + 1 = f.n
      · rw [e2, n1, n2, n3]
        rintro ⟨p, q⟩
        apply hg'
        have : f.n - 1 = i := by omega
        rw [this]
        exact ⟨by omega, p.symm, q⟩
      · obtain ⟨p1, p2, p3, _⟩ := f.pu_old b v r (show i + 1 < f.n by omega)
        rw [p1, p2, p3]; exact H.mg i (by omega)
  · rw [if_pos rfl]
    obtain ⟨g1, g2, g3⟩ : 0 < f.n ∧ f.R (f.n - 1) = r ∧ f.ln (f.n - 1) b = v := by simpa [goB] using hg
    refine { z := H.z, e := fun e => by omega, nn := fun i hi => by have := H.nn i hi; omega, up := H.up, as := fun i hi x h1 h2 => ?_, mg := H.mg }
    by_cases e : i + 1 < f.n
    · refine H.as i hi x h1 ?_
      rw [if_pos e] at h2 ⊢; exact h2
    · rw [if_neg e] at h2
      rcases Int.lt_or_le x b with hl | hl
      · refine H.as i hi x h1 ?_
        rw [if_neg e]; exact hl
      · obtain rfl : i = f.n - 1 := by omega
        rw [ln_from f (f.n - 1) b x, g3, g2]
        exact hx x hl h2
theorem thn_n (f : Lf) (a v r : Int) : (f.thn a v r).n ≤ f.n + 1 := by
  unfold thn; split
  · omega
  · exact Nat.le_refl _
/-- all rates are so -/
theorem thn_R {p : Int → Prop} {f : Lf} {a v r : Int} (h : ∀ i, i < f.n → p (f.R i)) (hr : p r) : ∀ i, i < (f.thn a v r).n → p ((f.thn a v r).R i) := by
  unfold thn
  split
  · exact h
  · intro i hi
    by_cases e : i = f.n
    · rw [e, (f.pu_new a v r).2.2.1]; exact hr
    · have hi' : i < f.n + 1 := hi
      rw [(f.pu_old a v r (show i < f.n by omega)).2.2.1]; exact h i (by omega)
theorem Rep.ord {f : Lf} {h : Int → Int} (H : Rep f 10000000001 h) : f.Ord := by
  have n1 : 1 ≤ f.n := by
    rcases Nat.eq_zero_or_pos f.n with e | e
    · have := H.e e; omega
    · exact e
  exact { n1 := n1, f0 := H.z n1, fb := fun i hi => by have := H.nn i hi; omega, up := H.up }
theorem Rep.line {f : Lf} {h : Int → Int} (H : Rep f 10000000001 h) {i : Nat} (hi : i < f.n) {x : Int} (h1 : f.F i ≤ x) (h2 : x ≤ f.lst i) : f.ln i x = h x := by
  refine H.as i hi x h1 ?_
  unfold lst at h2
  split
  · rename_i e; rw [if_pos e] at h2; omega
  · rename_i e; rw [if_neg e] at h2; omega
theorem Rep.val_is {f : Lf} {h : Int → Int} (H : Rep f 10000000001 h) {x : Int} (h0 : 0 ≤ x) (hT : x ≤ 10000000000) : f.val x = h x := by
  obtain ⟨a, b, c, d⟩ := H.ord.idx_bd h0 hT
  rw [d]; exact H.line a b c
/-- what may be wrong with pieces that are in order -/
theorem Ord.stP_cases {f : Lf} (h : f.Ord) {i : Nat} (hi : i < f.n) : f.stP i = if f.R i < -40000 ∨ 40000 < f.R i then 50 else 0 := by
  have b := h.fb i hi
  unfold stP
  rw [if_neg (by omega), if_neg (by rintro ⟨rfl, e⟩; exact e h.f0), if_neg]
  rintro ⟨a, c⟩
  have := h.up (i - 1) (by omega)
  rw [show i - 1 + 1 = i by omega] at this
  omega
theorem Ord.chk_cases {f : Lf} (h : f.Ord) (hn : f.n ≤ 256) : f.chk = 0 ∨ f.chk = 50 ∨ f.chk = 10 := by
  unfold chk
  rw [if_neg (by have := h.n1; omega)]
  split
  · rename_i e
    obtain ⟨i, hi, h1, h2⟩ := fst_some e
    rw [h1, h.stP_cases hi]
    split <;> omega
  · by_cases e : fst f.stQ f.n = 0
    · exact .inl e
    · obtain ⟨i, hi, h1, h2⟩ := fst_some e
      rw [h1]
      unfold stQ
      split
      · omega
      · split <;> omega
theorem Ord.chk_ok {f : Lf} (h : f.Ord) (hr : ∀ i, i < f.n → -40000 ≤ f.R i ∧ f.R i ≤ 40000) (hn : f.n ≤ 256) : f.chk = fst f.stQ f.n := by
  unfold chk
  rw [if_neg (by have := h.n1; omega), if_neg]
  intro e
  exact e (fst_of fun i hi => by rw [h.stP_cases hi, if_neg (by have := hr i hi; omega)])
theorem Rep.chk_ok {f : Lf} {h : Int → Int} (H : Rep f 10000000001 h) (hr : ∀ i, i < f.n → -40000 ≤ f.R i ∧ f.R i ≤ 40000) (hv : ∀ x, 0 ≤ x → x ≤ 10000000000 → -4000000000000000 ≤ h x ∧ h x ≤ 4000000000000000) (hn : f.n ≤ 256) : f.chk = 0 := by
  rw [H.ord.chk_ok hr hn]
  refine fst_of fun i hi => ?_
  have b := H.ord.fb i hi
  have c := H.ord.lst_bd hi
  have l1 := H.line hi (x := f.F i) (Int.le_refl _) c.1
  have l2 := H.line hi (x := f.lst i) c.1 (Int.le_refl _)
  have v1 := hv (f.F i) b.1 b.2
  have v2 := hv (f.lst i) (by omega) c.2
  rw [ln_self] at l1
  unfold stQ
  rw [if_neg (by omega), if_neg (by omega)]
end Lf
end Go.Proofs.Ytcldknmhmbpboaa
