/- Plain facts of a tax that is told band by band. -/
import Derived.Test.YtgekojbmlppmdaaDoorTaxE
import Derived.Test.YtgekojbmlppmdaaDoorTaxG
import Derived.Test.YtgekojbmlppmdaaDoorTaxR
namespace Go.Proofs.YtgekojbmlppmdaaDoor
set_option linter.unusedVariables false
set_option linter.unusedSimpArgs false

/-- what is in the first bands together, and its tax -/
def aS (L : List Bd) (c : Int) : Nat → Int
  | 0 => 0
  | i + 1 => aS L c i + amt L c i
def tS (L : List Bd) (c : Int) : Nat → Int
  | 0 => 0
  | i + 1 => tS L c i + amt L c i * gR L i
theorem amt_le (L : List Bd) (c : Int) (i : Nat) : amt L c i ≤ c - gF L i := by
  unfold amt; split <;> omega
theorem aS_is {L : List Bd} {c : Int} {m : Nat} (h0 : 0 < L.length → gF L 0 = 0) (hc : 0 ≤ c) (hn : L.length = 0 → c = 0) (hm : m ≤ L.length) (hp : ∀ i, i < m → 0 < amt L c i) : ∀ i, i ≤ m → aS L c i = if i < L.length then min c (gF L i) else c
  | 0, _ => by
    show 0 = _
    split
    · rename_i h; rw [h0 h]; omega
    · exact (hn (by omega)).symm
  | i + 1, hi => by
    have ih := aS_is h0 hc hn hm hp i (by omega)
    rw [if_pos (show i < L.length by omega)] at ih
    have h1 := hp i (by omega)
    have h2 := amt_le L c i
    show aS L c i + amt L c i = _
    rw [ih]
    unfold amt at h1 h2 ⊢
    split <;> rename_i h <;> simp only [h, if_true, if_false] at h1 h2 ⊢ <;> omega
theorem aS_end {L : List Bd} {c : Int} {m : Nat} (h0 : 0 < L.length → gF L 0 = 0) (hinc : ∀ i, 0 < i → i < L.length → gF L (i - 1) < gF L i) (hc : 0 ≤ c) (hn : L.length = 0 → c = 0) (hm : m ≤ L.length) (hp : ∀ i, i < m → 0 < amt L c i) (he : m = L.length ∨ amt L c m ≤ 0) : aS L c m = c ∧ ∀ j, m ≤ j → j < L.length → amt L c j ≤ 0 := by
  have e := aS_is h0 hc hn hm hp m (Nat.le_refl _)
  rcases he with he | he
  · exact ⟨by rw [e, if_neg (by omega)], fun j h1 h2 => by omega⟩
  · by_cases hl : m < L.length
    · have hcm : c ≤ gF L m := by
        unfold amt at he
        split at he
        · rename_i h
          have := hinc (m + 1) (by omega) h
          rw [show m + 1 - 1 = m by omega] at this
          omega
        · omega
      refine ⟨by rw [e, if_pos hl]; omega, fun j h1 h2 => ?_⟩
      have h3 := amt_le L c j
      have h4 : gF L m ≤ gF L j := by
        rcases Nat.lt_or_eq_of_le h1 with h | h
        · exact Int.le_of_lt (rise_lt hinc h h2)
        · rw [h]; exact Int.le_refl _
      omega
    · exact ⟨by rw [e, if_neg hl], fun j h1 h2 => by omega⟩
theorem tS_ref {L : List Bd} {c : Int} {m : Nat} (hinc : ∀ i, 0 < i → i < L.length → gF L (i - 1) < gF L i) (hm : m ≤ L.length) (hp : ∀ i, i < m → 0 < amt L c i) : ∀ i, i ≤ m → refO (gF L) (gR L) L.length c i = tS L c i
  | 0, _ => by
    show _ = 0
    by_cases h : 0 < L.length
    · exact refO_zero _ _ _ h
    · have : L.length = 0 := by omega
      rw [this]; rfl
  | i + 1, hi => by
    have ih := tS_ref hinc hm hp i (by omega)
    rw [refO_succ (show i < L.length by omega) (fun j h1 h2 => Int.le_of_lt (hinc j h1 h2)), ih]
    show _ = tS L c i + amt L c i * gR L i
    have : refU (gF L) L.length c i - gF L i = amt L c i := rfl
    rw [this, show max (amt L c i) 0 = amt L c i by have := hp i (by omega); omega, Int.mul_comm]
theorem ref_rest {L : List Bd} {c : Int} {m : Nat} (hinc : ∀ i, 0 < i → i < L.length → gF L (i - 1) < gF L i) (hr : ∀ j, m ≤ j → j < L.length → amt L c j ≤ 0) : ∀ i, m + i ≤ L.length → refO (gF L) (gR L) L.length c (m + i) = refO (gF L) (gR L) L.length c m
  | 0, _ => rfl
  | i + 1, hi => by
    rw [show m + (i + 1) = (m + i) + 1 by omega, refO_succ (show m + i < L.length by omega) (fun j h1 h2 => Int.le_of_lt (hinc j h1 h2)), ref_rest hinc hr i (by omega)]
    have : refU (gF L) L.length c (m + i) - gF L (m + i) = amt L c (m + i) := rfl
    rw [this, show max (amt L c (m + i)) 0 = 0 by have := hr (m + i) (by omega) (by omega); omega, Int.mul_zero, Int.add_zero]
/-- the taxes of all shares come to the tax -/
theorem tS_end {L : List Bd} {c : Int} {m : Nat} (h0 : 0 < L.length → gF L 0 = 0) (hinc : ∀ i, 0 < i → i < L.length → gF L (i - 1) < gF L i) (hc : 0 ≤ c) (hn : L.length = 0 → c = 0) (hm : m ≤ L.length) (hp : ∀ i, i < m → 0 < amt L c i) (he : m = L.length ∨ amt L c m ≤ 0) : tS L c m = Gl L c := by
  have h1 := (aS_end h0 hinc hc hn hm hp he).2
  have h2 := ref_rest hinc h1 (L.length - m) (by omega)
  rw [show m + (L.length - m) = L.length by omega, refO_end] at h2
  rw [← tS_ref hinc hm hp m (Nat.le_refl _), ← h2]; rfl
theorem topb_mono (R : Nat → Int) {i j : Nat} (h : i ≤ j) : topb R i ≤ topb R j := by
  induction h with
  | refl => exact Int.le_refl _
  | step h ih => show _ ≤ max (topb R _) _; omega
theorem tS_top {L : List Bd} {c : Int} {m : Nat} (hp : ∀ i, i < m → 0 < amt L c i) : ∀ i, i ≤ m → 0 ≤ aS L c i ∧ tS L c i ≤ topb (gR L) i * aS L c i
  | 0, _ => ⟨Int.le_refl _, by show (0 : Int) ≤ 0 * 0; omega⟩
  | i + 1, hi => by
    obtain ⟨h0, ih⟩ := tS_top hp i (by omega)
    have h1 := hp i (by omega)
    refine ⟨by show 0 ≤ aS L c i + amt L c i; omega, ?_⟩
    show tS L c i + amt L c i * gR L i ≤ max (topb (gR L) i) (gR L i) * (aS L c i + amt L c i)
    have a1 := Int.mul_le_mul_of_nonneg_right (show topb (gR L) i ≤ max (topb (gR L) i) (gR L i) by omega) h0
    have a2 := Int.mul_le_mul_of_nonneg_right (show gR L i ≤ max (topb (gR L) i) (gR L i) by omega) (Int.le_of_lt h1)
    rw [Int.mul_add, Int.mul_comm (amt L c i)]
    omega
/-- all that the law's walk wants to know of a tax that is told band by band -/
structure ExF (T : TB) (s k a f y n d : Int) (m : Nat) : Prop where
  ea : aS (taxL (T.S s.toNat) k f n d) (chargeV s k a f y n d).1 m = (chargeV s k a f y n d).1
  et : tS (taxL (T.S s.toNat) k f n d) (chargeV s k a f y n d).1 m = refE (T.S s.toNat) k f n d (chargeV s k a f y n d).1
  el : m ≤ (T.S s.toNat).n
  eg : k = 2 ∨ y ≤ 0 ∨ refE (T.S s.toNat) k f n d (chargeV s k a f y n d).1 / y ≤ topb (gR (taxL (T.S s.toNat) k f n d)) m
  eb : ∀ i, i ≤ m → (0 ≤ aS (taxL (T.S s.toNat) k f n d) (chargeV s k a f y n d).1 i ∧ aS (taxL (T.S s.toNat) k f n d) (chargeV s k a f y n d).1 i ≤ 100000000000) ∧ (0 ≤ tS (taxL (T.S s.toNat) k f n d) (chargeV s k a f y n d).1 i ∧ tS (taxL (T.S s.toNat) k f n d) (chargeV s k a f y n d).1 i ≤ 1000000000000000)
  ep : ∀ i, i < m → (0 < amt (taxL (T.S s.toNat) k f n d) (chargeV s k a f y n d).1 i ∧ amt (taxL (T.S s.toNat) k f n d) (chargeV s k a f y n d).1 i ≤ 100000000000) ∧ (0 ≤ gR (taxL (T.S s.toNat) k f n d) i ∧ gR (taxL (T.S s.toNat) k f n d) i ≤ 10000)
/-- facts of the bands by which a code taxes, also where there are none -/
theorem taxL_all {T : TB} (hT : TOk T) {s k a f : Int} (hc : Fit3 T s k a f) {n d : Int} (h1 : 0 ≤ n) (h2 : 1 ≤ d) (h3 : n ≤ d) :
    (0 < (taxL (T.S s.toNat) k f n d).length → gF (taxL (T.S s.toNat) k f n d) 0 = 0) ∧ (∀ i, 0 < i → i < (taxL (T.S s.toNat) k f n d).length → gF (taxL (T.S s.toNat) k f n d) (i - 1) < gF (taxL (T.S s.toNat) k f n d) i) ∧
    (∀ i, i < (taxL (T.S s.toNat) k f n d).length → 0 ≤ gF (taxL (T.S s.toNat) k f n d) i ∧ gF (taxL (T.S s.toNat) k f n d) i ≤ 100000000000) ∧ (∀ i, i < (taxL (T.S s.toNat) k f n d).length → 0 ≤ gR (taxL (T.S s.toNat) k f n d) i ∧ gR (taxL (T.S s.toNat) k f n d) i ≤ 10000) ∧
    (taxL (T.S s.toNat) k f n d).length ≤ 8 ∧ (taxL (T.S s.toNat) k f n d).length ≤ (T.S s.toNat).n ∧ ((taxL (T.S s.toNat) k f n d).length = 0 → k = 4) := by
  have hs := hT.s s.toNat (by have := hc.sn; have := hc.s0; omega)
  by_cases hk : k = 4
  · have e : taxL (T.S s.toNat) k f n d = [] := by unfold taxL; rw [if_pos hk]
    rw [e]
    exact ⟨fun h => absurd h (by simp), fun i _ h => absurd h (by simp), fun i h => absurd h (by simp), fun i h => absurd h (by simp), by simp, by simp, fun _ => hk⟩
  · have ok := taxL_ok hT hc h1 h2 h3 hk
    refine ⟨fun _ => ok.2.2.1.1, ok.2.2.1.2, ok.2.2.2.1, ok.2.2.2.2.1, ok.2.1, ?_, fun h => absurd h (by have := ok.1; omega)⟩
    unfold taxL
    rw [if_neg hk]
    split
    · exact hs.1
    · obtain ⟨p0, p1, p2⟩ := part_mono hs h1 h2 h3
      exact (scl_okb hs p0 p1 p2).1
theorem exf_of {T : TB} (hT : TOk T) {s k a f y n d : Int} (hc : Fit3 T s k a f) (hg : (chargeV s k a f y n d).2 = 0) {m : Nat} (hm : m ≤ (taxL (T.S s.toNat) k f n d).length) (hp : ∀ i, i < m → 0 < amt (taxL (T.S s.toNat) k f n d) (chargeV s k a f y n d).1 i) (he : m = (taxL (T.S s.toNat) k f n d).length ∨ amt (taxL (T.S s.toNat) k f n d) (chargeV s k a f y n d).1 m ≤ 0) : ExF T s k a f y n d m := by
  obtain ⟨rc, h1, h3, h2, h4⟩ := chargeV_rng hg
  obtain ⟨f0, finc, ff, fr, f8, fn, f4⟩ := taxL_all hT hc h1 h2 h3
  have cb := chargeV_bd (s := s) (k := k) (a := a) (f := f) (x := y) (n := n) (d := d)
  have hn : (taxL (T.S s.toNat) k f n d).length = 0 → (chargeV s k a f y n d).1 = 0 := fun h => by
    have hk := f4 h
    have fe := freeV_ok (a := a) (f := f) rc h1 h3 h2 h4
    unfold chargeV
    rw [fe, if_neg (by simp)]
    split
    · rfl
    · rfl
  have hae := aS_end f0 finc cb.1 hn hm hp he
  have hte := tS_end f0 finc cb.1 hn hm hp he
  have hpb : ∀ i, i < m → amt (taxL (T.S s.toNat) k f n d) (chargeV s k a f y n d).1 i ≤ 100000000000 := fun i hi => by
    have := amt_le (taxL (T.S s.toNat) k f n d) (chargeV s k a f y n d).1 i
    have := ff i (by omega)
    omega
  refine ⟨hae.1, by rw [hte, taxL_ref hT hc h1 h2 h3 cb.1], by omega, ?_, fun i hi => ?_, fun i hi => ⟨⟨hp i hi, hpb i hi⟩, fr i (by omega)⟩⟩
  · by_cases hk2 : k = 2
    · exact .inl hk2
    · by_cases hy : y ≤ 0
      · exact .inr (.inl hy)
      · refine .inr (.inr ?_)
        have ht := (tS_top hp m (Nat.le_refl _)).2
        rw [hae.1, hte, taxL_ref hT hc h1 h2 h3 cb.1] at ht
        have hcy : (chargeV s k a f y n d).1 ≤ y := by
          have fe := freeV_ok (a := a) (f := f) rc h1 h3 h2 h4
          rw [if_neg hk2] at fe
          have hb := fitB_bd hc.b
          have pb := part_bd hb.2.2.1 h1 h3 h2
          unfold chargeV
          rw [fe, if_neg (by simp)]
          split
          · show (0 : Int) ≤ y; omega
          · split
            · show (0 : Int) ≤ y; omega
            · split
              · show (0 : Int) ≤ y; omega
              · show max (y - a * n / d) 0 ≤ y; omega
        have htop := top_nn (gR (taxL (T.S s.toNat) k f n d)) m
        have h5 := Int.mul_le_mul_of_nonneg_left hcy htop
        exact Int.ediv_le_of_le_mul (by omega) (by omega)
  · have e1 := aS_is f0 cb.1 hn hm hp i hi
    have e2 := tS_ref finc hm hp i hi
    have rb := refO_bd (P := gF (taxL (T.S s.toNat) k f n d)) (R := gR (taxL (T.S s.toNat) k f n d)) (n := (taxL (T.S s.toNat) k f n d).length) ff fr cb.2 (i := i) (by omega)
    rw [e2] at rb
    refine ⟨?_, rb⟩
    rw [e1]
    split
    · rename_i hl
      have := ff i hl
      omega
    · exact cb
end Go.Proofs.YtgekojbmlppmdaaDoor
