/- What holds of a book of orders from period to period. -/
import Derived.Test.YtgdalejccbhjcaaBkF
namespace Go.Proofs.Ytgdalejccbhjcaa
open Go.RowKit Go.Sort
set_option linter.unusedVariables false
set_option linter.unusedSimpArgs false

def InvB (f : Nat → Sta) (n : Nat) : Prop := (∀ i, i < n → (f i).OK ∧ ((f i).tot = 0 ∨ (f i).tk + (f i).ar ≤ (f i).tot)) ∧ ∀ i k, i < n → k < n → (f i).id = (f k).id → i = k
theorem InvB.ok {f : Nat → Sta} {n : Nat} (h : InvB f n) : ∀ i, i < n → (f i).OK := fun i hi => (h.1 i hi).1
theorem plc_neg {f : Nat → Sta} {id : Int} {n : Nat} (h : plc f id n = -1) : ∀ i, i < n → (f i).id ≠ id := by
  induction n with
  | zero => intro i hi; omega
  | succ n ih =>
    have h' : (if plc f id n = -1 then (if (f n).id = id then (n : Int) else -1) else plc f id n) = -1 := h
    by_cases h1 : plc f id n = -1
    · rw [if_pos h1] at h'
      by_cases h2 : (f n).id = id
      · rw [if_pos h2] at h'; omega
      · intro i hi
        by_cases hin : i < n
        · exact ih h1 i hin
        · obtain rfl : i = n := by omega
          exact h2
    · rw [if_neg h1] at h'; exact absurd h' h1
theorem invB_add {f f' : Nat → Sta} {n : Nat} {s : Sta} (h : InvB f n) (hc : s.chk = 0) (h1 : s.tk = 0) (h2 : s.ar = 0) (hp : plc f s.id n = -1) (hm : MovO (n + 1) (exO f n s) f') : InvB f' (n + 1) := by
  obtain ⟨p, ⟨p1, p2⟩, hf⟩ := hm
  have hno := plc_neg hp
  have hz := chkO_zero hc
  have ex : ∀ i, i < n → exO f n s i = f i := fun i hi => by simp [exO, hi]
  have en : exO f n s n = s := by simp [exO]
  refine ⟨fun i hi => ?_, fun i k hi hk e => ?_⟩
  · rw [hf i hi]
    by_cases hpi : p i < n
    · rw [ex _ hpi]; exact h.1 _ hpi
    · have : p i = n := by have := p1 i hi; omega
      rw [this, en]
      exact ⟨⟨hc, by omega, by omega⟩, by omega⟩
  · rw [hf i hi, hf k hk] at e
    refine p2 i k hi hk ?_
    have a1 := p1 i hi
    have a2 := p1 k hk
    by_cases x1 : p i < n <;> by_cases x2 : p k < n
    · rw [ex _ x1, ex _ x2] at e; exact h.2 _ _ x1 x2 e
    · have e2 : p k = n := by omega
      rw [ex _ x1, e2, en] at e
      exact absurd e (hno _ x1)
    · have e1 : p i = n := by omega
      rw [ex _ x2, e1, en] at e
      exact absurd e.symm (hno _ x2)
    · omega
theorem plc_self {f : Nat → Sta} {n i : Nat} (h : ∀ i k, i < n → k < n → (f i).id = (f k).id → i = k) (hi : i < n) : plc f (f i).id n = i :=
  plc_at hi rfl fun k hk e => by have := h k i (by omega) hi e; omega
theorem twF_self {f : Nat → Sta} {n : Nat} {t : Nat → Tkn} (h : ∀ i k, i < n → k < n → (f i).id = (f k).id → i = k) (ht : ∀ i, i < n → (t i).o = (f i).id) : ∀ k, k ≤ n → ∀ j, j < n → twF f n t k j = if j < k then upT (f j) (t j) else f j := by
  intro k
  induction k with
  | zero => intro _ j _; rfl
  | succ k ih =>
    intro hk j hj
    have e : (plc f (t k).o n).toNat = k := by rw [ht k (by omega), plc_self h (by omega)]; omega
    show upF (twF f n t k) (plc f (t k).o n).toNat (t k) j = _
    rw [e]
    unfold upF
    by_cases hjk : j = k
    · subst hjk
      rw [if_pos rfl, ih (by omega) j hj, if_neg (by omega), if_pos (by omega)]
    · rw [if_neg hjk, ih (by omega) j hj]
      by_cases h2 : j < k
      · rw [if_pos h2, if_pos (by omega)]
      · rw [if_neg h2, if_neg (by omega)]
theorem fsE_all {e : Nat → Int} {n : Nat} (h : fsE e n = 0) : ∀ k, k < n → e k = 0 := by
  induction n with
  | zero => intro k hk; omega
  | succ n ih =>
    have h' : (if fsE e n = 0 then e n else fsE e n) = 0 := h
    by_cases h1 : fsE e n = 0
    · rw [if_pos h1] at h'
      intro k hk
      by_cases hkn : k < n
      · exact ih h1 k hkn
      · obtain rfl : k = n := by omega
        exact h'
    · rw [if_neg h1] at h'; exact absurd h' h1
theorem fsE_ten {e : Nat → Int} {n : Nat} (h : ∀ k, k < n → e k = 0 ∨ e k = 10) : fsE e n = 0 ∨ fsE e n = 10 := by
  induction n with
  | zero => exact .inl rfl
  | succ n ih =>
    show (if fsE e n = 0 then e n else fsE e n) = 0 ∨ (if fsE e n = 0 then e n else fsE e n) = 10
    split
    · exact h n (by omega)
    · exact ih fun k hk => h k (by omega)
theorem twE_self {f : Nat → Sta} {n : Nat} {t : Nat → Tkn} (h : ∀ i k, i < n → k < n → (f i).id = (f k).id → i = k) (ht : ∀ i, i < n → (t i).o = (f i).id) (k : Nat) (hk : k < n) : twE f n t k = if (amtB (f k).tk && amtB (t k).t && amtB ((f k).tk + (t k).t)) = false then 10 else if amtB (t k).c = false then 10 else 0 := by
  have e : plc f (t k).o n = (k : Int) := by rw [ht k hk]; exact plc_self h hk
  unfold twE
  rw [e, if_neg (show ¬ ((k : Int) < 0) by omega), show ((k : Int)).toNat = k by omega, twF_self h ht k (by omega) k hk, if_neg (show ¬ k < k by omega)]
theorem twE_ten {f : Nat → Sta} {n : Nat} {t : Nat → Tkn} (h : ∀ i k, i < n → k < n → (f i).id = (f k).id → i = k) (ht : ∀ i, i < n → (t i).o = (f i).id) : fsE (twE f n t) n = 0 ∨ fsE (twE f n t) n = 10 :=
  fsE_ten fun k hk => by
    rw [twE_self h ht k hk]
    split
    · exact .inr rfl
    · split
      · exact .inr rfl
      · exact .inl rfl
/-- what a period makes of an order -/
theorem tw_at {f : Nat → Sta} {n : Nat} {net r0 : Int} (h : InvB f n) {j : Nat} (hj : j < n) : twF f n (svT f net r0) n j = ⟨(f j).id, (f j).pr, (f j).am, (f j).rt, (f j).tot, (f j).tk + tkX f net r0 j, (f j).dueX net - tkX f net r0 j⟩ := by
  rw [twF_self (t := svT f net r0) h.2 (fun i _ => rfl) n (Nat.le_refl _) j hj, if_pos hj]; rfl
theorem tw_bd {f : Nat → Sta} {n : Nat} {net r0 : Int} (h : InvB f n) (hr : 0 ≤ r0) (hs : svB f net n = true) (he : fsE (twE f n (svT f net r0)) n = 0) {j : Nat} (hj : j < n) : (0 ≤ tkX f net r0 j ∧ tkX f net r0 j ≤ (f j).dueX net) ∧ (f j).dueX net ≤ 100000000000 ∧ (f j).dueX net = (f j).ordX net + (f j).ar ∧ (0 ≤ (f j).tk + tkX f net r0 j ∧ (f j).tk + tkX f net r0 j ≤ 100000000000) ∧ ((f j).tot = 0 ∨ (f j).tk + (f j).dueX net ≤ (f j).tot) := by
  have ht := tk_bd (g := f) (n := net) hr (k := j) (fun i hi => h.ok i (by omega)) (svB_mono (k := j + 1) (by omega) hs)
  have hE := fsE_all he j hj
  rw [twE_self (t := svT f net r0) h.2 (fun i _ => rfl) j hj] at hE
  have hb : (amtB (f j).tk && amtB (svT f net r0 j).t && amtB ((f j).tk + (svT f net r0 j).t)) = true := by
    cases hq : (amtB (f j).tk && amtB (svT f net r0 j).t && amtB ((f j).tk + (svT f net r0 j).t))
    · rw [if_pos hq] at hE; omega
    · rfl
  simp only [Bool.and_eq_true] at hb
  have hb2 := amtB_yes hb.2
  have hb3 : (f j).tk + (svT f net r0 j).t = (f j).tk + tkX f net r0 j := rfl
  rw [hb3] at hb2
  obtain ⟨hok, htot⟩ := h.1 j hj
  have hd := dueB_yes (svB_at hj hs)
  have ho := hok.ord_bd hd.1
  have hn := hok.nums
  have hX : (f j).dueX net = (f j).ordX net + (f j).ar := rfl
  refine ⟨by omega, by omega, hX, by omega, ?_⟩
  rcases htot with h0 | h0
  · exact .inl h0
  · by_cases h1 : (f j).tot = 0
    · exact .inl h1
    · right
      have hl : (f j).lft = (f j).tot - (f j).tk - (f j).ar := by
        unfold Sta.lft
        rw [if_neg h1]
        split <;> omega
      omega
theorem invB_step {f : Nat → Sta} {n : Nat} {net r0 : Int} (h : InvB f n) (hr : 0 ≤ r0) (hs : svB f net n = true) (he : fsE (twE f n (svT f net r0)) n = 0) : InvB (twF f n (svT f net r0) n) n := by
  refine ⟨fun j hj => ?_, fun i k hi hk e => ?_⟩
  · have hb := tw_bd h hr hs he hj
    obtain ⟨hok, _⟩ := h.1 j hj
    rw [tw_at h hj]
    refine ⟨⟨hok.1, ?_, ?_⟩, ?_⟩
    · show 0 ≤ (f j).tk + tkX f net r0 j ∧ (f j).tk + tkX f net r0 j ≤ 100000000000
      omega
    · show 0 ≤ (f j).dueX net - tkX f net r0 j ∧ (f j).dueX net - tkX f net r0 j ≤ 100000000000
      omega
    · show (f j).tot = 0 ∨ (f j).tk + tkX f net r0 j + ((f j).dueX net - tkX f net r0 j) ≤ (f j).tot
      omega
  · rw [tw_at h hi, tw_at h hk] at e
    exact h.2 i k hi hk e
/-- what Add leaves, whatever is put in -/
def AnP (p : Nat) (w : World) (e : Ending) (w' : World) : Prop := ∃ (v : Int) (n : Nat) (f : Nat → Sta), e = .returned (.int .i64 v) ∧ n ≤ 8 ∧ InvB f n ∧ Bk w' p n f ∧ RelP p w w'
theorem add_inv (p n : Nat) (f : Nat → Sta) (i0 p0 a0 r0 t0 : Int) (w : World) (h : Bk w p n f) (hn : n ≤ 8) (hi : InvB f n) :
    Calls Try.prog 6 #[.pointer (some ⟨p, 0, none⟩), .agg #[.int .i64 i0, .int .i64 p0, .int .i64 a0, .int .i64 r0, .int .i64 t0]] w (AnP p w) := by
  by_cases hc : chkO i0 p0 a0 r0 t0 = 0
  · rcases plc_cases f i0 n with hp | ⟨j, _, hp, _⟩
    · by_cases h8 : n = 8
      · exact (add_twice p n f i0 p0 a0 r0 t0 w h hn hc (-1) hp (.inr ⟨by omega, h8⟩) _ rfl).mono fun e w' ⟨he, hb⟩ => ⟨_, n, f, he, hn, hi, h.below hb, RelP.of hb⟩
      · refine (add_book p n f i0 p0 a0 r0 t0 w h (by omega) hc hp).mono ?_
        rintro e w' ⟨f', he, hm, _, hb, hr⟩
        exact ⟨0, n + 1, f', he, by omega, invB_add (s := ⟨i0, p0, a0, r0, t0, 0, 0⟩) hi hc rfl rfl hp hm, hb, hr⟩
    · exact (add_twice p n f i0 p0 a0 r0 t0 w h hn hc j hp (.inl (by omega)) _ rfl).mono fun e w' ⟨he, hb⟩ => ⟨_, n, f, he, hn, hi, h.below hb, RelP.of hb⟩
  · exact (add_no p n f i0 p0 a0 r0 t0 w h hn hc).mono fun e w' ⟨he, hb⟩ => ⟨_, n, f, he, hn, hi, h.below hb, RelP.of hb⟩
/-- where orders may not be served, it is said why -/
theorem srv_cases (net prot : Int) (n : Nat) (f : Nat → Sta) (hn : n ≤ 64) (hok : ∀ i, i < n → (f i).OK) :
    (∃ v : Int, v ≠ 0 ∧ ∀ (A : Option Addr) (c : Nat) (W : World), Ors W A n f → Calls Try.prog 5 #[.int .i64 net, .int .i64 prot, .slice A n c] W fun e w' => e = .returned (.tuple #[.slice none 0 0, .int .i64 0, .int .i64 v]) ∧ Below W.heap.size W w') ∨ ((amtB net && amtB prot) = true ∧ 0 ≤ prot ∧ svB f net n = true) := by
  cases ha : amtB net && amtB prot
  · exact .inl ⟨10, by omega, fun A c W _ => serve_amt net prot A n c W ha⟩
  · by_cases hp : prot < 0
    · exact .inl ⟨1, by omega, fun A c W _ => serve_range net prot A n c W ha hp⟩
    · cases hs : svB f net n
      · refine .inl ⟨10, by omega, fun A c W hO => (serve_any net prot A n c f W hO hok ha (by omega) (by omega)).mono ?_⟩
        rintro e w' ⟨_, hno, hb⟩
        exact ⟨hno hs, hb⟩
      · exact .inr ⟨rfl, by omega, rfl⟩
end Go.Proofs.Ytgdalejccbhjcaa
