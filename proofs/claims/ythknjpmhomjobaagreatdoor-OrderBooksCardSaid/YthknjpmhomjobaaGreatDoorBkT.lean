/- A book's clone; nothing can be put to a book without orders; the last order of a number. -/
import Derived.Test.YthknjpmhomjobaaGreatDoorBkE
import Derived.Test.YthknjpmhomjobaaGreatDoorBkJ
namespace Go.Proofs.YthknjpmhomjobaaGreatDoor
open Go.RowKit Go.Sort
set_option linter.unusedVariables false
set_option linter.unusedSimpArgs false

/-- a book whose orders lie above a bound -/
def BkB (W : World) (q n : Nat) (f : Nat → Sta) (B : Nat) : Prop := ∃ A c, Bx W q 35 [.slice A n c] ∧ Ors W A n f ∧ (A = none → c = 0) ∧ ∀ g o, A = some ⟨g, o, none⟩ → B ≤ g ∧ g ≠ q
theorem BkB.bk {W : World} {q n : Nat} {f : Nat → Sta} {B : Nat} (h : BkB W q n f B) : Bk W q n f := by
  obtain ⟨A, c, h1, h2, h3, h4⟩ := h
  exact ⟨A, c, h1, h2, h3, fun g o e => (h4 g o e).2⟩
theorem BkB.below {W W' : World} {q n : Nat} {f : Nat → Sta} {B : Nat} (h : BkB W q n f B) (hb : Below W.heap.size W W') : BkB W' q n f B := by
  obtain ⟨A, c, h1, h2, h3⟩ := h
  exact ⟨A, c, h1.below hb, h2.below hb, h3⟩
theorem BkB.rel {w w' : World} {p q n : Nat} {f : Nat → Sta} {B : Nat} (h : BkB w q n f B) (hr : RelP p w w') (hp : p < B) (hq : B ≤ q) : BkB w' q n f B := by
  obtain ⟨A, c, h1, h2, h3, h4⟩ := h
  refine ⟨A, c, hr.bx h1 (by omega), fun h0 => ?_, h3, h4⟩
  obtain ⟨b, o, e, hc⟩ := h2 h0
  have hbp : b ≠ p := by have := (h4 b o e).1; omega
  refine ⟨b, o, e, fun i hi => ?_⟩
  obtain ⟨c0, c1, c2, c3, c4, c5, c6⟩ := hc i hi
  exact ⟨hr.cell c0 hbp, hr.cell c1 hbp, hr.cell c2 hbp, hr.cell c3 hbp, hr.cell c4 hbp, hr.cell c5 hbp, hr.cell c6 hbp⟩
/-- an own row of orders, by its cells -/
theorem own7_at {w : World} {B n c : Nat} {A : Option Addr} {f : Nat → Sta} (h : w.ownsRow B 50 7 (.slice A n c) n (stc7 f n)) {j : Nat} (hj : j < n) : ∃ g, A = some ⟨g, 0, none⟩ ∧ SAt w g (j * 7) (f j) := by
  obtain ⟨b, o, e, hc⟩ := (ors_own h) (by omega)
  obtain ⟨A', c', e', hA, hg⟩ := own_len h
  obtain ⟨rfl, _, rfl⟩ := Value.slice.inj e'
  obtain ⟨g, rfl⟩ := hg (by omega)
  obtain ⟨rfl, rfl⟩ : g = b ∧ 0 = o := by simpa using e
  have := hc j hj
  rw [Nat.zero_add] at this
  exact ⟨g, rfl, this⟩
theorem own_rel {w w' : World} {p B : Nat} {e : TypeId} {size n : Nat} {v : Value} {xs : List Value} (h : w.ownsRow B e size v n xs) (hr : RelP p w w') (hp : p < B) : w'.ownsRow B e size v n xs := by
  obtain ⟨w1, hb, rfl | ⟨u, rfl⟩⟩ := hr
  · exact own_below h hb
  · exact own_other (own_below h hb) hp 0 u
set_option maxRecDepth 100000 in
set_option maxHeartbeats 4000000 in
theorem bclone_any (p n : Nat) (f : Nat → Sta) (w : World) (h : Bk w p n f) (hn : n ≤ 100) :
    Calls Tryz.prog 17 #[.pointer (some ⟨p, 0, none⟩)] w fun e w' => ∃ q, e = .returned (.pointer (some ⟨q, 0, none⟩)) ∧ BkB w' q n f w.heap.size ∧ w.heap.size ≤ q ∧ Below w.heap.size w w' := by
  have cL := list_any p n f w h hn
  clear h
  go_enter Tryz.func17, Tryz.ntmps17
  go_wp2_with (fail)
  with_reducible refine cL.mono ?_
  rintro e w1 ⟨v, rfl, hown, B1⟩
  obtain ⟨A1, c1, rfl, hA1, _⟩ := own_len hown
  have hn1 : A1 = none → c1 = 0 := by
    rcases hown.2 with ⟨hv, _⟩ | ⟨g', cap, cur, hv, _⟩
    · intro _; simp at hv; exact hv.2.2
    · intro e; subst e; simp at hv
  have hp1 : ∀ g o, A1 = some ⟨g, o, none⟩ → w.heap.size ≤ g ∧ g ≠ w1.heap.size := fun g o e => by
    obtain ⟨g', e', h1, h2⟩ := hA1 _ e
    simp only [Addr.mk.injEq] at e'
    omega
  have NB := below_new w1 (.cells #[.slice A1 n c1] 35)
  have KZ := Lib.hid (bx_new w1 [.slice A1 n c1] 35)
  have HO := Lib.hid ((ors_own hown).below NB)
  have HN := Lib.hid (And.intro hn1 hp1)
  have HB := Lib.hid (below_step B1 NB B1.size)
  have HS := Lib.hid B1.size
  clear hown hA1 cL hn1 hp1 NB B1
  go_wp2
  go_ret
  exact ⟨_, rfl, ⟨A1, c1, KZ.out, HO.out, HN.out.1, HN.out.2⟩, HS.out, HB.out⟩
set_option maxRecDepth 100000 in
set_option maxHeartbeats 4000000 in
theorem took_zero (p m c : Nat) (f : Nat → Sta) (t : Nat → Tkn) (A : Option Addr) (w : World) (h : Bk w p 0 f) (hA : Tks w A m t) (hm : 0 < m) (hm2 : m ≤ 1000) :
    Calls Tryz.prog 18 #[.pointer (some ⟨p, 0, none⟩), .slice A m c] w (TwP p 0 f t m w) := by
  have hE : fsE (twE f 0 t) m = 3 := by
    have e0 : twE f 0 t 0 = 3 := by unfold twE; exact if_pos (show (-1 : Int) < 0 by omega)
    rw [fsE_stop (k := 0) hm rfl (by rw [e0]; omega), e0]
  have cL := list_any p 0 f w h (by omega)
  have hpw := h.lt
  go_enter Tryz.func18, Tryz.ntmps18
  go_wp2_with (fail)
  with_reducible refine cL.mono ?_
  rintro e w1 ⟨v, rfl, hown, B1⟩
  obtain ⟨A1, c1, rfl, _, _⟩ := own_len hown
  obtain ⟨b, o, rfl, hc⟩ := (hA.below B1) hm
  obtain ⟨d0, d1, d2, d3, d4, d5⟩ := hc 0 hm
  simp only [Nat.zero_mul, Nat.add_zero] at d0 d1 d2 d3 d4 d5
  replace h := h.below B1
  have hml : (0 : Int) < (m : Int) := by omega
  clear hown cL hc hA
  generalize (t 0).o = x0 at *
  generalize (t 0).b = x1 at *
  generalize (t 0).r = x2 at *
  generalize (t 0).d = x3 at *
  generalize (t 0).t = x4 at *
  generalize (t 0).c = x5 at *
  have NB := below_new w1 (.cells #[.int .i64 x0, .int .i64 x1, .int .i64 x2, .int .i64 x3, .int .i64 x4, .int .i64 x5] 48)
  have K := bx_new w1 [.int .i64 x0, .int .i64 x1, .int .i64 x2, .int .i64 x3, .int .i64 x4, .int .i64 x5] 48
  have k0 := K.cell (i := 0) rfl
  have cP := place_any p 0 f x0 _ (h.below NB) (by omega) (-1) rfl
  have B2 := below_step B1 NB B1.size
  have hB2 := B2.size
  clear NB K h B1
  go_wp2
  refine wp_loop_rounds 1 ?_
  rw [rounds_succ]
  go_wp2_with (fail)
  with_reducible refine cP.mono ?_
  rintro e w2 ⟨rfl, C2⟩
  have B3 := below_step B2 C2 hB2
  clear cP C2 B2
  go_wp2
  go_ret
  exact ⟨by rw [hE]; rfl, .of B3, fun h0 => absurd h0 (by rw [hE]; omega), fun _ => B3⟩
theorem took_all (p n m c : Nat) (f : Nat → Sta) (t : Nat → Tkn) (A : Option Addr) (w : World) (h : Bk w p n f) (hn : n ≤ 64) (hA : Tks w A m t) (hm : m ≤ 1000) :
    Calls Tryz.prog 18 #[.pointer (some ⟨p, 0, none⟩), .slice A m c] w (TwP p n f t m w) := by
  by_cases h0 : 0 < n
  · exact took_any p n m c f t A w h hn h0 hA hm
  · obtain rfl : n = 0 := by omega
    by_cases h1 : 0 < m
    · exact took_zero p m c f t A w h hA h1 hm
    · exact took_none p m c f t A w h hA (by omega)
/-- the last order of a number -/
def lst (f : Nat → Sta) (id : Int) : Nat → Int
  | 0 => -1
  | k + 1 => if (f k).id = id then (k : Int) else lst f id k
theorem lst_plc {f : Nat → Sta} {id : Int} {n : Nat} (hd : ∀ i k, i < n → k < n → (f i).id = (f k).id → i = k) : lst f id n = plc f id n := by
  induction n with
  | zero => rfl
  | succ n ih =>
    have ih' := ih fun i k hi hk e => hd i k (by omega) (by omega) e
    show (if (f n).id = id then (n : Int) else lst f id n) = (if plc f id n = -1 then (if (f n).id = id then (n : Int) else -1) else plc f id n)
    by_cases h : (f n).id = id
    · rw [if_pos h, if_pos h]
      have : plc f id n = -1 := plc_no fun i hi e => by have := hd i n (by omega) (by omega) (e.trans h.symm); omega
      rw [if_pos this]
    · rw [if_neg h, if_neg h, ih']
      by_cases h1 : plc f id n = -1
      · rw [if_pos h1, h1]
      · rw [if_neg h1]
theorem twF_id (f : Nat → Sta) (n : Nat) (t : Nat → Tkn) : ∀ k j, (twF f n t k j).id = (f j).id
  | 0, _ => rfl
  | k + 1, j => by
    show (upF (twF f n t k) (plc f (t k).o n).toNat (t k) j).id = _
    unfold upF
    split
    · exact twF_id f n t k j
    · exact twF_id f n t k j
theorem lst_id {f g : Nat → Sta} (h : ∀ j, (f j).id = (g j).id) (id : Int) : ∀ n, lst f id n = lst g id n
  | 0 => rfl
  | n + 1 => by
    show (if (f n).id = id then (n : Int) else lst f id n) = (if (g n).id = id then (n : Int) else lst g id n)
    rw [h n, lst_id h id n]
/-- what was taken in all may be, as long as nothing was wrong -/
theorem twF_amt {f : Nat → Sta} {n : Nat} {t : Nat → Tkn} (h : ∀ j, j < n → amtB (f j).tk = true) : ∀ k, fsE (twE f n t) k = 0 → ∀ j, j < n → amtB (twF f n t k j).tk = true
  | 0, _, j, hj => h j hj
  | k + 1, he, j, hj => by
    have he' : (if fsE (twE f n t) k = 0 then twE f n t k else fsE (twE f n t) k) = 0 := he
    by_cases h0 : fsE (twE f n t) k = 0
    · rw [if_pos h0] at he'
      have ih := twF_amt h k h0
      show amtB (upF (twF f n t k) (plc f (t k).o n).toNat (t k) j).tk = true
      unfold upF
      by_cases hj2 : j = (plc f (t k).o n).toNat
      · rw [if_pos hj2]
        unfold twE at he'
        by_cases h1 : plc f (t k).o n < 0
        · rw [if_pos h1] at he'; omega
        · rw [if_neg h1] at he'
          cases h2 : (amtB (twF f n t k (plc f (t k).o n).toNat).tk && amtB (t k).t && amtB ((twF f n t k (plc f (t k).o n).toNat).tk + (t k).t))
          · rw [if_pos h2] at he'; omega
          · simp only [Bool.and_eq_true] at h2
            rw [hj2]
            exact h2.2
      · rw [if_neg hj2]
        exact ih j hj
    · rw [if_neg h0] at he'
      exact absurd he' h0
def InvB (f : Nat → Sta) (n : Nat) : Prop := (∀ i, i < n → (f i).OK ∧ ((f i).tot = 0 ∨ (f i).tk + (f i).ar ≤ (f i).tot)) ∧ ∀ i k, i < n → k < n → (f i).id = (f k).id → i = k
theorem InvB.ok {f : Nat → Sta} {n : Nat} (h : InvB f n) : ∀ i, i < n → (f i).OK := fun i hi => (h.1 i hi).1
theorem plc_neg {f : Nat → Sta} {id : Int} {n : Nat} (h : plc f id n = -1) : ∀ i, i < n → (f i).id ≠ id := by
  induction n with
  | zero => intro i hi; omega
  | succ n ih =>
    have h' : (if plc f id n = -1 then (if (f n).id = id then (n : Int) else -1) else plc f id n) = -1 := h
    by_cases h1 : plc f id n = -1
    · rw [if_pos h1] at h'
      by_cases h2 : (f n).id = id
      · rw [if_pos h2] at h'; omega
      · intro i hi
        by_cases hin : i < n
        · exact ih h1 i hin
        · obtain rfl : i = n := by omega
          exact h2
    · rw [if_neg h1] at h'; exact absurd h' h1
theorem invB_add {f f' : Nat → Sta} {n : Nat} {s : Sta} (h : InvB f n) (hc : s.chk = 0) (h1 : s.tk = 0) (h2 : s.ar = 0) (hp : plc f s.id n = -1) (hm : MovO (n + 1) (exO f n s) f') : InvB f' (n + 1) := by
  obtain ⟨p, ⟨p1, p2⟩, hf⟩ := hm
  have hno := plc_neg hp
  have hz := chkO_zero hc
  have ex : ∀ i, i < n → exO f n s i = f i := fun i hi => by simp [exO, hi]
  have en : exO f n s n = s := by simp [exO]
  refine ⟨fun i hi => ?_, fun i k hi hk e => ?_⟩
  · rw [hf i hi]
    by_cases hpi : p i < n
    · rw [ex _ hpi]; exact h.1 _ hpi
    · have : p i = n := by have := p1 i hi; omega
      rw [this, en]
      exact ⟨⟨hc, by omega, by omega⟩, by omega⟩
  · rw [hf i hi, hf k hk] at e
    refine p2 i k hi hk ?_
    have a1 := p1 i hi
    have a2 := p1 k hk
    by_cases x1 : p i < n <;> by_cases x2 : p k < n
    · rw [ex _ x1, ex _ x2] at e; exact h.2 _ _ x1 x2 e
    · have e2 : p k = n := by omega
      rw [ex _ x1, e2, en] at e
      exact absurd e (hno _ x1)
    · have e1 : p i = n := by omega
      rw [ex _ x2, e1, en] at e
      exact absurd e.symm (hno _ x2)
    · omega
theorem plc_self {f : Nat → Sta} {n i : Nat} (h : ∀ i k, i < n → k < n → (f i).id = (f k).id → i = k) (hi : i < n) : plc f (f i).id n = i :=
  plc_at hi rfl fun k hk e => by have := h k i (by omega) hi e; omega
/-- what Add leaves, whatever is put in -/
def AnP (p : Nat) (w : World) (e : Ending) (w' : World) : Prop := ∃ (v : Int) (n : Nat) (f : Nat → Sta), e = .returned (.int .i64 v) ∧ n ≤ 8 ∧ InvB f n ∧ Bk w' p n f ∧ RelP p w w'
theorem add_inv (p n : Nat) (f : Nat → Sta) (i0 p0 a0 r0 t0 : Int) (w : World) (h : Bk w p n f) (hn : n ≤ 8) (hi : InvB f n) :
    Calls Tryz.prog 14 #[.pointer (some ⟨p, 0, none⟩), .agg #[.int .i64 i0, .int .i64 p0, .int .i64 a0, .int .i64 r0, .int .i64 t0]] w (AnP p w) := by
  by_cases hc : chkO i0 p0 a0 r0 t0 = 0
  · rcases plc_cases f i0 n with hp | ⟨j, _, hp, _⟩
    · by_cases h8 : n = 8
      · exact (add_twice p n f i0 p0 a0 r0 t0 w h hn hc (-1) hp (.inr ⟨by omega, h8⟩) _ rfl).mono fun e w' ⟨he, hb⟩ => ⟨_, n, f, he, hn, hi, h.below hb, RelP.of hb⟩
      · refine (add_book p n f i0 p0 a0 r0 t0 w h (by omega) hc hp).mono ?_
        rintro e w' ⟨f', he, hm, _, hb, hr⟩
        exact ⟨0, n + 1, f', he, by omega, invB_add (s := ⟨i0, p0, a0, r0, t0, 0, 0⟩) hi hc rfl rfl hp hm, hb, hr⟩
    · exact (add_twice p n f i0 p0 a0 r0 t0 w h hn hc j hp (.inl (by omega)) _ rfl).mono fun e w' ⟨he, hb⟩ => ⟨_, n, f, he, hn, hi, h.below hb, RelP.of hb⟩
  · exact (add_no p n f i0 p0 a0 r0 t0 w h hn hc).mono fun e w' ⟨he, hb⟩ => ⟨_, n, f, he, hn, hi, h.below hb, RelP.of hb⟩
theorem twE_nil {f : Nat → Sta} {n : Nat} {t : Nat → Tkn} {k : Nat} (hp : plc f (t k).o n = -1) : twE f n t k = 3 := by
  unfold twE
  rw [hp]
  exact if_pos (by omega)
theorem twE_bad {f : Nat → Sta} {n : Nat} {t : Nat → Tkn} {k i : Nat} (hp : plc f (t k).o n = (i : Int)) (h : 100000000000 < (t k).t ∨ (t k).t < -100000000000 ∨ 100000000000 < (twF f n t k i).tk + (t k).t ∨ (twF f n t k i).tk + (t k).t < -100000000000 ∨ 100000000000 < (t k).c ∨ (t k).c < -100000000000) : twE f n t k = 10 := by
  unfold twE
  rw [hp, if_neg (show ¬ (i : Int) < 0 by omega), show ((i : Int)).toNat = i by omega]
  split
  · rfl
  · next h1 =>
    split
    · rfl
    · next h2 =>
      exfalso
      have h1' : (amtB (twF f n t k i).tk && amtB (t k).t && amtB ((twF f n t k i).tk + (t k).t)) = true := by
        cases hh : (amtB (twF f n t k i).tk && amtB (t k).t && amtB ((twF f n t k i).tk + (t k).t))
        · exact absurd hh h1
        · rfl
      have h2' : amtB (t k).c = true := by
        cases hh : amtB (t k).c
        · exact absurd hh h2
        · rfl
      simp only [Bool.and_eq_true] at h1'
      have a := amtB_yes h1'.1.2
      have b := amtB_yes h1'.2
      have c := amtB_yes h2'
      omega
theorem twE_good {f : Nat → Sta} {n : Nat} {t : Nat → Tkn} {k i : Nat} (hp : plc f (t k).o n = (i : Int)) (h0 : amtB (twF f n t k i).tk = true) (h1 : -100000000000 ≤ (t k).t ∧ (t k).t ≤ 100000000000) (h2 : -100000000000 ≤ (twF f n t k i).tk + (t k).t ∧ (twF f n t k i).tk + (t k).t ≤ 100000000000) (h3 : -100000000000 ≤ (t k).c ∧ (t k).c ≤ 100000000000) : twE f n t k = 0 := by
  unfold twE
  rw [hp, if_neg (show ¬ (i : Int) < 0 by omega), show ((i : Int)).toNat = i by omega, h0, amtB_mk h1.1 h1.2, amtB_mk h2.1 h2.2, amtB_mk h3.1 h3.2]
  rfl
theorem fsE_next {e : Nat → Int} {k : Nat} (h : fsE e k = 0) : fsE e (k + 1) = e k := if_pos h
theorem fsE_keep {e : Nat → Int} {k : Nat} (h : fsE e k ≠ 0) : fsE e (k + 1) = fsE e k := if_neg h
theorem twF_next {f F : Nat → Sta} {n : Nat} {t : Nat → Tkn} {k i : Nat} (hp : plc f (t k).o n = (i : Int)) (h : ∀ j, j < n → F j = twF f n t k j) : ∀ j, j < n → upF F i (t k) j = twF f n t (k + 1) j := fun j hj => by
  show _ = upF (twF f n t k) (plc f (t k).o n).toNat (t k) j
  rw [hp, show ((i : Int)).toNat = i by omega]
  unfold upF
  rw [h j hj]
theorem upF_id (F : Nat → Sta) (i : Nat) (x : Tkn) (j : Nat) : (upF F i x j).id = (F j).id := by
  unfold upF
  split <;> rfl
theorem meas_step {N i : Nat} (h : i < N) : N - (intOf (Value.int .i64 ((i : Int) + 1))).toNat < N - (intOf (Value.int .i64 (i : Int))).toNat := by
  simp [intOf]; omega
end Go.Proofs.YthknjpmhomjobaaGreatDoor
