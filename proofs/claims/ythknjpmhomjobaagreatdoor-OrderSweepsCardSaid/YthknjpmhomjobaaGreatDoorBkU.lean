/- Merged: BkT, BkU. -/
import Derived.Test.YthknjpmhomjobaaGreatDoorBkE
import Derived.Test.YthknjpmhomjobaaGreatDoorBkJ
import Derived.Test.YthknjpmhomjobaaGreatDoorBkI
import Derived.Test.YthknjpmhomjobaaGreatDoorBkL
import Derived.Deep.RegionHeld3
/- A book's clone; nothing can be put to a book without orders; the last order of a number. -/
namespace Go.Proofs.YthknjpmhomjobaaGreatDoor
open Go.RowKit Go.Sort
set_option linter.unusedVariables false
set_option linter.unusedSimpArgs false

/-- a book whose orders lie above a bound -/
def BkB (W : World) (q n : Nat) (f : Nat → Sta) (B : Nat) : Prop := ∃ A c, Bx W q 35 [.slice A n c] ∧ Ors W A n f ∧ (A = none → c = 0) ∧ ∀ g o, A = some ⟨g, o, none⟩ → B ≤ g ∧ g ≠ q
theorem BkB.bk {W : World} {q n : Nat} {f : Nat → Sta} {B : Nat} (h : BkB W q n f B) : Bk W q n f := by
  obtain ⟨A, c, h1, h2, h3, h4⟩ := h
  exact ⟨A, c, h1, h2, h3, fun g o e => (h4 g o e).2⟩
theorem BkB.below {W W' : World} {q n : Nat} {f : Nat → Sta} {B : Nat} (h : BkB W q n f B) (hb : Below W.heap.size W W') : BkB W' q n f B := by
  obtain ⟨A, c, h1, h2, h3⟩ := h
  exact ⟨A, c, h1.below hb, h2.below hb, h3⟩
theorem BkB.rel {w w' : World} {p q n : Nat} {f : Nat → Sta} {B : Nat} (h : BkB w q n f B) (hr : RelP p w w') (hp : p < B) (hq : B ≤ q) : BkB w' q n f B := by
  obtain ⟨A, c, h1, h2, h3, h4⟩ := h
  refine ⟨A, c, hr.bx h1 (by omega), fun h0 => ?_, h3, h4⟩
  obtain ⟨b, o, e, hc⟩ := h2 h0
  have hbp : b ≠ p := by have := (h4 b o e).1; omega
  refine ⟨b, o, e, fun i hi => ?_⟩
  obtain ⟨c0, c1, c2, c3, c4, c5, c6⟩ := hc i hi
  exact ⟨hr.cell c0 hbp, hr.cell c1 hbp, hr.cell c2 hbp, hr.cell c3 hbp, hr.cell c4 hbp, hr.cell c5 hbp, hr.cell c6 hbp⟩
/-- an own row of orders, by its cells -/
theorem own7_at {w : World} {B n c : Nat} {A : Option Addr} {f : Nat → Sta} (h : w.ownsRow B 50 7 (.slice A n c) n (stc7 f n)) {j : Nat} (hj : j < n) : ∃ g, A = some ⟨g, 0, none⟩ ∧ SAt w g (j * 7) (f j) := by
  obtain ⟨b, o, e, hc⟩ := (ors_own h) (by omega)
  obtain ⟨A', c', e', hA, hg⟩ := own_len h
  obtain ⟨rfl, _, rfl⟩ := Value.slice.inj e'
  obtain ⟨g, rfl⟩ := hg (by omega)
  obtain ⟨rfl, rfl⟩ : g = b ∧ 0 = o := by simpa using e
  have := hc j hj
  rw [Nat.zero_add] at this
  exact ⟨g, rfl, this⟩
theorem own_rel {w w' : World} {p B : Nat} {e : TypeId} {size n : Nat} {v : Value} {xs : List Value} (h : w.ownsRow B e size v n xs) (hr : RelP p w w') (hp : p < B) : w'.ownsRow B e size v n xs := by
  obtain ⟨w1, hb, rfl | ⟨u, rfl⟩⟩ := hr
  · exact own_below h hb
  · exact own_other (own_below h hb) hp 0 u
set_option maxRecDepth 100000 in
set_option maxHeartbeats 4000000 in
theorem bclone_any (p n : Nat) (f : Nat → Sta) (w : World) (h : Bk w p n f) (hn : n ≤ 100) :
    Calls Tryz.prog 17 #[.pointer (some ⟨p, 0, none⟩)] w fun e w' => ∃ q, e = .returned (.pointer (some ⟨q, 0, none⟩)) ∧ BkB w' q n f w.heap.size ∧ w.heap.size ≤ q ∧ Below w.heap.size w w' := by
  have cL := list_any p n f w h hn
  clear h
  go_enter Tryz.func17, Tryz.ntmps17
  go_wp2_with (fail)
  with_reducible refine cL.mono ?_
  rintro e w1 ⟨v, rfl, hown, B1⟩
  obtain ⟨A1, c1, rfl, hA1, _⟩ := own_len hown
  have hn1 : A1 = none → c1 = 0 := by
    rcases hown.2 with ⟨hv, _⟩ | ⟨g', cap, cur, hv, _⟩
    · intro _; simp at hv; exact hv.2.2
    · intro e; subst e; simp at hv
  have hp1 : ∀ g o, A1 = some ⟨g, o, none⟩ → w.heap.size ≤ g ∧ g ≠ w1.heap.size := fun g o e => by
    obtain ⟨g', e', h1, h2⟩ := hA1 _ e
    simp only [Addr.mk.injEq] at e'
    omega
  have NB := below_new w1 (.cells #[.slice A1 n c1] 35)
  have KZ := Lib.hid (bx_new w1 [.slice A1 n c1] 35)
  have HO := Lib.hid ((ors_own hown).below NB)
  have HN := Lib.hid (And.intro hn1 hp1)
  have HB := Lib.hid (below_step B1 NB B1.size)
  have HS := Lib.hid B1.size
  clear hown hA1 cL hn1 hp1 NB B1
  go_wp2
  go_ret
  exact ⟨_, rfl, ⟨A1, c1, KZ.out, HO.out, HN.out.1, HN.out.2⟩, HS.out, HB.out⟩
set_option maxRecDepth 100000 in
set_option maxHeartbeats 4000000 in
theorem took_zero (p m c : Nat) (f : Nat → Sta) (t : Nat → Tkn) (A : Option Addr) (w : World) (h : Bk w p 0 f) (hA : Tks w A m t) (hm : 0 < m) (hm2 : m ≤ 1000) :
    Calls Tryz.prog 18 #[.pointer (some ⟨p, 0, none⟩), .slice A m c] w (TwP p 0 f t m w) := by
  have hE : fsE (twE f 0 t) m = 3 := by
    have e0 : twE f 0 t 0 = 3 := by unfold twE; exact if_pos (show (-1 : Int) < 0 by omega)
    rw [fsE_stop (k := 0) hm rfl (by rw [e0]; omega), e0]
  have cL := list_any p 0 f w h (by omega)
  have hpw := h.lt
  go_enter Tryz.func18, Tryz.ntmps18
  go_wp2_with (fail)
  with_reducible refine cL.mono ?_
  rintro e w1 ⟨v, rfl, hown, B1⟩
  obtain ⟨A1, c1, rfl, _, _⟩ := own_len hown
  obtain ⟨b, o, rfl, hc⟩ := (hA.below B1) hm
  obtain ⟨d0, d1, d2, d3, d4, d5⟩ := hc 0 hm
  simp only [Nat.zero_mul, Nat.add_zero] at d0 d1 d2 d3 d4 d5
  replace h := h.below B1
  have hml : (0 : Int) < (m : Int) := by omega
  clear hown cL hc hA
  generalize (t 0).o = x0 at *
  generalize (t 0).b = x1 at *
  generalize (t 0).r = x2 at *
  generalize (t 0).d = x3 at *
  generalize (t 0).t = x4 at *
  generalize (t 0).c = x5 at *
  have NB := below_new w1 (.cells #[.int .i64 x0, .int .i64 x1, .int .i64 x2, .int .i64 x3, .int .i64 x4, .int .i64 x5] 48)
  have K := bx_new w1 [.int .i64 x0, .int .i64 x1, .int .i64 x2, .int .i64 x3, .int .i64 x4, .int .i64 x5] 48
  have k0 := K.cell (i := 0) rfl
  have cP := place_any p 0 f x0 _ (h.below NB) (by omega) (-1) rfl
  have B2 := below_step B1 NB B1.size
  have hB2 := B2.size
  clear NB K h B1
  go_wp2
  refine wp_loop_rounds 1 ?_
  rw [rounds_succ]
  go_wp2_with (fail)
  with_reducible refine cP.mono ?_
  rintro e w2 ⟨rfl, C2⟩
  have B3 := below_step B2 C2 hB2
  clear cP C2 B2
  go_wp2
  go_ret
  exact ⟨by rw [hE]; rfl, .of B3, fun h0 => absurd h0 (by rw [hE]; omega), fun _ => B3⟩
theorem took_all (p n m c : Nat) (f : Nat → Sta) (t : Nat → Tkn) (A : Option Addr) (w : World) (h : Bk w p n f) (hn : n ≤ 64) (hA : Tks w A m t) (hm : m ≤ 1000) :
    Calls Tryz.prog 18 #[.pointer (some ⟨p, 0, none⟩), .slice A m c] w (TwP p n f t m w) := by
  by_cases h0 : 0 < n
  · exact took_any p n m c f t A w h hn h0 hA hm
  · obtain rfl : n = 0 := by omega
    by_cases h1 : 0 < m
    · exact took_zero p m c f t A w h hA h1 hm
    · exact took_none p m c f t A w h hA (by omega)
/-- the last order of a number -/
def lst (f : Nat → Sta) (id : Int) : Nat → Int
  | 0 => -1
  | k + 1 => if (f k).id = id then (k : Int) else lst f id k
theorem lst_plc {f : Nat → Sta} {id : Int} {n : Nat} (hd : ∀ i k, i < n → k < n → (f i).id = (f k).id → i = k) : lst f id n = plc f id n := by
  induction n with
  | zero => rfl
  | succ n ih =>
    have ih' := ih fun i k hi hk e => hd i k (by omega) (by omega) e
    show (if (f n).id = id then (n : Int) else lst f id n) = (if plc f id n = -1 then (if (f n).id = id then (n : Int) else -1) else plc f id n)
    by_cases h : (f n).id = id
    · rw [if_pos h, if_pos h]
      have : plc f id n = -1 := plc_no fun i hi e => by have := hd i n (by omega) (by omega) (e.trans h.symm); omega
      rw [if_pos this]
    · rw [if_neg h, if_neg h, ih']
      by_cases h1 : plc f id n = -1
      · rw [if_pos h1, h1]
      · rw [if_neg h1]
theorem twF_id (f : Nat → Sta) (n : Nat) (t : Nat → Tkn) : ∀ k j, (twF f n t k j).id = (f j).id
  | 0, _ => rfl
  | k + 1, j => by
    show (upF (twF f n t k) (plc f (t k).o n).toNat (t k) j).id = _
    unfold upF
    split
    · exact twF_id f n t k j
    · exact twF_id f n t k j
theorem lst_id {f g : Nat → Sta} (h : ∀ j, (f j).id = (g j).id) (id : Int) : ∀ n, lst f id n = lst g id n
  | 0 => rfl
  | n + 1 => by
    show (if (f n).id = id then (n : Int) else lst f id n) = (if (g n).id = id then (n : Int) else lst g id n)
    rw [h n, lst_id h id n]
/-- what was taken in all may be, as long as nothing was wrong -/
theorem twF_amt {f : Nat → Sta} {n : Nat} {t : Nat → Tkn} (h : ∀ j, j < n → amtB (f j).tk = true) : ∀ k, fsE (twE f n t) k = 0 → ∀ j, j < n → amtB (twF f n t k j).tk = true
  | 0, _, j, hj => h j hj
  | k + 1, he, j, hj => by
    have he' : (if fsE (twE f n t) k = 0 then twE f n t k else fsE (twE f n t) k) = 0 := he
    by_cases h0 : fsE (twE f n t) k = 0
    · rw [if_pos h0] at he'
      have ih := twF_amt h k h0
      show amtB (upF (twF f n t k) (plc f (t k).o n).toNat (t k) j).tk = true
      unfold upF
      by_cases hj2 : j = (plc f (t k).o n).toNat
      · rw [if_pos hj2]
        unfold twE at he'
        by_cases h1 : plc f (t k).o n < 0
        · rw [if_pos h1] at he'; omega
        · rw [if_neg h1] at he'
          cases h2 : (amtB (twF f n t k (plc f (t k).o n).toNat).tk && amtB (t k).t && amtB ((twF f n t k (plc f (t k).o n).toNat).tk + (t k).t))
          · rw [if_pos h2] at he'; omega
          · simp only [Bool.and_eq_true] at h2
            rw [hj2]
            exact h2.2
      · rw [if_neg hj2]
        exact ih j hj
    · rw [if_neg h0] at he'
      exact absurd he' h0
def InvB (f : Nat → Sta) (n : Nat) : Prop := (∀ i, i < n → (f i).OK ∧ ((f i).tot = 0 ∨ (f i).tk + (f i).ar ≤ (f i).tot)) ∧ ∀ i k, i < n → k < n → (f i).id = (f k).id → i = k
theorem InvB.ok {f : Nat → Sta} {n : Nat} (h : InvB f n) : ∀ i, i < n → (f i).OK := fun i hi => (h.1 i hi).1
theorem plc_neg {f : Nat → Sta} {id : Int} {n : Nat} (h : plc f id n = -1) : ∀ i, i < n → (f i).id ≠ id := by
  induction n with
  | zero => intro i hi; omega
  | succ n ih =>
    have h' : (if plc f id n = -1 then (if (f n).id = id then (n : Int) else -1) else plc f id n) = -1 := h
    by_cases h1 : plc f id n = -1
    · rw [if_pos h1] at h'
      by_cases h2 : (f n).id = id
      · rw [if_pos h2] at h'; omega
      · intro i hi
        by_cases hin : i < n
        · exact ih h1 i hin
        · obtain rfl : i = n := by omega
          exact h2
    · rw [if_neg h1] at h'; exact absurd h' h1
theorem invB_add {f f' : Nat → Sta} {n : Nat} {s : Sta} (h : InvB f n) (hc : s.chk = 0) (h1 : s.tk = 0) (h2 : s.ar = 0) (hp : plc f s.id n = -1) (hm : MovO (n + 1) (exO f n s) f') : InvB f' (n + 1) := by
  obtain ⟨p, ⟨p1, p2⟩, hf⟩ := hm
  have hno := plc_neg hp
  have hz := chkO_zero hc
  have ex : ∀ i, i < n → exO f n s i = f i := fun i hi => by simp [exO, hi]
  have en : exO f n s n = s := by simp [exO]
  refine ⟨fun i hi => ?_, fun i k hi hk e => ?_⟩
  · rw [hf i hi]
    by_cases hpi : p i < n
    · rw [ex _ hpi]; exact h.1 _ hpi
    · have : p i = n := by have := p1 i hi; omega
      rw [this, en]
      exact ⟨⟨hc, by omega, by omega⟩, by omega⟩
  · rw [hf i hi, hf k hk] at e
    refine p2 i k hi hk ?_
    have a1 := p1 i hi
    have a2 := p1 k hk
    by_cases x1 : p i < n <;> by_cases x2 : p k < n
    · rw [ex _ x1, ex _ x2] at e; exact h.2 _ _ x1 x2 e
    · have e2 : p k = n := by omega
      rw [ex _ x1, e2, en] at e
      exact absurd e (hno _ x1)
    · have e1 : p i = n := by omega
      rw [ex _ x2, e1, en] at e
      exact absurd e.symm (hno _ x2)
    · omega
theorem plc_self {f : Nat → Sta} {n i : Nat} (h : ∀ i k, i < n → k < n → (f i).id = (f k).id → i = k) (hi : i < n) : plc f (f i).id n = i :=
  plc_at hi rfl fun k hk e => by have := h k i (by omega) hi e; omega
/-- what Add leaves, whatever is put in -/
def AnP (p : Nat) (w : World) (e : Ending) (w' : World) : Prop := ∃ (v : Int) (n : Nat) (f : Nat → Sta), e = .returned (.int .i64 v) ∧ n ≤ 8 ∧ InvB f n ∧ Bk w' p n f ∧ RelP p w w'
theorem add_inv (p n : Nat) (f : Nat → Sta) (i0 p0 a0 r0 t0 : Int) (w : World) (h : Bk w p n f) (hn : n ≤ 8) (hi : InvB f n) :
    Calls Tryz.prog 14 #[.pointer (some ⟨p, 0, none⟩), .agg #[.int .i64 i0, .int .i64 p0, .int .i64 a0, .int .i64 r0, .int .i64 t0]] w (AnP p w) := by
  by_cases hc : chkO i0 p0 a0 r0 t0 = 0
  · rcases plc_cases f i0 n with hp | ⟨j, _, hp, _⟩
    · by_cases h8 : n = 8
      · exact (add_twice p n f i0 p0 a0 r0 t0 w h hn hc (-1) hp (.inr ⟨by omega, h8⟩) _ rfl).mono fun e w' ⟨he, hb⟩ => ⟨_, n, f, he, hn, hi, h.below hb, RelP.of hb⟩
      · refine (add_book p n f i0 p0 a0 r0 t0 w h (by omega) hc hp).mono ?_
        rintro e w' ⟨f', he, hm, _, hb, hr⟩
        exact ⟨0, n + 1, f', he, by omega, invB_add (s := ⟨i0, p0, a0, r0, t0, 0, 0⟩) hi hc rfl rfl hp hm, hb, hr⟩
    · exact (add_twice p n f i0 p0 a0 r0 t0 w h hn hc j hp (.inl (by omega)) _ rfl).mono fun e w' ⟨he, hb⟩ => ⟨_, n, f, he, hn, hi, h.below hb, RelP.of hb⟩
  · exact (add_no p n f i0 p0 a0 r0 t0 w h hn hc).mono fun e w' ⟨he, hb⟩ => ⟨_, n, f, he, hn, hi, h.below hb, RelP.of hb⟩
theorem twE_nil {f : Nat → Sta} {n : Nat} {t : Nat → Tkn} {k : Nat} (hp : plc f (t k).o n = -1) : twE f n t k = 3 := by
  unfold twE
  rw [hp]
  exact if_pos (by omega)
theorem twE_bad {f : Nat → Sta} {n : Nat} {t : Nat → Tkn} {k i : Nat} (hp : plc f (t k).o n = (i : Int)) (h : 100000000000 < (t k).t ∨ (t k).t < -100000000000 ∨ 100000000000 < (twF f n t k i).tk + (t k).t ∨ (twF f n t k i).tk + (t k).t < -100000000000 ∨ 100000000000 < (t k).c ∨ (t k).c < -100000000000) : twE f n t k = 10 := by
  unfold twE
  rw [hp, if_neg (show ¬ (i : Int) < 0 by omega), show ((i : Int)).toNat = i by omega]
  split
  · rfl
  · next h1 =>
    split
    · rfl
    · next h2 =>
      exfalso
      have h1' : (amtB (twF f n t k i).tk && amtB (t k).t && amtB ((twF f n t k i).tk + (t k).t)) = true := by
        cases hh : (amtB (twF f n t k i).tk && amtB (t k).t && amtB ((twF f n t k i).tk + (t k).t))
        · exact absurd hh h1
        · rfl
      have h2' : amtB (t k).c = true := by
        cases hh : amtB (t k).c
        · exact absurd hh h2
        · rfl
      simp only [Bool.and_eq_true] at h1'
      have a := amtB_yes h1'.1.2
      have b := amtB_yes h1'.2
      have c := amtB_yes h2'
      omega
theorem twE_good {f : Nat → Sta} {n : Nat} {t : Nat → Tkn} {k i : Nat} (hp : plc f (t k).o n = (i : Int)) (h0 : amtB (twF f n t k i).tk = true) (h1 : -100000000000 ≤ (t k).t ∧ (t k).t ≤ 100000000000) (h2 : -100000000000 ≤ (twF f n t k i).tk + (t k).t ∧ (twF f n t k i).tk + (t k).t ≤ 100000000000) (h3 : -100000000000 ≤ (t k).c ∧ (t k).c ≤ 100000000000) : twE f n t k = 0 := by
  unfold twE
  rw [hp, if_neg (show ¬ (i : Int) < 0 by omega), show ((i : Int)).toNat = i by omega, h0, amtB_mk h1.1 h1.2, amtB_mk h2.1 h2.2, amtB_mk h3.1 h3.2]
  rfl
theorem fsE_next {e : Nat → Int} {k : Nat} (h : fsE e k = 0) : fsE e (k + 1) = e k := if_pos h
theorem fsE_keep {e : Nat → Int} {k : Nat} (h : fsE e k ≠ 0) : fsE e (k + 1) = fsE e k := if_neg h
theorem twF_next {f F : Nat → Sta} {n : Nat} {t : Nat → Tkn} {k i : Nat} (hp : plc f (t k).o n = (i : Int)) (h : ∀ j, j < n → F j = twF f n t k j) : ∀ j, j < n → upF F i (t k) j = twF f n t (k + 1) j := fun j hj => by
  show _ = upF (twF f n t k) (plc f (t k).o n).toNat (t k) j
  rw [hp, show ((i : Int)).toNat = i by omega]
  unfold upF
  rw [h j hj]
theorem upF_id (F : Nat → Sta) (i : Nat) (x : Tkn) (j : Nat) : (upF F i x j).id = (F j).id := by
  unfold upF
  split <;> rfl
theorem meas_step {N i : Nat} (h : i < N) : N - (intOf (Value.int .i64 ((i : Int) + 1))).toNat < N - (intOf (Value.int .i64 (i : Int))).toNat := by
  simp [intOf]; omega
end Go.Proofs.YthknjpmhomjobaaGreatDoor

/- Orders in a row of the call's own (five cells each); does a list stand as it should? -/
namespace Go.Proofs.YthknjpmhomjobaaGreatDoor
open Go.RowKit Go.Sort
set_option linter.unusedVariables false
set_option linter.unusedSimpArgs false

def Sta.os (s : Sta) : List Value := [.int .i64 s.id, .int .i64 s.pr, .int .i64 s.am, .int .i64 s.rt, .int .i64 s.tot]
def odc (g : Nat → Sta) : Nat → List Value
  | 0 => []
  | n + 1 => odc g n ++ (g n).os
theorem odc_len (g : Nat → Sta) (n : Nat) : (odc g n).length = n * 5 := by
  induction n with
  | zero => rfl
  | succ n ih => simp [odc, ih, Sta.os]; omega
theorem odc_get (g : Nat → Sta) {n i j : Nat} (hi : i < n) (hj : j < 5) : (odc g n)[i * 5 + j]? = (g i).os[j]? := by
  induction n with
  | zero => omega
  | succ n ih =>
    show (odc g n ++ (g n).os)[i * 5 + j]? = _
    by_cases h : i < n
    · rw [List.getElem?_append_left (by rw [odc_len]; omega)]; exact ih h
    · obtain rfl : i = n := by omega
      rw [List.getElem?_append_right (by rw [odc_len]; omega), odc_len, show i * 5 + j - i * 5 = j by omega]
theorem odc_one (f : Nat → Sta) (n : Nat) : ∀ v ∈ odc f n, v.oneCell' = true := by
  induction n with
  | zero => intro v hv; cases hv
  | succ n ih =>
    intro v hv
    rcases List.mem_append.1 (show v ∈ odc f n ++ (f n).os from hv) with h | h
    · exact ih v h
    · simp [Sta.os] at h
      rcases h with rfl | rfl | rfl | rfl | rfl <;> rfl
theorem odc_take (f : Nat → Sta) {n k : Nat} (hk : k ≤ n) : (odc f n).take (k * 5) = odc f k := by
  induction n with
  | zero => obtain rfl : k = 0 := by omega
            rfl
  | succ n ih =>
    by_cases h : k = n + 1
    · subst h; rw [List.take_of_length_le (by rw [odc_len]; exact Nat.le_refl _)]
    · show (odc f n ++ (f n).os).take (k * 5) = _
      rw [List.take_append_of_le_length (by rw [odc_len]; omega)]
      exact ih (by omega)
theorem odc_ext {f g : Nat → Sta} : ∀ {n : Nat}, (∀ i, i < n → f i = g i) → odc f n = odc g n
  | 0, _ => rfl
  | n + 1, h => by
    show odc f n ++ (f n).os = odc g n ++ (g n).os
    rw [odc_ext (fun i hi => h i (by omega)), h n (by omega)]
/-- the cells of all but one -/
theorem odc_del (f : Nat → Sta) (i : Nat) : ∀ m, odc (dlO f i) (i + m) = odc f i ++ odc (fun j => f (i + 1 + j)) m
  | 0 => by
    rw [Nat.add_zero, show odc (fun j => f (i + 1 + j)) 0 = [] from rfl, List.append_nil]
    exact odc_ext fun j hj => if_pos hj
  | m + 1 => by
    show odc (dlO f i) (i + m) ++ (dlO f i (i + m)).os = odc f i ++ (odc (fun j => f (i + 1 + j)) m ++ (f (i + 1 + m)).os)
    rw [odc_del f i m, List.append_assoc]
    congr 2
    unfold dlO
    rw [if_neg (by omega), show i + m + 1 = i + 1 + m by omega]
theorem odc_add (f : Nat → Sta) (a : Nat) : ∀ b, odc f (a + b) = odc f a ++ odc (fun j => f (a + j)) b
  | 0 => by rw [Nat.add_zero, show odc (fun j => f (a + j)) 0 = [] from rfl, List.append_nil]
  | b + 1 => by
    show odc f (a + b) ++ (f (a + b)).os = odc f a ++ (odc (fun j => f (a + j)) b ++ (f (a + b)).os)
    rw [odc_add f a b, List.append_assoc]
theorem infoOd : (Tryz.prog.info? 23).map (fun i => (i.zero, i.size, i.bytes)) = some (some (.agg #[.int .i64 0, .int .i64 0, .int .i64 0, .int .i64 0, .int .i64 0]), 5, 40) := by kernel_rfl
theorem own5_at {w : World} {B n c : Nat} {A : Option Addr} {f : Nat → Sta} (h : w.ownsRow B 23 5 (.slice A n c) n (odc f n)) {j : Nat} (hj : j < n) : ∃ g, A = some ⟨g, 0, none⟩ ∧ OAt w g (j * 5) (f j) := by
  obtain ⟨A', c', e', hA, hg⟩ := own_len h
  obtain ⟨rfl, _, rfl⟩ := Value.slice.inj e'
  obtain ⟨g, rfl⟩ := hg (by omega)
  exact ⟨g, rfl, own_cells h ((odc_get f hj (j := 0) (by omega)).trans rfl), own_cells h ((odc_get f hj (j := 1) (by omega)).trans rfl), own_cells h ((odc_get f hj (j := 2) (by omega)).trans rfl), own_cells h ((odc_get f hj (j := 3) (by omega)).trans rfl), own_cells h ((odc_get f hj (j := 4) (by omega)).trans rfl)⟩
theorem ods_own {w : World} {B n c : Nat} {A : Option Addr} {f : Nat → Sta} (h : w.ownsRow B 23 5 (.slice A n c) n (odc f n)) : Ods w A n f := fun h0 => by
  obtain ⟨g, rfl, _⟩ := own5_at h h0
  refine ⟨g, 0, rfl, fun i hi => ?_⟩
  obtain ⟨g', e, hc⟩ := own5_at h hi
  obtain rfl : g = g' := by simpa using e
  rw [Nat.zero_add]
  exact hc
/-- are two orders the same? -/
def eqO (a b : Sta) : Bool := decide (a.id = b.id ∧ a.pr = b.pr ∧ a.am = b.am ∧ a.rt = b.rt ∧ a.tot = b.tot)
theorem eq_order (a0 a1 a2 a3 a4 b0 b1 b2 b3 b4 : Int) (v : Bool) (hv : decide (a0 = b0 ∧ a1 = b1 ∧ a2 = b2 ∧ a3 = b3 ∧ a4 = b4) = v) (W : World) : (binOp .eql 23 (.agg #[.int .i64 a0, .int .i64 a1, .int .i64 a2, .int .i64 a3, .int .i64 a4]) (.agg #[.int .i64 b0, .int .i64 b1, .int .i64 b2, .int .i64 b3, .int .i64 b4])).run Tryz.prog W = .ok (.bool v) W := by
  subst hv
  by_cases h1 : a0 = b0
  · by_cases h2 : a1 = b1
    · by_cases h3 : a2 = b2
      · by_cases h4 : a3 = b3
        · by_cases h5 : a4 = b4 <;> simp [go_sem, h1, h2, h3, h4, h5]
        · simp [go_sem, h1, h2, h3, h4]
      · simp [go_sem, h1, h2, h3]
    · simp [go_sem, h1, h2]
  · simp [go_sem, h1]
/-- is an order among the first ones? -/
def fnO (h : Nat → Sta) (s : Sta) : Nat → Bool
  | 0 => false
  | k + 1 => fnO h s k || eqO (h k) s
theorem fn_yes {h : Nat → Sta} {s : Sta} {j : Nat} : ∀ {n : Nat}, j < n → h j = s → fnO h s n = true
  | 0, hj, _ => absurd hj (Nat.not_lt_zero j)
  | n + 1, hj, e => by
    show (fnO h s n || eqO (h n) s) = true
    by_cases hn : j < n
    · rw [fn_yes hn e]; rfl
    · obtain rfl : j = n := by omega
      rw [e, show eqO s s = true by simp [eqO], Bool.or_true]
/-- what holds of the orders that were put in, and of those that stand -/
def InvJ (n : Nat) (h f : Nat → Sta) : Prop := MovO n h f ∧ SrO f n ∧ (∀ i k, i < n → k < n → (h i).id = (h k).id → i = k) ∧ ∀ i, i < n → (h i).tk = 0 ∧ (h i).ar = 0
theorem InvJ.ids {n : Nat} {h f : Nat → Sta} (H : InvJ n h f) : ∀ i k, i < n → k < n → (f i).id = (f k).id → i = k := movO_ids H.1 H.2.2.1
theorem InvJ.zero {n : Nat} {h f : Nat → Sta} (H : InvJ n h f) {i : Nat} (hi : i < n) : (f i).tk = 0 ∧ (f i).ar = 0 := by
  obtain ⟨p, ⟨p1, _⟩, hp⟩ := H.1
  rw [hp i hi]
  exact H.2.2.2 _ (p1 i hi)
theorem InvJ.found {n : Nat} {h f : Nat → Sta} (H : InvJ n h f) {i : Nat} (hi : i < n) : fnO h (f i) n = true := by
  obtain ⟨p, ⟨p1, _⟩, hp⟩ := H.1
  exact fn_yes (p1 i hi) (hp i hi).symm
theorem InvJ.rise {n : Nat} {h f : Nat → Sta} (H : InvJ n h f) {k : Nat} (hk : k + 1 < n) : (f k).pr < (f (k + 1)).pr ∨ ((f k).pr = (f (k + 1)).pr ∧ (f k).id < (f (k + 1)).id) := srO_strict H.2.1 H.ids k hk
/-- a one to one map of the first numbers meets each -/
theorem perO_surj : ∀ {n : Nat} {p : Nat → Nat}, PerO n p → ∀ a, a < n → ∃ i, i < n ∧ p i = a
  | 0, _, _, a, h => absurd h (Nat.not_lt_zero a)
  | n + 1, p, ⟨p1, p2⟩, a, ha => by
    by_cases hab : p n = a
    · exact ⟨n, by omega, hab⟩
    have hb := p1 n (by omega)
    have hne : ∀ i, i < n → p i ≠ p n := fun i hi e => by have := p2 i n (by omega) (by omega) e; omega
    have hP : PerO n fun i => if p i = n then p n else p i := by
      refine ⟨fun i hi => ?_, fun i k hi hk e => ?_⟩
      · show (if p i = n then p n else p i) < n
        have a1 := p1 i (by omega)
        have a2 := hne i hi
        split <;> omega
      · have e' : (if p i = n then p n else p i) = (if p k = n then p n else p k) := e
        have a1 := hne i hi
        have a2 := hne k hk
        by_cases h1 : p i = n <;> by_cases h2 : p k = n
        · exact p2 i k (by omega) (by omega) (h1.trans h2.symm)
        · rw [if_pos h1, if_neg h2] at e'; exact absurd e'.symm a2
        · rw [if_neg h1, if_pos h2] at e'; exact absurd e' a1
        · rw [if_neg h1, if_neg h2] at e'; exact p2 i k (by omega) (by omega) e'
    by_cases han : a = n
    · obtain ⟨i, hi, e⟩ := perO_surj hP (p n) (by omega)
      have e' : (if p i = n then p n else p i) = p n := e
      refine ⟨i, by omega, ?_⟩
      by_cases h1 : p i = n
      · rw [h1, han]
      · rw [if_neg h1] at e'; exact absurd e' (hne i hi)
    · obtain ⟨i, hi, e⟩ := perO_surj hP a (by omega)
      have e' : (if p i = n then p n else p i) = a := e
      refine ⟨i, by omega, ?_⟩
      by_cases h1 : p i = n
      · rw [if_pos h1] at e'; exact absurd e' hab
      · rw [if_neg h1] at e'; exact e'
theorem lst_cases (h : Nat → Sta) (id : Int) : ∀ n, (lst h id n = -1 ∧ ∀ i, i < n → (h i).id ≠ id) ∨ ∃ a, a < n ∧ lst h id n = (a : Int) ∧ (h a).id = id
  | 0 => .inl ⟨rfl, fun i hi => absurd hi (Nat.not_lt_zero i)⟩
  | n + 1 => by
    by_cases e : (h n).id = id
    · exact .inr ⟨n, by omega, if_pos e, e⟩
    · have he : lst h id (n + 1) = lst h id n := if_neg e
      rw [he]
      rcases lst_cases h id n with ⟨h1, h2⟩ | ⟨a, ha, h1, h2⟩
      · refine .inl ⟨h1, fun i hi => ?_⟩
        by_cases hin : i < n
        · exact h2 i hin
        · obtain rfl : i = n := by omega
          exact e
      · exact .inr ⟨a, by omega, h1, h2⟩
theorem InvJ.none {n : Nat} {h f : Nat → Sta} (H : InvJ n h f) {id : Int} (hno : ∀ i, i < n → (h i).id ≠ id) : plc f id n = -1 := by
  obtain ⟨p, ⟨p1, _⟩, hp⟩ := H.1
  exact plc_no fun i hi e => hno (p i) (p1 i hi) (by rw [← hp i hi]; exact e)
theorem InvJ.some {n : Nat} {h f : Nat → Sta} (H : InvJ n h f) {a : Nat} (ha : a < n) : ∃ i, i < n ∧ f i = h a ∧ plc f (h a).id n = (i : Int) := by
  obtain ⟨p, hP, hp⟩ := H.1
  obtain ⟨i, hi, e⟩ := perO_surj hP a ha
  have e2 : f i = h a := by rw [hp i hi, e]
  refine ⟨i, hi, e2, ?_⟩
  rw [← e2]
  exact plc_self H.ids hi
theorem InvJ.add {n : Nat} {h f f' : Nat → Sta} {s : Sta} (H : InvJ n h f) (h1 : s.tk = 0) (h2 : s.ar = 0) (hno : ∀ i, i < n → (h i).id ≠ s.id) (hm : MovO (n + 1) (exO f n s) f') (hs : SrO f' (n + 1)) : InvJ (n + 1) (exO h n s) f' := by
  have ex : ∀ i, i < n → exO h n s i = h i := fun i hi => by simp [exO, hi]
  have en : exO h n s n = s := by simp [exO]
  refine ⟨mov_add H.1 hm, hs, fun i k hi hk e => ?_, fun i hi => ?_⟩
  · by_cases x1 : i < n <;> by_cases x2 : k < n
    · rw [ex _ x1, ex _ x2] at e; exact H.2.2.1 _ _ x1 x2 e
    · obtain rfl : k = n := by omega
      rw [ex _ x1, en] at e; exact absurd e (hno i x1)
    · obtain rfl : i = n := by omega
      rw [ex _ x2, en] at e; exact absurd e.symm (hno k x2)
    · omega
  · by_cases x1 : i < n
    · rw [ex _ x1]; exact H.2.2.2 i x1
    · obtain rfl : i = n := by omega
      rw [en]; exact ⟨h1, h2⟩
theorem InvJ.del {n a i0 : Nat} {h f : Nat → Sta} (H : InvJ (n + 1) h f) (hi : i0 < n + 1) (ha : a < n + 1) (he : f i0 = h a) : InvJ n (dlO h a) (dlO f i0) := by
  have hd : ∀ j, j < n → ∃ j', j' < n + 1 ∧ dlO h a j = h j' ∧ j' = (if j < a then j else j + 1) := fun j hj => by
    unfold dlO
    by_cases q : j < a
    · exact ⟨j, by omega, if_pos q, (if_pos q).symm⟩
    · exact ⟨j + 1, by omega, if_neg q, (if_neg q).symm⟩
  refine ⟨mov_del H.1 H.2.2.1 hi ha (by rw [he]), srO_del H.2.1 hi, fun i k hi hk e => ?_, fun i hi => ?_⟩
  · obtain ⟨i', a1, a2, a3⟩ := hd i hi
    obtain ⟨k', b1, b2, b3⟩ := hd k hk
    rw [a2, b2] at e
    have := H.2.2.1 i' k' a1 b1 e
    rw [a3, b3] at this
    split at this <;> split at this <;> omega
  · obtain ⟨i', a1, a2, _⟩ := hd i hi
    rw [a2]
    exact H.2.2.2 i' a1
theorem odc_exO (f : Nat → Sta) (n : Nat) (s : Sta) : odc (exO f n s) (n + 1) = odc f n ++ s.os := by
  show odc (exO f n s) n ++ (exO f n s n).os = _
  rw [show exO f n s n = s by simp [exO], odc_ext (g := f) (fun i hi => by simp [exO, hi])]
section
variable {P : Program}
/-- an append of any number (also of none) to a row of the call's own, as a step of a region that draws -/
theorem step_append_own5 {w : World} {ops : Array Oper} {o : Oper} {a : Act} {K : Act → World → Prop} {Q : Exit → Act → World → Prop} {E : Prop} (hgd : o.guard = none) (s x : Operand) (t : TypeId)
    (ho : o.op = .call { callee := .builtin .append, args := #[s, x], argTypes := #[t, t] })
    (base : Nat) (e : TypeId) (i : TypeInfo) (z : Value) (size bytes : Nat) (ht : P.underlying t = some (.slice e)) (hi : P.info? e = some i) (hz : i.zero = some z)
    (hsize : i.size = size) (hby : i.bytes = bytes) (hzs : z.cells.size = size) (hsz : 0 < size)
    (v : Value) (n : Nat) (xs : List Value) (hs : a.eval s = v) (hown : w.ownsRow base e size v n xs)
    (ad : Addr) (m c : Nat) (news : List Value) (hx : a.eval x = .slice (some ad) m c) (hl : news.length = m * size) (hnews : ∀ j u, news[j]? = some u → w.cell? (ad.add j) = some u) (h1 : ∀ u ∈ news, u.oneCell' = true)
    (h63 : n + m ≤ maxLen) (hbytes : (n + m) * bytes ≤ 140737488355328) (hbase : base ≤ w.heap.size)
    (h : ∀ v' w', w'.ownsRow base e size v' (n + m) (xs ++ news) → w.grownBy w' v.ownBlock → (v' = .slice none 0 0 ↔ v = .slice none 0 0 ∧ m = 0) → K (a.put o.dst v') w') :
    if Region.wanted o (yielded ops a.tmps) = true then Oper.wp P o a w K Q else E := by
  have hw : Region.wanted o (yielded ops a.tmps) = true := by simp [Region.wanted, hgd]
  rw [if_pos hw]
  exact wp_append_own w s x t ho base e i z size bytes ht hi hz hsize hby hzs hsz v n xs hs hown ad m c news hx hl hnews h1 h63 hbytes hbase h
end
set_option maxRecDepth 100000 in
set_option maxHeartbeats 8000000 in
theorem stands_any (A : Option Addr) (n c : Nat) (f : Nat → Sta) (A2 : Option Addr) (c2 : Nat) (h : Nat → Sta) (w : World) (hA : Ors w A n f) (hB : Ods w A2 n h) (H : InvJ n h f) (hn : n ≤ 100) :
    Calls Tryz.prog 15 #[.slice A n c, .slice A2 n c2] w fun e w' => e = .returned (.bool true) ∧ Below w.heap.size w w' := by
  go_enter Tryz.func15, Tryz.ntmps15
  have HA := Lib.hid hA
  have HB := Lib.hid hB
  have HH := Lib.hid H
  clear hA hB H
  go_wp2
  go_loopw [17] (fun s W => ∃ i : Nat, i ≤ n ∧ s = .int .i64 i ∧ Below w.heap.size w W) (fun s _ => n - (intOf s).toNat)
  case atStart => exact ⟨0, Nat.zero_le _, rfl, Below.refl _ _⟩
  case round =>
    obtain ⟨i, hi, rfl, hBB⟩ := hrel
    by_cases hin : i < n
    · have hil : (i : Int) < (n : Int) := by omega
      have hi1 : i + 1 ≤ n := hin
      obtain ⟨b, o, rfl, hc⟩ := (HA.out.below hBB) (by omega)
      obtain ⟨d0, d1, d2, d3, d4, d5, d6⟩ := hc i hin
      have hz := HH.out.zero hin
      rw [hz.1] at d5
      rw [hz.2] at d6
      have K := bx_new wr [.int .i64 (f i).id, .int .i64 (f i).pr, .int .i64 (f i).am, .int .i64 (f i).rt, .int .i64 (f i).tot, .int .i64 0, .int .i64 0] 50
      have NB := below_new wr (.cells #[.int .i64 (f i).id, .int .i64 (f i).pr, .int .i64 (f i).am, .int .i64 (f i).rt, .int .i64 (f i).tot, .int .i64 0, .int .i64 0] 50)
      obtain ⟨x0, hx0⟩ : ∃ x, (f i).id = x := ⟨_, rfl⟩
      obtain ⟨x1, hx1⟩ : ∃ x, (f i).pr = x := ⟨_, rfl⟩
      obtain ⟨x2, hx2⟩ : ∃ x, (f i).am = x := ⟨_, rfl⟩
      obtain ⟨x3, hx3⟩ : ∃ x, (f i).rt = x := ⟨_, rfl⟩
      obtain ⟨x4, hx4⟩ : ∃ x, (f i).tot = x := ⟨_, rfl⟩
      rw [hx0, hx1, hx2, hx3, hx4] at K NB
      have HK := Lib.hid K
      have HBI := Lib.hid (below_step hBB NB hBB.size)
      have HFI := Lib.hid (And.intro hx0 (And.intro hx1 (And.intro hx2 (And.intro hx3 hx4))))
      have HCW : Hid (∀ j, j < n → SAt (wr.alloc (.cells #[.int .i64 x0, .int .i64 x1, .int .i64 x2, .int .i64 x3, .int .i64 x4, .int .i64 0, .int .i64 0] 50)) b (o + j * 7) (f j)) := Lib.hid fun j hj => (hc j hj).below NB
      rw [hx0] at d0
      rw [hx1] at d1
      rw [hx2] at d2
      rw [hx3] at d3
      rw [hx4] at d4
      clear hz K NB hc hx0 hx1 hx2 hx3 hx4 hBB
      go_wp2
      generalize wr.alloc (.cells #[.int .i64 x0, .int .i64 x1, .int .i64 x2, .int .i64 x3, .int .i64 x4, .int .i64 0, .int .i64 0] 50) = wi at *
      generalize wr.heap.size = qx at *
      go_loopw [7, 24] (fun s7 s24 W => ∃ j : Nat, j ≤ n ∧ s7 = .bool (fnO h (f i) j) ∧ s24 = .int .i64 j ∧ Below wi.heap.size wi W) (fun _ s24 _ => n - (intOf s24).toNat)
      case atStart => exact ⟨0, Nat.zero_le _, rfl, rfl, Below.refl _ _⟩
      case round =>
        obtain ⟨j, hj, rfl, rfl, hBj⟩ := hrel
        by_cases hjn : j < n
        · have hjl : (j : Int) < (n : Int) := by omega
          have hj1 : j + 1 ≤ n := hjn
          obtain ⟨b2, o2, rfl, hc2⟩ := (HB.out.below (below_step HBI.out hBj HBI.out.size)) (by omega)
          obtain ⟨e0, e1, e2, e3, e4⟩ := hc2 j hjn
          have HKj := HK.out.below hBj
          obtain ⟨v, hv⟩ : ∃ v, eqO (h j) (f i) = v := ⟨_, rfl⟩
          have hfn : fnO h (f i) (j + 1) = (fnO h (f i) j || eqO (h j) (f i)) := rfl
          obtain ⟨fb, hfb⟩ : ∃ b, fnO h (f i) j = b := ⟨_, rfl⟩
          rw [hfb] at hfn ⊢
          rw [hv] at hfn
          have hvd : decide ((h j).id = x0 ∧ (h j).pr = x1 ∧ (h j).am = x2 ∧ (h j).rt = x3 ∧ (h j).tot = x4) = v := by
            rw [← HFI.out.1, ← HFI.out.2.1, ← HFI.out.2.2.1, ← HFI.out.2.2.2.1, ← HFI.out.2.2.2.2]
            exact hv
          have HFN := Lib.hid hfn
          clear hc2 HCW hfn hv hfb HFI
          generalize (h j).id = y0 at *
          generalize (h j).pr = y1 at *
          generalize (h j).am = y2 at *
          generalize (h j).rt = y3 at *
          generalize (h j).tot = y4 at *
          have heq := fun W => eq_order y0 y1 y2 y3 y4 x0 x1 x2 x3 x4 v hvd W
          have K2 := bx_new wr [.int .i64 y0, .int .i64 y1, .int .i64 y2, .int .i64 y3, .int .i64 y4] 23
          have NB := below_new wr (.cells #[.int .i64 y0, .int .i64 y1, .int .i64 y2, .int .i64 y3, .int .i64 y4] 23)
          have HKn := HKj.below NB
          have z_0 := K2.cell (i := 0) rfl
          have z_1 := K2.cell (i := 1) rfl
          have z_2 := K2.cell (i := 2) rfl
          have z_3 := K2.cell (i := 3) rfl
          have z_4 := K2.cell (i := 4) rfl
          have k_0 := HKn.cell (i := 0) rfl
          have k_1 := HKn.cell (i := 1) rfl
          have k_2 := HKn.cell (i := 2) rfl
          have k_3 := HKn.cell (i := 3) rfl
          have k_4 := HKn.cell (i := 4) rfl
          have BE := below_step hBj NB hBj.size
          clear K2 NB HKj HKn hvd hBj
          cases fb
          · go_wp2
            refine ⟨⟨j + 1, hj1, by rw [HFN.out]; rfl, by go_num, BE⟩, meas_step hjn⟩
          · go_wp2
            refine ⟨⟨j + 1, hj1, by rw [HFN.out]; rfl, by go_num, BE⟩, meas_step hjn⟩
        · obtain rfl : n = j := by omega
          have hnl2 : ¬ (n : Int) < (n : Int) := by omega
          rw [HH.out.found hin]
          have HKj := HK.out.below hBj
          have HB2 := Lib.hid (below_step HBI.out hBj HBI.out.size)
          have k_0 := HKj.cell (i := 0) rfl
          have k_1 := HKj.cell (i := 1) rfl
          have k_2 := HKj.cell (i := 2) rfl
          have k_3 := HKj.cell (i := 3) rfl
          have k_4 := HKj.cell (i := 4) rfl
          have k_5 := HKj.cell (i := 5) rfl
          have k_6 := HKj.cell (i := 6) rfl
          by_cases hi0 : 0 < i
          · have hi0' : (0 : Int) < (i : Int) := by omega
            have hs0 : (1 : Int) ≤ (i : Int) := by omega
            have hs1 : (i : Int) - 1 < (n : Int) := by omega
            have hs2 : (0 : Int) ≤ (i : Int) - 1 := by omega
            have hs3 : wrap64 ((i : Int) - 1) = (i : Int) - 1 := IntWalk.wrap64_in _ (by omega)
            have hs4 : IntKind.i64.wrap ((i : Int) - 1) = (i : Int) - 1 := IntWalk.i64_in _ (by omega)
            have hs5 : ((i : Int) - 1).toNat = i - 1 := by omega
            have hr := HH.out.rise (k := i - 1) (by omega)
            rw [show i - 1 + 1 = i by omega, HFI.out.1, HFI.out.2.1] at hr
            obtain ⟨p0, p1, p2, p3, p4, p5, p6⟩ := (HCW.out (i - 1) (by omega)).below hBj
            have hgt : decide (0 < (i : Int)) = true := decide_eq_true hi0'
            have hgt2 : decide (0 < i) = true := decide_eq_true hi0
            clear HB HH HBI hBj HCW HFI HK p2 p3 p4 p5 p6
            generalize (f (i - 1)).pr = r1 at *
            generalize (f (i - 1)).id = r0 at *
            by_cases hpr : r1 < x1
            · have t1 : decide (x1 < r1) = false := decide_eq_false (by omega)
              have t2 : (r1 == x1) = false := by simp; omega
              clear hr hi0 hpr
              go_wp2
              go_quiet (fail)
              go_wp2
              refine ⟨⟨i + 1, hi1, by go_num, below_drewN HB2.out _⟩, meas_step hin⟩
            · obtain ⟨h1, h2⟩ : r1 = x1 ∧ r0 < x0 := by omega
              subst h1
              have t1 : decide (r1 < r1) = false := decide_eq_false (by omega)
              have t3 : decide (x0 ≤ r0) = false := decide_eq_false (by omega)
              clear hr hi0 hpr h2
              go_wp2
              go_quiet (fail)
              go_wp2
              refine ⟨⟨i + 1, hi1, by go_num, below_drewN HB2.out _⟩, meas_step hin⟩
          · obtain rfl : i = 0 := by omega
            clear HB HH HBI hBj HCW HFI HK
            go_wp2
            go_quiet (fail)
            go_wp2
            refine ⟨⟨0 + 1, hi1, by go_num, below_drewN HB2.out _⟩, meas_step hin⟩
    · obtain rfl : n = i := by omega
      have hnl : ¬ (n : Int) < (n : Int) := by omega
      clear HA HB HH
      go_wp2
      go_ret
      exact ⟨rfl, hBB⟩
end Go.Proofs.YthknjpmhomjobaaGreatDoor
