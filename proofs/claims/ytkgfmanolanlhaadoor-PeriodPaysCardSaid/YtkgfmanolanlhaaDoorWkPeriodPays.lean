/- The walk of PeriodPays. -/
import Derived.Test.YtkgfmanolanlhaaDoorCuts
import Derived.Test.YtkgfmanolanlhaaDoorPerP
import Derived.Test.YtkgfmanolanlhaaDoorRefDateC
import Derived.Deep.RegionWith
import Derived.Lib.QuietBelow
import Derived.BigQuiet
namespace Go.Proofs.YtkgfmanolanlhaaDoor
open Go.RowKit Go.Sort
theorem mixedAll : Tryd.prog.follows .mixedOrders = true := by kernel_rfl
set_option linter.unusedVariables false
set_option linter.unusedSimpArgs false

/-- where the next period begins -/
def bny (f y m d k : Int) : Int := if k ≤ cnt f y m d then pb f y m d k else yend y m d + 1
theorem bny_in {f y m d k : Int} (h : k ≤ cnt f y m d) : bny f y m d k = pb f y m d k := by unfold bny; rw [if_pos h]
theorem bny_out {f y m d k : Int} (h : ¬ k ≤ cnt f y m d) : bny f y m d k = yend y m d + 1 := by unfold bny; rw [if_neg h]
theorem bny_next {f y m d k : Int} (h : k ≤ cnt f y m d) : bny f y m d (k + 1) = pe f y m d k + 1 := by
  unfold bny pe
  split
  · rw [if_neg (by omega)]; omega
  · rw [if_pos (by omega)]
/-- the quarter of the period ahead -/
def lq (f y m d k : Int) : Int := if k ≤ 1 then 1 else qtr y m d (pe f y m d (k - 1))
theorem qtr_mono {y m d a b : Int} (h : a ≤ b) : qtr y m d a ≤ qtr y m d b := by
  have := qtr_rise y m d
  unfold qtr
  (repeat' split) <;> omega
theorem qtr_bd (y m d a : Int) : 1 ≤ qtr y m d a ∧ qtr y m d a ≤ 4 := by
  unfold qtr
  (repeat' split) <;> omega
theorem lq_le {f y m d k : Int} (hf : 1 ≤ f) (hf' : f ≤ 4) (h : yrB y m d = true) (hk : 1 ≤ k) (hk' : k ≤ cnt f y m d) : lq f y m d k ≤ qtr y m d (pe f y m d k) := by
  unfold lq
  split
  · exact (qtr_bd y m d _).1
  · refine qtr_mono ?_
    rw [pe_next (by omega), show k - 1 + 1 = k by omega]
    have := (pe_bd hf hf' h hk hk').1
    omega
theorem lq_end {f y m d : Int} (hf : 1 ≤ f) (hf' : f ≤ 4) (h : yrB y m d = true) : lq f y m d (cnt f y m d + 1) = 4 := by
  have hc := cnt_bd (f := f) (y := y) (d := d) hf hf' (dayB_yes (yrB_yes h).1).2.2.1
  unfold lq
  rw [if_neg (by omega), show cnt f y m d + 1 - 1 = cnt f y m d by omega, pe_last]
  unfold qtr
  have := (pb_bd (f := 4) (by omega) (by omega) h (k := 10) (by omega) (by simp [cnt])).2.1
  rw [if_pos this]
/-- a day in its place -/
def DS (W : World) (t : Nat × Int × Int × Int) : Prop := Day W t.1 t.2.1 t.2.2.1 t.2.2.2 ∧ t.1 < W.heap.size
/-- a year and some days, held -/
def KP (w : World) (p : Nat) (f y m d : Int) (qs : List (Nat × Int × Int × Int)) (W : World) : Prop := Yr W p f y m d ∧ Below w.heap.size w W ∧ ∀ t, t ∈ qs → DS W t
theorem KP.step {w : World} {p : Nat} {f y m d : Int} {qs : List (Nat × Int × Int × Int)} {W W' : World} (hb : Below W.heap.size W W') (K : KP w p f y m d qs W) : KP w p f y m d qs W' :=
  ⟨K.1.below hb, below_step K.2.1 hb K.2.1.size, fun t ht => ⟨(K.2.2 t ht).1.below hb (K.2.2 t ht).2, by have := (K.2.2 t ht).2; have := hb.size; omega⟩⟩
theorem KP.add {w : World} {p : Nat} {f y m d : Int} {qs : List (Nat × Int × Int × Int)} {W : World} (K : KP w p f y m d qs W) (a b c : Int) (t : TypeId) : KP w p f y m d ((W.heap.size, a, b, c) :: qs) (W.alloc (.cells #[.int .i64 a, .int .i64 b, .int .i64 c] t)) := by
  have K2 := K.step (W' := W.alloc (.cells #[.int .i64 a, .int .i64 b, .int .i64 c] t)) ((Below.refl _ _).alloc (Nat.le_refl _) _)
  refine ⟨K2.1, K2.2.1, fun s hs => ?_⟩
  rcases List.mem_cons.1 hs with rfl | h
  · exact ⟨day_new W a b c t, by simp⟩
  · exact K2.2.2 s h
theorem KP.add2 {w : World} {p : Nat} {f y m d : Int} {qs : List (Nat × Int × Int × Int)} {W : World} (K : KP w p f y m d qs W) (a b c a' b' c' : Int) (t t' : TypeId) : KP w p f y m d ((W.heap.size + 1, a', b', c') :: (W.heap.size, a, b, c) :: qs) ((W.alloc (.cells #[.int .i64 a, .int .i64 b, .int .i64 c] t)).alloc (.cells #[.int .i64 a', .int .i64 b', .int .i64 c'] t')) := by
  have := (K.add a b c t).add a' b' c' t'
  rwa [show (W.alloc (.cells #[.int .i64 a, .int .i64 b, .int .i64 c] t)).heap.size = W.heap.size + 1 by simp] at this

theorem KP.sub {w : World} {p : Nat} {f y m d : Int} {qs qs' : List (Nat × Int × Int × Int)} {W : World} (K : KP w p f y m d qs W) (h : ∀ t, t ∈ qs' → t ∈ qs) : KP w p f y m d qs' W := ⟨K.1, K.2.1, fun t ht => K.2.2 t (h t ht)⟩
theorem qtr_facts (y m d n : Int) : (qtr y m d n = 1 → n < pb 4 y m d 4) ∧ (qtr y m d n = 2 → pb 4 y m d 4 ≤ n ∧ n < pb 4 y m d 7) ∧ (qtr y m d n = 3 → pb 4 y m d 7 ≤ n ∧ n < pb 4 y m d 10) ∧ (qtr y m d n = 4 → pb 4 y m d 10 ≤ n) := by
  have := qtr_rise y m d
  unfold qtr
  (repeat' split) <;> omega
theorem rmonths_in {y m d j : Int} (h : yrB y m d = true) (hj : 0 ≤ j) (hj' : j ≤ 11) (w : World) : Calls Tryd.prog 24 #[.agg #[.int .i64 y, .int .i64 m, .int .i64 d], .int .i64 j] w fun e w' => e = .returned (.tuple #[.agg #[.int .i64 (yOf (pb 4 y m d (j + 1))), .int .i64 (mOf (pb 4 y m d (j + 1))), .int .i64 (dOf (pb 4 y m d (j + 1)))], .bool true]) ∧ Below w.heap.size w w' := by
  obtain ⟨h0, h1, h2⟩ := yrB_yes h
  obtain ⟨a1, a2, a3, a4, a5, a6⟩ := dayB_yes h0
  have hm := rmonths_yes y m d j h0 (by omega) (by omega) (mt_in a1 h1 a3 a4 hj (by omega)) w
  obtain ⟨p1, p2, p3⟩ := pb_month (k := j + 1) h (by omega) (by omega)
  rw [show j + 1 - 1 = j by omega] at p1 p2 p3
  rw [p1, p2, p3] at hm
  exact hm
theorem rnum_in {y m d k : Int} (h : yrB y m d = true) (hk : 1 ≤ k) (hk' : k ≤ 12) (w : World) : Calls Tryd.prog 14 #[.agg #[.int .i64 (yOf (pb 4 y m d k)), .int .i64 (mOf (pb 4 y m d k)), .int .i64 (dOf (pb 4 y m d k))]] w fun e w' => e = .returned (.int .i64 (pb 4 y m d k)) ∧ Below w.heap.size w w' := by
  obtain ⟨⟨x1, x2⟩, _⟩ := per_days (f := 4) (by omega) (by omega) h hk (show k ≤ cnt 4 y m d by simp [cnt]; omega)
  have hr := rnumber_yes _ _ _ x1 w
  rw [x2] at hr
  exact hr
/-- three days in their places, and what else is held -/
def PS (w : World) (p : Nat) (f y m d : Int) (qs : List (Nat × Int × Int × Int)) (qa : Nat) (a1 a2 a3 : Int) (qt : Nat) (t1 t2 t3 : Int) (qn : Nat) (n1 n2 n3 : Int) (W : World) : Prop :=
  W.cell? ⟨qa, 0, none⟩ = some (.int .i64 a1) ∧ W.cell? ⟨qa, 1, none⟩ = some (.int .i64 a2) ∧ W.cell? ⟨qa, 2, none⟩ = some (.int .i64 a3) ∧ W.cell? ⟨qt, 0, none⟩ = some (.int .i64 t1) ∧ W.cell? ⟨qt, 1, none⟩ = some (.int .i64 t2) ∧ W.cell? ⟨qt, 2, none⟩ = some (.int .i64 t3) ∧
  W.cell? ⟨qn, 0, none⟩ = some (.int .i64 n1) ∧ W.cell? ⟨qn, 1, none⟩ = some (.int .i64 n2) ∧ W.cell? ⟨qn, 2, none⟩ = some (.int .i64 n3) ∧ KP w p f y m d qs W
theorem PS.of {w : World} {p : Nat} {f y m d : Int} {qs : List (Nat × Int × Int × Int)} {qa : Nat} {a1 a2 a3 : Int} {qt : Nat} {t1 t2 t3 : Int} {qn : Nat} {n1 n2 n3 : Int} {W : World} (K : KP w p f y m d qs W) (ha : (qa, a1, a2, a3) ∈ qs) (ht : (qt, t1, t2, t3) ∈ qs) (hn : (qn, n1, n2, n3) ∈ qs) : PS w p f y m d qs qa a1 a2 a3 qt t1 t2 t3 qn n1 n2 n3 W := by
  obtain ⟨x0, x1, x2⟩ := (K.2.2 _ ha).1
  obtain ⟨y0, y1, y2⟩ := (K.2.2 _ ht).1
  obtain ⟨z0, z1, z2⟩ := (K.2.2 _ hn).1
  exact ⟨x0, x1, x2, y0, y1, y2, z0, z1, z2, K⟩
set_option maxRecDepth 100000 in
theorem pays_nil (f y m d e0 : Int) (w : World) (hK : Kinds w) (hn : ∀ w, Calls Tryd.prog 34 #[.int .i64 f, .agg #[.int .i64 y, .int .i64 m, .int .i64 d]] w fun e w' => e = .returned (.tuple #[.pointer none, .int .i64 e0]) ∧ Below w.heap.size w w') :
    Calls Tryd.prog 10 #[.int .i64 f, .agg #[.int .i64 y, .int .i64 m, .int .i64 d]] w fun e w' => e = .returned (.bool true) ∧ Below w.heap.size w w' := by
  have hcu := cuts_any
  have D0 := day_new w y m d 23
  have B0 : Below w.heap.size w (w.alloc (.cells #[.int .i64 y, .int .i64 m, .int .i64 d] 23)) := (Below.refl _ _).alloc (Nat.le_refl _) _
  have K0 := hK.below B0
  go_enter Tryd.func10, Tryd.ntmps10
  go_wp2_with (fail)
  refine (hcu _ K0).mono ?_
  rintro e w1 ⟨rfl, hb⟩
  have D1 := D0.below hb (by simp)
  have K1 := K0.below hb
  have B1 := below_step B0 hb B0.size
  have z1 : w.heap.size < w1.heap.size := by have := hb.size; simp at this; omega
  obtain ⟨c0, c1, c2⟩ := id D1
  clear hb D0 K0 B0 hcu hK
  go_wp2_with (fail)
  refine (hn _).mono ?_
  rintro e w2 ⟨rfl, hb⟩
  have B2 := below_step B1 hb B1.size
  go_wp2
  go_ret
  exact ⟨rfl, B2⟩

set_option maxRecDepth 100000 in
set_option maxHeartbeats 8000000 in
theorem pays_yes (f y m d : Int) (w : World) (hK : Kinds w) (hf : 1 ≤ f) (hf' : f ≤ 4) (h : yrB y m d = true) :
    Calls Tryd.prog 10 #[.int .i64 f, .agg #[.int .i64 y, .int .i64 m, .int .i64 d]] w fun e w' => e = .returned (.bool true) ∧ Below w.heap.size w w' := by
  have hn := fun w K => new_ok f y m d hf hf' h w K
  have HH := Lib.hid h
  have hm1 := (dayB_yes (yrB_yes h).1).2.2.1
  have hcb := cnt_bd (f := f) (y := y) (d := d) hf hf' hm1
  obtain ⟨hcb1, hcb2⟩ := hcb
  have HP1 := Lib.hid (pb_one (f := f) (yrB_yes h).1)
  obtain ⟨_, _, s1, s2⟩ := num_bd (yrB_yes h).1
  have hyb := year_bd (y := y) (d := d) hm1
  obtain ⟨e1, e2, e3, e4⟩ := end_day h
  have hbe := between_yes _ _ _ _ _ _ (yrB_yes h).1 e1
  rw [e2] at hbe
  clear e1 e2 h
  have hcu := cuts_any
  have D0 := day_new w y m d 23
  have B0 : Below w.heap.size w (w.alloc (.cells #[.int .i64 y, .int .i64 m, .int .i64 d] 23)) := (Below.refl _ _).alloc (Nat.le_refl _) _
  have K0 := hK.below B0
  go_enter Tryd.func10, Tryd.ntmps10
  go_wp2_with (fail)
  refine (hcu _ K0).mono ?_
  rintro e w1 ⟨rfl, hb⟩
  have D1 := D0.below hb (by simp)
  have K1 := K0.below hb
  have B1 := below_step B0 hb B0.size
  have z1 : w.heap.size < w1.heap.size := by have := hb.size; simp at this; omega
  obtain ⟨c0, c1, c2⟩ := id D1
  clear hb D0 K0 B0 hcu hK
  go_wp2_with (fail)
  refine (hn _ K1).mono ?_
  rintro e w2 ⟨p, rfl, z2, Y2, hb⟩
  have B2 := below_step B1 hb B1.size
  have D2 := D1.below hb z1
  have hz2 : w.heap.size < w2.heap.size := by have := hb.size; omega
  have K2 : KP w p f y m d [(w.heap.size, y, m, d)] w2 := ⟨Y2, B2, fun t ht => by
    obtain rfl : t = (w.heap.size, y, m, d) := by simpa using ht
    exact ⟨D2, hz2⟩⟩
  clear hb K1 B1 D1 hn c0 c1 c2 B2 D2 Y2
  go_wp2
  go_loopw [7, 8, 9] (fun vs vl vk wr => ∃ (W2 : World) (κ : Int), W2 = wr ∧ vk = .int .i64 κ ∧ vs = .int .i64 (bny f y m d κ - num y m d) ∧ vl = .int .i64 (lq f y m d κ) ∧ 1 ≤ κ ∧ κ ≤ cnt f y m d + 1 ∧ KP w p f y m d [(w.heap.size, y, m, d)] W2) (fun _ _ vk _ => (cnt f y m d + 1 - intOf vk).toNat)
  case atStart => exact ⟨_, 1, rfl, rfl, by rw [bny_in (by omega), HP1.out]; simp, by simp [lq], by omega, by omega, K2⟩
  case round =>
    obtain ⟨W2, κ, rfl, rfl, rfl, rfl, hk1, hk2, K4⟩ := hrel
    clear K2
    have hct := fun W Y => count_any p f y m d W Y HH.out hf hf'
    by_cases hgo : κ ≤ cnt f y m d
    · have hat := bny_in hgo
      have HNX := Lib.hid (bny_next hgo)
      have HLN := Lib.hid (show lq f y m d (κ + 1) = qtr y m d (pe f y m d κ) by unfold lq; rw [if_neg (by omega), show κ + 1 - 1 = κ by omega])
      have hll := lq_le hf hf' HH.out hk1 hgo
      obtain ⟨⟨d1, d2⟩, ⟨d3, d4⟩, d5, d6⟩ := per_days hf hf' HH.out hk1 hgo
      obtain ⟨g1, g2, g3⟩ := pe_bd hf hf' HH.out hk1 hgo
      obtain ⟨r1, r2, r3, r4⟩ := bkN_bd (pe f y m d κ)
      obtain ⟨x1, x2⟩ := of_bd (bkN (pe f y m d κ)) (r4 (by omega)) (by omega)
      have hsp := fun W Y => span_yes p f y m d κ W Y HH.out hf hf' hk1 hgo
      have hpd := fun W Y => payday_yes p f y m d κ W Y HH.out hf hf' hk1 hgo
      have hqt := fun W Y => quarter_yes p f y m d κ W Y HH.out hf hf' hk1 hgo
      have hdy := fun W Y => days_yes p f y m d κ W Y HH.out hf hf' hk1 hgo
      have hbt := between_yes _ _ _ _ _ _ x1 d3
      rw [x2, d4] at hbt
      have hwd := workday_yes _ _ _ true x1 (by rw [x2]; simpa using r3)
      have hrto := rnumber_yes _ _ _ d3
      rw [d4] at hrto
      obtain ⟨sa, sb, sc, sd⟩ := pb_bd hf hf' HH.out hk1 hgo
      have HQ := Lib.hid (rfl : qtr y m d (pe f y m d κ) = qtr y m d (pe f y m d κ))
      rw [hat]
      clear d1 d2 d3 d4 d5 x1 x2 r3 r4 hat
      generalize lq f y m d κ = lk at *
      generalize yOf (bkN (pe f y m d κ)) = b1 at *
      generalize mOf (bkN (pe f y m d κ)) = b2 at *
      generalize dOf (bkN (pe f y m d κ)) = b3 at *
      generalize yOf (pb f y m d κ) = u1 at *
      generalize mOf (pb f y m d κ) = u2 at *
      generalize dOf (pb f y m d κ) = u3 at *
      generalize yOf (pe f y m d κ) = u4 at *
      generalize mOf (pe f y m d κ) = u5 at *
      generalize dOf (pe f y m d κ) = u6 at *
      generalize hbk : pe f y m d κ - bkN (pe f y m d κ) = bb at *
      have hb1 : 0 ≤ bb := by omega
      have hb2 : bb ≤ 2 := by omega
      clear hbk r1 r2
      have hq4 := qtr_bd y m d (pe f y m d κ)
      rcases (show qtr y m d (pe f y m d κ) = 1 ∨ qtr y m d (pe f y m d κ) = 2 ∨ qtr y m d (pe f y m d κ) = 3 ∨ qtr y m d (pe f y m d κ) = 4 by omega) with hq | hq | hq | hq
      · rw [hq] at hqt hll
        have HQ1 := Lib.hid hq
        have hqf := qtr_facts y m d (pe f y m d κ)
        have hr1 := rmonths_in (j := 0) HH.out (by omega) (by omega)
        rw [show (0 : Int) + 1 = 1 from rfl] at hr1
        have hn1 := rnum_in (k := 1) HH.out (by omega) (by omega)
        have hp1 := pb_one (f := 4) (yrB_yes HH.out).1
        have hle : pb 4 y m d 1 ≤ pe f y m d κ := by rw [hp1]; omega
        clear hp1
        have hle' : decide (pe f y m d κ < pb 4 y m d 1) = false := by simpa using hle
        have hr2 := rmonths_in (j := 3) HH.out (by omega) (by omega)
        rw [show (3 : Int) + 1 = 4 from rfl] at hr2
        have hn2 := rnum_in (k := 4) HH.out (by omega) (by omega)
        have hlt : ¬ pb 4 y m d 4 ≤ pe f y m d κ := by have := hqf.1 hq; omega
        clear hq hq4 hqf
        generalize yOf (pb 4 y m d 1) = a1 at *
        generalize mOf (pb 4 y m d 1) = a2 at *
        generalize dOf (pb 4 y m d 1) = a3 at *
        generalize yOf (pb 4 y m d 4) = n1 at *
        generalize mOf (pb 4 y m d 4) = n2 at *
        generalize dOf (pb 4 y m d 4) = n3 at *
        go_wp2_with (fail)
        refine (hct _ K4.1).mono ?_
        rintro e w5 ⟨rfl, hb⟩
        have K5 := K4.step hb
        clear hb K4
        go_wp2_with (fail)
        refine (hsp _ K5.1).mono ?_
        rintro e w6 ⟨rfl, hb⟩
        have K6 := K5.step hb
        clear hb K5
        have K7 := K6.add2 u1 u2 u3 u4 u5 u6 23 23
        clear K6
        go_wp2_with (fail)
        refine (hpd _ K7.1).mono ?_
        rintro e w7 ⟨rfl, hb⟩
        have K8 := K7.step hb
        clear hb K7
        have K9 := K8.add b1 b2 b3 23
        clear K8
        go_wp2_with (fail)
        refine (hqt _ K9.1).mono ?_
        rintro e w8 ⟨rfl, hb⟩
        have K10 := K9.step hb
        clear hb K9
        go_wp2_with (fail)
        refine (hdy _ K10.1).mono ?_
        rintro e w9 ⟨rfl, hb⟩
        have K11 := K10.step hb
        clear hb K10
        obtain ⟨x00, x01, x02⟩ := (K11.2.2 (w7.heap.size, b1, b2, b3) (by simp)).1
        obtain ⟨x10, x11, x12⟩ := (K11.2.2 (w6.heap.size + 1, u4, u5, u6) (by simp)).1
        go_wp2_with (fail)
        (with_reducible refine (hbt _).mono ?_)
        rintro e w10 ⟨rfl, hb⟩
        have K12 := K11.step hb
        clear hb K11 x00 x01 x02 x10 x11 x12
        obtain ⟨x00, x01, x02⟩ := (K12.2.2 (w7.heap.size, b1, b2, b3) (by simp)).1
        go_wp2_with (fail)
        (with_reducible refine (hwd _).mono ?_)
        rintro e w11 ⟨rfl, hb⟩
        have K13 := K12.step hb
        clear hb K12 x00 x01 x02
        obtain ⟨x00, x01, x02⟩ := (K13.2.2 (w.heap.size, y, m, d) (by simp)).1
        go_wp2_with (fail)
        (with_reducible refine (hr1 _).mono ?_)
        rintro e w13 ⟨rfl, hb⟩
        have K14 := K13.step hb
        clear hb K13 x00 x01 x02
        have K15 := K14.add a1 a2 a3 23
        clear K14
        obtain ⟨x00, x01, x02⟩ := (K15.2.2 (w.heap.size, y, m, d) (by simp)).1
        go_wp2_with (fail)
        (with_reducible refine (hr2 _).mono ?_)
        rintro e w14 ⟨rfl, hb⟩
        have K16 := K15.step hb
        clear hb K15 x00 x01 x02
        have K17 := K16.add n1 n2 n3 23
        clear K16
        have P0 := PS.of (qa := w13.heap.size) (a1 := a1) (a2 := a2) (a3 := a3) (qt := w6.heap.size + 1) (t1 := u4) (t2 := u5) (t3 := u6) (qn := w14.heap.size) (n1 := n1) (n2 := n2) (n3 := n3) K17 (by simp) (by simp) (by simp)
        have P1 := PS.of (qa := w13.heap.size) (a1 := a1) (a2 := a2) (a3 := a3) (qt := w6.heap.size + 1) (t1 := u4) (t2 := u5) (t3 := u6) (qn := w14.heap.size) (n1 := n1) (n2 := n2) (n3 := n3) (K17.step (Below.refl _ _).drew) (by simp) (by simp) (by simp)
        clear K17
        go_wp2
        go_region_held3 (fun W => W.cell? ⟨w13.heap.size, 0, none⟩ = some (.int .i64 a1) ∧ W.cell? ⟨w13.heap.size, 1, none⟩ = some (.int .i64 a2) ∧ W.cell? ⟨w13.heap.size, 2, none⟩ = some (.int .i64 a3) ∧ W.cell? ⟨w6.heap.size + 1, 0, none⟩ = some (.int .i64 u4) ∧ W.cell? ⟨w6.heap.size + 1, 1, none⟩ = some (.int .i64 u5) ∧ W.cell? ⟨w6.heap.size + 1, 2, none⟩ = some (.int .i64 u6) ∧ W.cell? ⟨w14.heap.size, 0, none⟩ = some (.int .i64 n1) ∧ W.cell? ⟨w14.heap.size, 1, none⟩ = some (.int .i64 n2) ∧ W.cell? ⟨w14.heap.size, 2, none⟩ = some (.int .i64 n3) ∧ KP w p f y m d [(w14.heap.size, n1, n2, n3), (w13.heap.size, a1, a2, a3), (w7.heap.size, b1, b2, b3), (w6.heap.size + 1, u4, u5, u6), (w6.heap.size, u1, u2, u3), (w.heap.size, y, m, d)] W)
          ((first | exact P1 | exact PS.of (KP.step hb (show KP w p f y m d [(w14.heap.size, n1, n2, n3), (w13.heap.size, a1, a2, a3), (w7.heap.size, b1, b2, b3), (w6.heap.size + 1, u4, u5, u6), (w6.heap.size, u1, u2, u3), (w.heap.size, y, m, d)] _ from (by assumption : PS w p f y m d [(w14.heap.size, n1, n2, n3), (w13.heap.size, a1, a2, a3), (w7.heap.size, b1, b2, b3), (w6.heap.size + 1, u4, u5, u6), (w6.heap.size, u1, u2, u3), (w.heap.size, y, m, d)] w13.heap.size a1 a2 a3 (w6.heap.size + 1) u4 u5 u6 w14.heap.size n1 n2 n3 _).2.2.2.2.2.2.2.2.2)) (by simp) (by simp) (by simp)))
          (first
            | (go_at_call 14; (with_reducible refine (hn1 _).mono ?_); rintro e w20 ⟨rfl, hb⟩)
            | (go_at_call 14; (with_reducible refine (hrto _).mono ?_); rintro e w20 ⟨rfl, hb⟩)
            | (go_at_call 14; (with_reducible refine (hn2 _).mono ?_); rintro e w20 ⟨rfl, hb⟩))
        rename_i hH
        have K20 := (show PS w p f y m d [(w14.heap.size, n1, n2, n3), (w13.heap.size, a1, a2, a3), (w7.heap.size, b1, b2, b3), (w6.heap.size + 1, u4, u5, u6), (w6.heap.size, u1, u2, u3), (w.heap.size, y, m, d)] w13.heap.size a1 a2 a3 (w6.heap.size + 1) u4 u5 u6 w14.heap.size n1 n2 n3 w20 from hH).2.2.2.2.2.2.2.2.2
        have K21 := K20.sub (qs' := [(w.heap.size, y, m, d)]) (by simp)
        clear hH hb P0 P1 K20
        go_wp2
        go_roundw
        case rel => exact ⟨_, κ + 1, rfl, rfl, by rw [HNX.out]; congr 1; omega, by rw [HLN.out, HQ1.out], by omega, by omega, K21⟩
        case measure => simp [intOf]; omega
      · rw [hq] at hqt hll
        have HQ1 := Lib.hid hq
        have hqf := qtr_facts y m d (pe f y m d κ)
        have hr1 := rmonths_in (j := 3) HH.out (by omega) (by omega)
        rw [show (3 : Int) + 1 = 4 from rfl] at hr1
        have hn1 := rnum_in (k := 4) HH.out (by omega) (by omega)
        have hle : pb 4 y m d 4 ≤ pe f y m d κ := by have := hqf.2.1 hq; omega
        have hle' : decide (pe f y m d κ < pb 4 y m d 4) = false := by simpa using hle
        have hr2 := rmonths_in (j := 6) HH.out (by omega) (by omega)
        rw [show (6 : Int) + 1 = 7 from rfl] at hr2
        have hn2 := rnum_in (k := 7) HH.out (by omega) (by omega)
        have hlt : ¬ pb 4 y m d 7 ≤ pe f y m d κ := by have := hqf.2.1 hq; omega
        clear hq hq4 hqf
        generalize yOf (pb 4 y m d 4) = a1 at *
        generalize mOf (pb 4 y m d 4) = a2 at *
        generalize dOf (pb 4 y m d 4) = a3 at *
        generalize yOf (pb 4 y m d 7) = n1 at *
        generalize mOf (pb 4 y m d 7) = n2 at *
        generalize dOf (pb 4 y m d 7) = n3 at *
        go_wp2_with (fail)
        refine (hct _ K4.1).mono ?_
        rintro e w5 ⟨rfl, hb⟩
        have K5 := K4.step hb
        clear hb K4
        go_wp2_with (fail)
        refine (hsp _ K5.1).mono ?_
        rintro e w6 ⟨rfl, hb⟩
        have K6 := K5.step hb
        clear hb K5
        have K7 := K6.add2 u1 u2 u3 u4 u5 u6 23 23
        clear K6
        go_wp2_with (fail)
        refine (hpd _ K7.1).mono ?_
        rintro e w7 ⟨rfl, hb⟩
        have K8 := K7.step hb
        clear hb K7
        have K9 := K8.add b1 b2 b3 23
        clear K8
        go_wp2_with (fail)
        refine (hqt _ K9.1).mono ?_
        rintro e w8 ⟨rfl, hb⟩
        have K10 := K9.step hb
        clear hb K9
        go_wp2_with (fail)
        refine (hdy _ K10.1).mono ?_
        rintro e w9 ⟨rfl, hb⟩
        have K11 := K10.step hb
        clear hb K10
        obtain ⟨x00, x01, x02⟩ := (K11.2.2 (w7.heap.size, b1, b2, b3) (by simp)).1
        obtain ⟨x10, x11, x12⟩ := (K11.2.2 (w6.heap.size + 1, u4, u5, u6) (by simp)).1
        go_wp2_with (fail)
        (with_reducible refine (hbt _).mono ?_)
        rintro e w10 ⟨rfl, hb⟩
        have K12 := K11.step hb
        clear hb K11 x00 x01 x02 x10 x11 x12
        obtain ⟨x00, x01, x02⟩ := (K12.2.2 (w7.heap.size, b1, b2, b3) (by simp)).1
        go_wp2_with (fail)
        (with_reducible refine (hwd _).mono ?_)
        rintro e w11 ⟨rfl, hb⟩
        have K13 := K12.step hb
        clear hb K12 x00 x01 x02
        obtain ⟨x00, x01, x02⟩ := (K13.2.2 (w.heap.size, y, m, d) (by simp)).1
        go_wp2_with (fail)
        (with_reducible refine (hr1 _).mono ?_)
        rintro e w13 ⟨rfl, hb⟩
        have K14 := K13.step hb
        clear hb K13 x00 x01 x02
        have K15 := K14.add a1 a2 a3 23
        clear K14
        obtain ⟨x00, x01, x02⟩ := (K15.2.2 (w.heap.size, y, m, d) (by simp)).1
        go_wp2_with (fail)
        (with_reducible refine (hr2 _).mono ?_)
        rintro e w14 ⟨rfl, hb⟩
        have K16 := K15.step hb
        clear hb K15 x00 x01 x02
        have K17 := K16.add n1 n2 n3 23
        clear K16
        have P0 := PS.of (qa := w13.heap.size) (a1 := a1) (a2 := a2) (a3 := a3) (qt := w6.heap.size + 1) (t1 := u4) (t2 := u5) (t3 := u6) (qn := w14.heap.size) (n1 := n1) (n2 := n2) (n3 := n3) K17 (by simp) (by simp) (by simp)
        have P1 := PS.of (qa := w13.heap.size) (a1 := a1) (a2 := a2) (a3 := a3) (qt := w6.heap.size + 1) (t1 := u4) (t2 := u5) (t3 := u6) (qn := w14.heap.size) (n1 := n1) (n2 := n2) (n3 := n3) (K17.step (Below.refl _ _).drew) (by simp) (by simp) (by simp)
        clear K17
        go_wp2
        go_region_held3 (fun W => W.cell? ⟨w13.heap.size, 0, none⟩ = some (.int .i64 a1) ∧ W.cell? ⟨w13.heap.size, 1, none⟩ = some (.int .i64 a2) ∧ W.cell? ⟨w13.heap.size, 2, none⟩ = some (.int .i64 a3) ∧ W.cell? ⟨w6.heap.size + 1, 0, none⟩ = some (.int .i64 u4) ∧ W.cell? ⟨w6.heap.size + 1, 1, none⟩ = some (.int .i64 u5) ∧ W.cell? ⟨w6.heap.size + 1, 2, none⟩ = some (.int .i64 u6) ∧ W.cell? ⟨w14.heap.size, 0, none⟩ = some (.int .i64 n1) ∧ W.cell? ⟨w14.heap.size, 1, none⟩ = some (.int .i64 n2) ∧ W.cell? ⟨w14.heap.size, 2, none⟩ = some (.int .i64 n3) ∧ KP w p f y m d [(w14.heap.size, n1, n2, n3), (w13.heap.size, a1, a2, a3), (w7.heap.size, b1, b2, b3), (w6.heap.size + 1, u4, u5, u6), (w6.heap.size, u1, u2, u3), (w.heap.size, y, m, d)] W)
          ((first | exact P1 | exact PS.of (KP.step hb (show KP w p f y m d [(w14.heap.size, n1, n2, n3), (w13.heap.size, a1, a2, a3), (w7.heap.size, b1, b2, b3), (w6.heap.size + 1, u4, u5, u6), (w6.heap.size, u1, u2, u3), (w.heap.size, y, m, d)] _ from (by assumption : PS w p f y m d [(w14.heap.size, n1, n2, n3), (w13.heap.size, a1, a2, a3), (w7.heap.size, b1, b2, b3), (w6.heap.size + 1, u4, u5, u6), (w6.heap.size, u1, u2, u3), (w.heap.size, y, m, d)] w13.heap.size a1 a2 a3 (w6.heap.size + 1) u4 u5 u6 w14.heap.size n1 n2 n3 _).2.2.2.2.2.2.2.2.2)) (by simp) (by simp) (by simp)))
          (first
            | (go_at_call 14; (with_reducible refine (hn1 _).mono ?_); rintro e w20 ⟨rfl, hb⟩)
            | (go_at_call 14; (with_reducible refine (hrto _).mono ?_); rintro e w20 ⟨rfl, hb⟩)
            | (go_at_call 14; (with_reducible refine (hn2 _).mono ?_); rintro e w20 ⟨rfl, hb⟩))
        rename_i hH
        have K20 := (show PS w p f y m d [(w14.heap.size, n1, n2, n3), (w13.heap.size, a1, a2, a3), (w7.heap.size, b1, b2, b3), (w6.heap.size + 1, u4, u5, u6), (w6.heap.size, u1, u2, u3), (w.heap.size, y, m, d)] w13.heap.size a1 a2 a3 (w6.heap.size + 1) u4 u5 u6 w14.heap.size n1 n2 n3 w20 from hH).2.2.2.2.2.2.2.2.2
        have K21 := K20.sub (qs' := [(w.heap.size, y, m, d)]) (by simp)
        clear hH hb P0 P1 K20
        go_wp2
        go_roundw
        case rel => exact ⟨_, κ + 1, rfl, rfl, by rw [HNX.out]; congr 1; omega, by rw [HLN.out, HQ1.out], by omega, by omega, K21⟩
        case measure => simp [intOf]; omega
      · rw [hq] at hqt hll
        have HQ1 := Lib.hid hq
        have hqf := qtr_facts y m d (pe f y m d κ)
        have hr1 := rmonths_in (j := 6) HH.out (by omega) (by omega)
        rw [show (6 : Int) + 1 = 7 from rfl] at hr1
        have hn1 := rnum_in (k := 7) HH.out (by omega) (by omega)
        have hle : pb 4 y m d 7 ≤ pe f y m d κ := by have := hqf.2.2.1 hq; omega
        have hle' : decide (pe f y m d κ < pb 4 y m d 7) = false := by simpa using hle
        have hr2 := rmonths_in (j := 9) HH.out (by omega) (by omega)
        rw [show (9 : Int) + 1 = 10 from rfl] at hr2
        have hn2 := rnum_in (k := 10) HH.out (by omega) (by omega)
        have hlt : ¬ pb 4 y m d 10 ≤ pe f y m d κ := by have := hqf.2.2.1 hq; omega
        clear hq hq4 hqf
        generalize yOf (pb 4 y m d 7) = a1 at *
        generalize mOf (pb 4 y m d 7) = a2 at *
        generalize dOf (pb 4 y m d 7) = a3 at *
        generalize yOf (pb 4 y m d 10) = n1 at *
        generalize mOf (pb 4 y m d 10) = n2 at *
        generalize dOf (pb 4 y m d 10) = n3 at *
        go_wp2_with (fail)
        refine (hct _ K4.1).mono ?_
        rintro e w5 ⟨rfl, hb⟩
        have K5 := K4.step hb
        clear hb K4
        go_wp2_with (fail)
        refine (hsp _ K5.1).mono ?_
        rintro e w6 ⟨rfl, hb⟩
        have K6 := K5.step hb
        clear hb K5
        have K7 := K6.add2 u1 u2 u3 u4 u5 u6 23 23
        clear K6
        go_wp2_with (fail)
        refine (hpd _ K7.1).mono ?_
        rintro e w7 ⟨rfl, hb⟩
        have K8 := K7.step hb
        clear hb K7
        have K9 := K8.add b1 b2 b3 23
        clear K8
        go_wp2_with (fail)
        refine (hqt _ K9.1).mono ?_
        rintro e w8 ⟨rfl, hb⟩
        have K10 := K9.step hb
        clear hb K9
        go_wp2_with (fail)
        refine (hdy _ K10.1).mono ?_
        rintro e w9 ⟨rfl, hb⟩
        have K11 := K10.step hb
        clear hb K10
        obtain ⟨x00, x01, x02⟩ := (K11.2.2 (w7.heap.size, b1, b2, b3) (by simp)).1
        obtain ⟨x10, x11, x12⟩ := (K11.2.2 (w6.heap.size + 1, u4, u5, u6) (by simp)).1
        go_wp2_with (fail)
        (with_reducible refine (hbt _).mono ?_)
        rintro e w10 ⟨rfl, hb⟩
        have K12 := K11.step hb
        clear hb K11 x00 x01 x02 x10 x11 x12
        obtain ⟨x00, x01, x02⟩ := (K12.2.2 (w7.heap.size, b1, b2, b3) (by simp)).1
        go_wp2_with (fail)
        (with_reducible refine (hwd _).mono ?_)
        rintro e w11 ⟨rfl, hb⟩
        have K13 := K12.step hb
        clear hb K12 x00 x01 x02
        obtain ⟨x00, x01, x02⟩ := (K13.2.2 (w.heap.size, y, m, d) (by simp)).1
        go_wp2_with (fail)
        (with_reducible refine (hr1 _).mono ?_)
        rintro e w13 ⟨rfl, hb⟩
        have K14 := K13.step hb
        clear hb K13 x00 x01 x02
        have K15 := K14.add a1 a2 a3 23
        clear K14
        obtain ⟨x00, x01, x02⟩ := (K15.2.2 (w.heap.size, y, m, d) (by simp)).1
        go_wp2_with (fail)
        (with_reducible refine (hr2 _).mono ?_)
        rintro e w14 ⟨rfl, hb⟩
        have K16 := K15.step hb
        clear hb K15 x00 x01 x02
        have K17 := K16.add n1 n2 n3 23
        clear K16
        have P0 := PS.of (qa := w13.heap.size) (a1 := a1) (a2 := a2) (a3 := a3) (qt := w6.heap.size + 1) (t1 := u4) (t2 := u5) (t3 := u6) (qn := w14.heap.size) (n1 := n1) (n2 := n2) (n3 := n3) K17 (by simp) (by simp) (by simp)
        have P1 := PS.of (qa := w13.heap.size) (a1 := a1) (a2 := a2) (a3 := a3) (qt := w6.heap.size + 1) (t1 := u4) (t2 := u5) (t3 := u6) (qn := w14.heap.size) (n1 := n1) (n2 := n2) (n3 := n3) (K17.step (Below.refl _ _).drew) (by simp) (by simp) (by simp)
        clear K17
        go_wp2
        go_region_held3 (fun W => W.cell? ⟨w13.heap.size, 0, none⟩ = some (.int .i64 a1) ∧ W.cell? ⟨w13.heap.size, 1, none⟩ = some (.int .i64 a2) ∧ W.cell? ⟨w13.heap.size, 2, none⟩ = some (.int .i64 a3) ∧ W.cell? ⟨w6.heap.size + 1, 0, none⟩ = some (.int .i64 u4) ∧ W.cell? ⟨w6.heap.size + 1, 1, none⟩ = some (.int .i64 u5) ∧ W.cell? ⟨w6.heap.size + 1, 2, none⟩ = some (.int .i64 u6) ∧ W.cell? ⟨w14.heap.size, 0, none⟩ = some (.int .i64 n1) ∧ W.cell? ⟨w14.heap.size, 1, none⟩ = some (.int .i64 n2) ∧ W.cell? ⟨w14.heap.size, 2, none⟩ = some (.int .i64 n3) ∧ KP w p f y m d [(w14.heap.size, n1, n2, n3), (w13.heap.size, a1, a2, a3), (w7.heap.size, b1, b2, b3), (w6.heap.size + 1, u4, u5, u6), (w6.heap.size, u1, u2, u3), (w.heap.size, y, m, d)] W)
          ((first | exact P1 | exact PS.of (KP.step hb (show KP w p f y m d [(w14.heap.size, n1, n2, n3), (w13.heap.size, a1, a2, a3), (w7.heap.size, b1, b2, b3), (w6.heap.size + 1, u4, u5, u6), (w6.heap.size, u1, u2, u3), (w.heap.size, y, m, d)] _ from (by assumption : PS w p f y m d [(w14.heap.size, n1, n2, n3), (w13.heap.size, a1, a2, a3), (w7.heap.size, b1, b2, b3), (w6.heap.size + 1, u4, u5, u6), (w6.heap.size, u1, u2, u3), (w.heap.size, y, m, d)] w13.heap.size a1 a2 a3 (w6.heap.size + 1) u4 u5 u6 w14.heap.size n1 n2 n3 _).2.2.2.2.2.2.2.2.2)) (by simp) (by simp) (by simp)))
          (first
            | (go_at_call 14; (with_reducible refine (hn1 _).mono ?_); rintro e w20 ⟨rfl, hb⟩)
            | (go_at_call 14; (with_reducible refine (hrto _).mono ?_); rintro e w20 ⟨rfl, hb⟩)
            | (go_at_call 14; (with_reducible refine (hn2 _).mono ?_); rintro e w20 ⟨rfl, hb⟩))
        rename_i hH
        have K20 := (show PS w p f y m d [(w14.heap.size, n1, n2, n3), (w13.heap.size, a1, a2, a3), (w7.heap.size, b1, b2, b3), (w6.heap.size + 1, u4, u5, u6), (w6.heap.size, u1, u2, u3), (w.heap.size, y, m, d)] w13.heap.size a1 a2 a3 (w6.heap.size + 1) u4 u5 u6 w14.heap.size n1 n2 n3 w20 from hH).2.2.2.2.2.2.2.2.2
        have K21 := K20.sub (qs' := [(w.heap.size, y, m, d)]) (by simp)
        clear hH hb P0 P1 K20
        go_wp2
        go_roundw
        case rel => exact ⟨_, κ + 1, rfl, rfl, by rw [HNX.out]; congr 1; omega, by rw [HLN.out, HQ1.out], by omega, by omega, K21⟩
        case measure => simp [intOf]; omega
      · rw [hq] at hqt hll
        have HQ1 := Lib.hid hq
        have hqf := qtr_facts y m d (pe f y m d κ)
        have hr1 := rmonths_in (j := 9) HH.out (by omega) (by omega)
        rw [show (9 : Int) + 1 = 10 from rfl] at hr1
        have hn1 := rnum_in (k := 10) HH.out (by omega) (by omega)
        have hle : pb 4 y m d 10 ≤ pe f y m d κ := by have := hqf.2.2.2 hq; omega
        have hle' : decide (pe f y m d κ < pb 4 y m d 10) = false := by simpa using hle
        have hr2 := rmonths_yes y m d 12 (yrB_yes HH.out).1 (by omega) (by omega) (mt_in (dayB_yes (yrB_yes HH.out).1).1 (yrB_yes HH.out).2.1 hm1 (dayB_yes (yrB_yes HH.out).1).2.2.2.1 (by omega) (by omega))
        generalize yM (mt y m 12) = n1 at *
        generalize mM (mt y m 12) = n2 at *
        generalize dM (mt y m 12) d = n3 at *
        clear hq hq4 hqf
        generalize yOf (pb 4 y m d 10) = a1 at *
        generalize mOf (pb 4 y m d 10) = a2 at *
        generalize dOf (pb 4 y m d 10) = a3 at *
        go_wp2_with (fail)
        refine (hct _ K4.1).mono ?_
        rintro e w5 ⟨rfl, hb⟩
        have K5 := K4.step hb
        clear hb K4
        go_wp2_with (fail)
        refine (hsp _ K5.1).mono ?_
        rintro e w6 ⟨rfl, hb⟩
        have K6 := K5.step hb
        clear hb K5
        have K7 := K6.add2 u1 u2 u3 u4 u5 u6 23 23
        clear K6
        go_wp2_with (fail)
        refine (hpd _ K7.1).mono ?_
        rintro e w7 ⟨rfl, hb⟩
        have K8 := K7.step hb
        clear hb K7
        have K9 := K8.add b1 b2 b3 23
        clear K8
        go_wp2_with (fail)
        refine (hqt _ K9.1).mono ?_
        rintro e w8 ⟨rfl, hb⟩
        have K10 := K9.step hb
        clear hb K9
        go_wp2_with (fail)
        refine (hdy _ K10.1).mono ?_
        rintro e w9 ⟨rfl, hb⟩
        have K11 := K10.step hb
        clear hb K10
        obtain ⟨x00, x01, x02⟩ := (K11.2.2 (w7.heap.size, b1, b2, b3) (by simp)).1
        obtain ⟨x10, x11, x12⟩ := (K11.2.2 (w6.heap.size + 1, u4, u5, u6) (by simp)).1
        go_wp2_with (fail)
        (with_reducible refine (hbt _).mono ?_)
        rintro e w10 ⟨rfl, hb⟩
        have K12 := K11.step hb
        clear hb K11 x00 x01 x02 x10 x11 x12
        obtain ⟨x00, x01, x02⟩ := (K12.2.2 (w7.heap.size, b1, b2, b3) (by simp)).1
        go_wp2_with (fail)
        (with_reducible refine (hwd _).mono ?_)
        rintro e w11 ⟨rfl, hb⟩
        have K13 := K12.step hb
        clear hb K12 x00 x01 x02
        obtain ⟨x00, x01, x02⟩ := (K13.2.2 (w.heap.size, y, m, d) (by simp)).1
        go_wp2_with (fail)
        (with_reducible refine (hr1 _).mono ?_)
        rintro e w13 ⟨rfl, hb⟩
        have K14 := K13.step hb
        clear hb K13 x00 x01 x02
        have K15 := K14.add a1 a2 a3 23
        clear K14
        obtain ⟨x00, x01, x02⟩ := (K15.2.2 (w.heap.size, y, m, d) (by simp)).1
        go_wp2_with (fail)
        (with_reducible refine (hr2 _).mono ?_)
        rintro e w14 ⟨rfl, hb⟩
        have K16 := K15.step hb
        clear hb K15 x00 x01 x02
        have K17 := K16.add n1 n2 n3 23
        clear K16
        obtain ⟨⟨x00, x01, x02⟩, _⟩ := K17.2.2 (w13.heap.size, a1, a2, a3) (by simp)
        obtain ⟨⟨x10, x11, x12⟩, _⟩ := K17.2.2 (w6.heap.size + 1, u4, u5, u6) (by simp)
        simp only at x00 x01 x02 x10 x11 x12
        have HK17 := Lib.hid K17
        clear K17 hct hsp hpd hqt hdy hbt hwd hr1 hr2 HP1 hbe hyb
        go_wp2
        generalize w14.alloc (.cells #[.int .i64 n1, .int .i64 n2, .int .i64 n3] 23) = W17 at *
        have k0 := fun d os => cell_regrown x00 d os
        have k1 := fun d os => cell_regrown x01 d os
        have k2 := fun d os => cell_regrown x02 d os
        have k3 := fun d os => cell_regrown x10 d os
        have k4 := fun d os => cell_regrown x11 d os
        have k5 := fun d os => cell_regrown x12 d os
        have cA := fun dd os => Calls.regrown_of (d := dd) (os := os) (w := W17) (hn1 (grow (redrawn W17 dd) os))
        have cB := fun dd os => Calls.regrown_of (d := dd) (os := os) (w := W17) (hrto (grow (redrawn W17 dd) os))
        clear x00 x01 x02 x10 x11 x12
        refine wp_region_quiet_below mixedAll (by kernel_rfl) ?_
        iterate 2 (go_big_quiet_step (exact cA _ _))
        iterate 2 (go_big_quiet_step (exact cB _ _))
        repeat (go_big_quiet_step (fail))
        refine wpQuiet_nil ?_
        intro _ hw'
        obtain ⟨⟨dq, osq⟩, hw''⟩ := hw'
        subst hw''
        have K21 := (HK17.out.step (below_regrown W17 dq osq)).sub (qs' := [(w.heap.size, y, m, d)]) (by simp)
        clear HK17 k0 k1 k2 k3 k4 k5 cA cB
        go_wp2
        go_roundw
        case rel => exact ⟨_, κ + 1, rfl, rfl, by rw [HNX.out]; congr 1; omega, by rw [HLN.out, HQ1.out], by omega, by omega, K21⟩
        case measure => simp [intOf]; omega
    · have hat := bny_out hgo
      have hκ : κ = cnt f y m d + 1 := by omega
      have hlq := lq_end hf hf' HH.out
      rw [hat, hκ, hlq]
      clear hat hκ hlq hgo hk1 hk2
      have hst := fun W Y => start_any p f y m d W Y
      have hen := fun W Y => endd_any p f y m d W Y
      have hpn := fun W Y => payday_no p f y m d 0 W Y HH.out hf hf' (by omega)
      have hqn := fun W Y => quarter_no p f y m d (cnt f y m d + 1) W Y HH.out hf hf' (by omega)
      have hdn := fun W Y => days_no p f y m d (-1) W Y HH.out hf hf' (by omega)
      have hs1 : (yend y m d + 1 - num y m d == yend y m d - num y m d + 1) = true := by simp; omega
      generalize yOf (yend y m d) = v1 at *
      generalize mOf (yend y m d) = v2 at *
      generalize dOf (yend y m d) = v3 at *
      obtain ⟨hyb1, hyb2⟩ := hyb
      generalize yend y m d = E at *
      generalize num y m d = s at *
      generalize cnt f y m d = c at *
      go_wp2_with (fail)
      refine (hct _ K4.1).mono ?_
      rintro e w5 ⟨rfl, hb⟩
      have K5 := K4.step hb
      clear hb K4
      go_wp2_with (fail)
      refine (hst _ K5.1).mono ?_
      rintro e w6 ⟨rfl, hb⟩
      have K6 := K5.step hb
      clear hb K5
      go_wp2_with (fail)
      refine (hen _ K6.1).mono ?_
      rintro e w7 ⟨rfl, hb⟩
      have K7 := K6.step hb
      clear hb K6
      go_wp2_with (fail)
      (with_reducible refine (hbe _).mono ?_)
      rintro e w8 ⟨rfl, hb⟩
      have K8 := K7.step hb
      clear hb K7
      go_wp2_with (fail)
      refine (hpn _ K8.1).mono ?_
      rintro e w9 ⟨rfl, hb⟩
      have K9 := K8.step hb
      clear hb K8
      have K10 := K9.step (W' := w9.alloc (.cells #[.int .i64 0, .int .i64 0, .int .i64 0] 23)) ((Below.refl _ _).alloc (Nat.le_refl _) _)
      clear K9
      go_wp2_with (fail)
      refine (hct _ K10.1).mono ?_
      rintro e w10 ⟨rfl, hb⟩
      have K11 := K10.step hb
      clear hb K10
      go_wp2_with (fail)
      refine (hqn _ K11.1).mono ?_
      rintro e w11 ⟨rfl, hb⟩
      have K12 := K11.step hb
      clear hb K11
      go_wp2_with (fail)
      refine (hdn _ K12.1).mono ?_
      rintro e w12 ⟨rfl, hb⟩
      have K13 := K12.step hb
      clear hb K12
      have B13 := K13.2.1
      go_wp2
      go_ret
      exact ⟨rfl, B13⟩
theorem wPeriodPays (f y m d : Int) (W : World) (hK : Kinds W) : Calls Tryd.prog 10 #[.int .i64 f, .agg #[.int .i64 y, .int .i64 m, .int .i64 d]] W fun e w' => e = .returned (.bool true) ∧ Below W.heap.size W w' := by
  by_cases hf : 1 ≤ f ∧ f ≤ 4
  · cases h : yrB y m d
    · exact pays_nil f y m d 30 W hK (new_date f y m d hf.1 hf.2 h)
    · exact pays_yes f y m d W hK hf.1 hf.2 h
  · exact pays_nil f y m d 40 W hK (new_freq f y m d (by omega))
end Go.Proofs.YtkgfmanolanlhaaDoor
