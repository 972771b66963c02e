/- The walk of the law YearUpto. -/
import Derived.Test.YtfnjhalpedccaaaYrZ
import Derived.Test.YtfnjhalpedccaaaYrU
import Derived.Test.YtfnjhalpedccaaaYrS
import Derived.Test.YtfnjhalpedccaaaYrX
import Derived.Test.YtfnjhalpedccaaaYrVB
import Derived.Test.YtfnjhalpedccaaaYrN
import Derived.Deep.RegionHeld3
import Derived.Deep.CutRange
namespace Go.Proofs.Ytfnjhalpedccaaa
open Go.RowKit Go.Sort
set_option linter.unusedVariables false
set_option linter.unusedSimpArgs false

theorem meas_step {N i : Nat} (h : i < N) : N - (intOf (Value.int .i64 ((i : Int) + 1))).toNat < N - (intOf (Value.int .i64 (i : Int))).toNat := by
  simp [intOf]; omega
theorem sls_cut {w : World} {B cnt K cv : Nat} {Av : Option Addr} {f : Nat → Slp} (hown : w.ownsRow B 37 10 (.slice Av cnt cv) cnt (slc f cnt)) (hf : ∀ j, j < cnt → SlM w (f j)) (hK : K ≤ cnt) : Sls w (if cv = K then Av else Av.map (·.add (K * 10))) (cnt - K) (fun j => f (K + j)) := fun h0 => by
  have hc : cv ≠ K := by
    rcases hown.2 with ⟨_, h⟩ | ⟨g, cap, cur, hv, hg, hh, h1, _⟩
    · omega
    · obtain ⟨_, _, rfl⟩ := Value.slice.inj hv
      omega
  rw [if_neg hc]
  obtain ⟨b, rfl, _⟩ := sl_own hown (i := 0) (by omega)
  refine ⟨b, K * 10, by simp [Go.WideShapes.add_plain], fun j hj => ?_⟩
  obtain ⟨b', e, h⟩ := sl_own hown (i := K + j) (by omega)
  obtain rfl : b = b' := by simpa using e
  refine ⟨?_, hf _ (by omega)⟩
  rw [show K * 10 + j * 10 = (K + j) * 10 by omega]
  exact h
/-- payslips that lie elsewhere -/
def SlF (W : World) (qT : Nat) (A : Option Addr) (m : Nat) (f : Nat → Slp) : Prop := Sls W A m f ∧ (∀ q, atB A q → q ≠ qT ∧ q < W.heap.size) ∧ ∀ j, j < m → ∀ q, (f j).at_ q → q ≠ qT ∧ q < W.heap.size
theorem SlF.chg {W W' : World} {qT : Nat} {A : Option Addr} {m : Nat} {f : Nat → Slp} (h : SlF W qT A m f) (hc : Chg (fun q => q = qT) W W') : Sls W' A m f := fun h0 => by
  obtain ⟨h1, h2, h3⟩ := h
  obtain ⟨b, o, rfl, hcs⟩ := h1 h0
  have eb := hc.block b (h2 b rfl).2 (h2 b rfl).1
  exact ⟨b, o, rfl, fun j hj => ⟨fun i v hv => (World.cell?_of_block eb).trans ((hcs j hj).1 i v hv), (hcs j hj).2.blk fun q hq => hc.block q (h3 j hj q hq).2 (h3 j hj q hq).1⟩⟩
theorem slf_cut {w w0 : World} {cnt K cv qT : Nat} {Av : Option Addr} {f : Nat → Slp} (hq : qT < w0.heap.size) (hown : w.ownsRow w0.heap.size 37 10 (.slice Av cnt cv) cnt (slc f cnt)) (hf : ∀ j, j < cnt → SlM w (f j) ∧ ∀ q, (f j).at_ q → w0.heap.size ≤ q ∧ q < w.heap.size ∧ (Value.slice Av cnt cv).ownBlock ≠ some q) (hK : K ≤ cnt) : SlF w qT (if cv = K then Av else Av.map (·.add (K * 10))) (cnt - K) (fun j => f (K + j)) := by
  refine ⟨sls_cut hown (fun j hj => (hf j hj).1) hK, fun q e => ?_, fun j hj q e => ?_⟩
  · have : (Value.slice Av cnt cv).ownBlock = some q := by
      cases Av with
      | none => split at e <;> cases e
      | some a =>
        split at e
        · exact e
        · have e2 : (a.add (K * 10)).block = q := by simpa [atB] using e
          have e3 : (a.add (K * 10)).block = a.block := by unfold Addr.add; split <;> rfl
          rw [← e2, e3]; rfl
    have h := hown.lt q this
    exact ⟨by omega, h.2⟩
  · have h := (hf (K + j) (by omega)).2 q e
    exact ⟨by omega, h.2.1⟩
theorem stAll_chg {F : Nat → Prop} {p : Nat} {w : World} (hp : F p) : ∀ (vals : List Value) (W : World) (o : Nat), Chg F w W → Chg F w (stAll W p o vals) := by
  intro vals
  induction vals with
  | nil => intro W o h; exact h
  | cons v l ih => intro W o h; exact ih _ _ (h.set hp o v)
theorem ob_at {A : Option Addr} {n c q : Nat} (h : atB A q) : (Value.slice A n c).ownBlock = some q := by
  cases A with
  | none => cases h
  | some a => exact h
theorem Shs.all0 {w : World} {B : Nat} {A : Option Addr} {n c : Nat} {X Y : Nat → Int} (h : w.ownsRow B 53 2 (.slice A n c) n (sh2 X Y n)) {p : Nat} (hp : p < B) (vals : List Value) : Shs (stAll w p 0 vals) A n X Y :=
  shs_blk (shs_own h) fun q e => stAll_blk (by
    have := (h.lt q (ob_at e)).1
    omega) _ _ _
theorem tsm_bd {X : Nat → Int} : ∀ n, (∀ i, i < n → amtB (X i) = true) → -100000000000 * (n : Int) ≤ tsm X n ∧ tsm X n ≤ 100000000000 * (n : Int)
  | 0, _ => by simp [tsm]
  | n + 1, h => by
    have ih := tsm_bd (X := X) n fun i hi => h i (by omega)
    have := amtB_yes (h n (by omega))
    show _ ≤ tsm X n + X n ∧ tsm X n + X n ≤ _
    omega
theorem tsm_wrap {X : Nat → Int} {n j : Nat} (h : ∀ i, i < n → amtB (X i) = true) (hj : j < n) (hn : n ≤ 64) : wrap64 (tsm X j + X j) = tsm X (j + 1) := by
  have b1 := tsm_bd (X := X) j fun i hi => h i (by omega)
  have b2 := amtB_yes (h j hj)
  exact IntWalk.wrap64_in _ (by omega)
theorem fin_sums {t : Tot} {n : Nat} (h : t.amB = true) (hs : t.shB n = true) (hn : n ≤ 64) (hb : t.ca = t.tx + tsm t.X n + t.tk + t.pay ∧ t.net = t.tk + t.pay) :
    wrap64 (t.tx + tsm t.X n) = t.tx + tsm t.X n ∧ wrap64 (t.tx + tsm t.X n + t.tk) = t.tx + tsm t.X n + t.tk ∧ wrap64 (t.tx + tsm t.X n + t.tk + t.pay) = t.ca ∧ wrap64 (t.tk + t.pay) = t.net := by
  have b1 := tsm_bd (X := t.X) n fun i hi => (shB_at hs hi).1
  unfold Tot.amB at h
  simp only [Bool.and_eq_true] at h
  obtain ⟨⟨⟨a1, a2⟩, a3⟩, ⟨⟨a4, a5⟩, a6⟩, a7⟩ := h
  have c1 := amtB_yes a1
  have c4 := amtB_yes a4
  have c6 := amtB_yes a6
  have c7 := amtB_yes a7
  refine ⟨IntWalk.wrap64_in _ (by omega), IntWalk.wrap64_in _ (by omega), ?_, ?_⟩
  · rw [← hb.1]; exact IntWalk.wrap64_in _ (by omega)
  · rw [← hb.2]; exact IntWalk.wrap64_in _ (by omega)
theorem same_z (W : World) : Calls Try.prog 13 #[.agg #[.int .i64 0, .int .i64 0, .int .i64 0, .int .i64 0, .int .i64 0, .slice none 0 0, .int .i64 0, .int .i64 0, .int .i64 0], .agg #[.int .i64 0, .int .i64 0, .int .i64 0, .int .i64 0, .int .i64 0, .slice none 0 0, .int .i64 0, .int .i64 0, .int .i64 0]] W fun e w' => e = .returned (.bool true) ∧ Below W.heap.size W w' :=
  ysame_any Tot.z none none 0 0 0 W (fun h => absurd h (Nat.lt_irrefl 0)) (fun h => absurd h (Nat.lt_irrefl 0)) (by decide)
set_option maxRecDepth 100000 in
set_option maxHeartbeats 4000000 in
theorem yu_small (n : Int) (A : Option Addr) (N c : Nat) (k : Int) (g0 : Nat → Slp) (w : World) (hS : Sls w A N g0) (hN : N ≤ 9223372036854775807) (hq : (smB g0 N && decide (N ≤ 60)) = false) :
    Calls Try.prog 4 #[.int .i64 n, .slice A N c, .int .i64 k] w fun e w' => e = .returned (.bool true) ∧ Below w.heap.size w w' := by
  go_enter Try.func4, Try.ntmps4
  have cK := keeps_any w
  go_wp2_with (fail)
  with_reducible refine cK.mono ?_
  rintro e w1 ⟨rfl, B⟩
  replace hS := hS.below B
  clear cK
  go_wp2_with (fail)
  with_reducible refine (lsmall_big A N c g0 _ hS hN false hq).mono ?_
  rintro e w2 ⟨rfl, hb⟩
  replace B := below_step B hb B.size
  clear hb hq hS
  go_wp2
  go_ret
  exact ⟨rfl, B⟩
set_option maxRecDepth 100000 in
set_option maxHeartbeats 4000000 in
theorem yu_out (n : Int) (A : Option Addr) (N c : Nat) (k : Int) (g0 : Nat → Slp) (w : World) (hS : Sls w A N g0) (hN : N ≤ 9223372036854775807) (hq : (smB g0 N && decide (N ≤ 60)) = true) (hn : n < 0 ∨ 30 < n) :
    Calls Try.prog 4 #[.int .i64 n, .slice A N c, .int .i64 k] w fun e w' => e = .returned (.bool true) ∧ Below w.heap.size w w' := by
  have key : decide (n < 0) = true ∨ (decide (n < 0) = false ∧ decide (30 < n) = true) := by
    by_cases e : n < 0
    · exact .inl (decide_eq_true e)
    · exact .inr ⟨decide_eq_false e, decide_eq_true (by omega)⟩
  clear hn
  rcases key with l0 | ⟨l0, l1⟩
  all_goals
    go_enter Try.func4, Try.ntmps4
    have cK := keeps_any w
    go_wp2_with (fail)
    with_reducible refine cK.mono ?_
    rintro e w1 ⟨rfl, B⟩
    replace hS := hS.below B
    clear cK
    go_wp2_with (fail)
    with_reducible refine (lsmall_big A N c g0 _ hS hN true hq).mono ?_
    rintro e w2 ⟨rfl, hb⟩
    replace B := below_step B hb B.size
    clear hb hq hS
    go_wp2
    go_ret
    exact ⟨rfl, B⟩
set_option maxRecDepth 100000 in
set_option maxHeartbeats 16000000 in
theorem yu_main (n : Nat) (A : Option Addr) (N c : Nat) (k : Int) (g0 : Nat → Slp) (w : World) (hS : Sls w A N g0) (hN : N ≤ 9223372036854775807) (hq : (smB g0 N && decide (N ≤ 60)) = true) (hn : n ≤ 30) :
    Calls Try.prog 4 #[.int .i64 (n : Int), .slice A N c, .int .i64 k] w fun e w' => e = .returned (.bool true) ∧ Below w.heap.size w w' := by
  have l0 : decide ((n : Int) < 0) = false := decide_eq_false (by omega)
  have l1 : decide ((30 : Int) < (n : Int)) = false := decide_eq_false (by omega)
  have hq2 := hq
  rw [Bool.and_eq_true] at hq2
  have HSB := Lib.hid (smB_at hq2.1)
  have HN6 : Hid (N ≤ 60) := Lib.hid (by simpa using hq2.2)
  have HNN : Hid (n ≤ 64) := Lib.hid (by omega)
  have HS0 := Lib.hid hS
  clear hq2
  go_enter Try.func4, Try.ntmps4
  have cK := keeps_any w
  go_wp2_with (fail)
  with_reducible refine cK.mono ?_
  rintro e w1 ⟨rfl, B⟩
  replace hS := hS.below B
  clear cK
  go_wp2_with (fail)
  with_reducible refine (lsmall_big A N c g0 _ hS hN true hq).mono ?_
  rintro e w2 ⟨rfl, hb⟩
  replace B := below_step B hb B.size
  replace hS := hS.below hb
  clear hb hq hN
  have cN := ynew_ok n g0 w2 HNN.out
  go_wp2_with (fail)
  with_reducible refine cN.mono ?_
  rintro e w3 ⟨p, rfl, hY, hb⟩
  have hI := yi_new B.size HNN.out hY
  replace B := below_step B hb B.size
  replace hS := hS.below hb
  have HB := Lib.hid B
  clear hb cN hY hS l0 l1 hn
  go_wp2
  have Bw := Below.refl w3.heap.size w3
  go_loopw [42] (fun kk W => ∃ i : Nat, i ≤ N ∧ kk = .int .i64 i ∧ (∃ cnt g t F, YI W p n cnt g t F w.heap.size) ∧ Below w.heap.size w W) (fun kk _ => N - (intOf kk).toNat)
  case atStart => exact ⟨0, Nat.zero_le _, rfl, ⟨0, g0, Tot.z, _, hI⟩, HB.out⟩
  case round =>
    clear Bw hI HB
    obtain ⟨i, hi, rfl, ⟨cnt, g, t, F, hI⟩, B⟩ := hrel
    by_cases hlt : i < N
    · have hil : (i : Int) < (N : Int) := by omega
      have hS := HS0.out.below B
      obtain ⟨b, o, hA0, hc⟩ := hS (by omega)
      obtain rfl := hA0
      obtain ⟨hAt, hM⟩ := hc i hlt
      obtain ⟨x_0, x_1, x_2, x_3, x_4, x_5, x_6, x_7, x_8, x_9⟩ := hAt.all
      have hsz := HSB.out i hlt
      have hw1 : wrap64 ((i : Int) + 1) = (i : Int) + 1 := IntWalk.wrap64_in _ (by have := HN6.out; omega)
      clear hc hAt hS
      generalize hgs : g0 i = s at *
      clear hgs
      have K := bx_new wr [.int .i64 s.k, .int .i64 s.ca, .int .i64 s.tb, .int .i64 s.so, .int .i64 s.tx, .int .i64 s.sf, .slice s.A s.n s.c, .int .i64 s.net, .slice s.T s.m s.d, .int .i64 s.pay] 37
      have k_0 := K.cell (i := 0) rfl
      have kf_0 := K.fr 0
      have k_1 := K.cell (i := 1) rfl
      have kf_1 := K.fr 1
      have k_2 := K.cell (i := 2) rfl
      have kf_2 := K.fr 2
      have k_3 := K.cell (i := 3) rfl
      have kf_3 := K.fr 3
      have k_4 := K.cell (i := 4) rfl
      have kf_4 := K.fr 4
      have k_5 := K.cell (i := 5) rfl
      have kf_5 := K.fr 5
      have k_6 := K.cell (i := 6) rfl
      have kf_6 := K.fr 6
      have k_7 := K.cell (i := 7) rfl
      have kf_7 := K.fr 7
      have k_8 := K.cell (i := 8) rfl
      have kf_8 := K.fr 8
      have k_9 := K.cell (i := 9) rfl
      have kf_9 := K.fr 9
      have K1 := bx_new wr [.int .i64 ((i : Int) + 1), .int .i64 s.ca, .int .i64 s.tb, .int .i64 s.so, .int .i64 s.tx, .int .i64 s.sf, .slice s.A s.n s.c, .int .i64 s.net, .slice s.T s.m s.d, .int .i64 s.pay] 37
      have N1 := below_new wr (.cells #[.int .i64 ((i : Int) + 1), .int .i64 s.ca, .int .i64 s.tb, .int .i64 s.so, .int .i64 s.tx, .int .i64 s.sf, .slice s.A s.n s.c, .int .i64 s.net, .slice s.T s.m s.d, .int .i64 s.pay] 37)
      have j_0 := K1.cell (i := 0) rfl
      have j_1 := K1.cell (i := 1) rfl
      have j_2 := K1.cell (i := 2) rfl
      have j_3 := K1.cell (i := 3) rfl
      have j_4 := K1.cell (i := 4) rfl
      have j_5 := K1.cell (i := 5) rfl
      have j_6 := K1.cell (i := 6) rfl
      have j_7 := K1.cell (i := 7) rfl
      have j_8 := K1.cell (i := 8) rfl
      have j_9 := K1.cell (i := 9) rfl
      have hM1 : SlM (wr.alloc (.cells #[.int .i64 ((i : Int) + 1), .int .i64 s.ca, .int .i64 s.tb, .int .i64 s.so, .int .i64 s.tx, .int .i64 s.sf, .slice s.A s.n s.c, .int .i64 s.net, .slice s.T s.m s.d, .int .i64 s.pay] 37)) (⟨(i : Int) + 1, s.ca, s.tb, s.so, s.tx, s.sf, s.A, s.n, s.c, s.net, s.T, s.m, s.d, s.pay, s.X, s.Y, s.f⟩ : Slp) := ⟨(hM.below N1).sh, (hM.below N1).tk, hM.sa, hM.ta⟩
      replace hI := hI.below N1
      replace B := below_step B N1 B.size
      have hsn : s.n ≤ 100000 := by omega
      have hsm : s.m ≤ 100000 := by omega
      clear N1 K K1 hM hsz
      by_cases hv : pstV (⟨(i : Int) + 1, s.ca, s.tb, s.so, s.tx, s.sf, s.A, s.n, s.c, s.net, s.T, s.m, s.d, s.pay, s.X, s.Y, s.f⟩ : Slp) n cnt t = 0
      · have cP : Calls Try.prog 14 #[.pointer (some ⟨p, 0, none⟩), .agg #[.int .i64 ((i : Int) + 1), .int .i64 s.ca, .int .i64 s.tb, .int .i64 s.so, .int .i64 s.tx, .int .i64 s.sf, .slice s.A s.n s.c, .int .i64 s.net, .slice s.T s.m s.d, .int .i64 s.pay]] (wr.alloc (.cells #[.int .i64 ((i : Int) + 1), .int .i64 s.ca, .int .i64 s.tb, .int .i64 s.so, .int .i64 s.tx, .int .i64 s.sf, .slice s.A s.n s.c, .int .i64 s.net, .slice s.T s.m s.d, .int .i64 s.pay] 37)) (YkP p n cnt g t (⟨(i : Int) + 1, s.ca, s.tb, s.so, s.tx, s.sf, s.A, s.n, s.c, s.net, s.T, s.m, s.d, s.pay, s.X, s.Y, s.f⟩ : Slp) F w.heap.size (wr.alloc (.cells #[.int .i64 ((i : Int) + 1), .int .i64 s.ca, .int .i64 s.tb, .int .i64 s.so, .int .i64 s.tx, .int .i64 s.sf, .slice s.A s.n s.c, .int .i64 s.net, .slice s.T s.m s.d, .int .i64 s.pay] 37))) := yp_ok hI B.size (⟨(i : Int) + 1, s.ca, s.tb, s.so, s.tx, s.sf, s.A, s.n, s.c, s.net, s.T, s.m, s.d, s.pay, s.X, s.Y, s.f⟩ : Slp) hM1 hsn hsm hv
        have hzB := B.size
        clear hv hM1 hsn hsm
        go_wp2_with (fail)
        generalize (wr.alloc (.cells #[.int .i64 ((i : Int) + 1), .int .i64 s.ca, .int .i64 s.tb, .int .i64 s.so, .int .i64 s.tx, .int .i64 s.sf, .slice s.A s.n s.c, .int .i64 s.net, .slice s.T s.m s.d, .int .i64 s.pay] 37)) = wq at *
        with_reducible refine cP.mono ?_
        rintro e w5 ⟨g', F', rfl, hI2, _, _, hF', hC⟩
        have B2 := hC.below B hzB hI.lo
        clear cP hC hI B hF'
        go_wp2
        refine ⟨⟨i + 1, by omega, by go_num, ⟨_, g', _, F', hI2⟩, B2⟩, ?_⟩
        first | exact meas_step hlt | (rw [hw1]; exact meas_step hlt)
      · have cP : Calls Try.prog 14 #[.pointer (some ⟨p, 0, none⟩), .agg #[.int .i64 ((i : Int) + 1), .int .i64 s.ca, .int .i64 s.tb, .int .i64 s.so, .int .i64 s.tx, .int .i64 s.sf, .slice s.A s.n s.c, .int .i64 s.net, .slice s.T s.m s.d, .int .i64 s.pay]] (wr.alloc (.cells #[.int .i64 ((i : Int) + 1), .int .i64 s.ca, .int .i64 s.tb, .int .i64 s.so, .int .i64 s.tx, .int .i64 s.sf, .slice s.A s.n s.c, .int .i64 s.net, .slice s.T s.m s.d, .int .i64 s.pay] 37)) fun e w' => e = .returned (.int .i64 (pstV (⟨(i : Int) + 1, s.ca, s.tb, s.so, s.tx, s.sf, s.A, s.n, s.c, s.net, s.T, s.m, s.d, s.pay, s.X, s.Y, s.f⟩ : Slp) n cnt t)) ∧ Below (wr.alloc (.cells #[.int .i64 ((i : Int) + 1), .int .i64 s.ca, .int .i64 s.tb, .int .i64 s.so, .int .i64 s.tx, .int .i64 s.sf, .slice s.A s.n s.c, .int .i64 s.net, .slice s.T s.m s.d, .int .i64 s.pay] 37)).heap.size (wr.alloc (.cells #[.int .i64 ((i : Int) + 1), .int .i64 s.ca, .int .i64 s.tb, .int .i64 s.so, .int .i64 s.tx, .int .i64 s.sf, .slice s.A s.n s.c, .int .i64 s.net, .slice s.T s.m s.d, .int .i64 s.pay] 37)) w' := yp_no hI (⟨(i : Int) + 1, s.ca, s.tb, s.so, s.tx, s.sf, s.A, s.n, s.c, s.net, s.T, s.m, s.d, s.pay, s.X, s.Y, s.f⟩ : Slp) hM1 hsn hsm _ rfl hv
        generalize pstV (⟨(i : Int) + 1, s.ca, s.tb, s.so, s.tx, s.sf, s.A, s.n, s.c, s.net, s.T, s.m, s.d, s.pay, s.X, s.Y, s.f⟩ : Slp) n cnt t = vv at *
        clear hv hM1 hsn hsm
        go_wp2_with (fail)
        generalize (wr.alloc (.cells #[.int .i64 ((i : Int) + 1), .int .i64 s.ca, .int .i64 s.tb, .int .i64 s.so, .int .i64 s.tx, .int .i64 s.sf, .slice s.A s.n s.c, .int .i64 s.net, .slice s.T s.m s.d, .int .i64 s.pay] 37)) = wq at *
        with_reducible refine cP.mono ?_
        rintro e w5 ⟨rfl, hb⟩
        have hI2 := hI.below hb
        have B2 := below_step B hb B.size
        clear cP hI B hb
        go_wp2
        refine ⟨⟨i + 1, by omega, by go_num, ⟨cnt, g, t, F, hI2⟩, B2⟩, ?_⟩
        first | exact meas_step hlt | (rw [hw1]; exact meas_step hlt)
    · obtain rfl : N = i := by omega
      have hnl : ¬ (N : Int) < (N : Int) := by omega
      clear hi hlt
      have HI := Lib.hid hI
      have HB := Lib.hid B
      have hC53 := hI.cb
      by_cases hk1 : k < 0
      · have t1 : decide (k < 0) = true := decide_eq_true hk1
        have cU := yupto_no1 hI.y k hk1
        clear hI B hk1
        go_wp2_with (fail)
        with_reducible refine cU.mono ?_
        rintro e w5 ⟨rfl, hb⟩
        have KT := bx_new w5 [.int .i64 0, .int .i64 0, .int .i64 0, .int .i64 0, .int .i64 0, .slice none 0 0, .int .i64 0, .int .i64 0, .int .i64 0] 34
        have B5 := below_step (below_step HB.out hb HB.out.size) (below_new w5 (.cells #[.int .i64 0, .int .i64 0, .int .i64 0, .int .i64 0, .int .i64 0, .slice none 0 0, .int .i64 0, .int .i64 0, .int .i64 0] 34)) (Nat.le_trans HB.out.size hb.size)
        have k_0 := KT.cell (i := 0) rfl
        have k_1 := KT.cell (i := 1) rfl
        have k_2 := KT.cell (i := 2) rfl
        have k_3 := KT.cell (i := 3) rfl
        have k_4 := KT.cell (i := 4) rfl
        have k_5 := KT.cell (i := 5) rfl
        have k_6 := KT.cell (i := 6) rfl
        have k_7 := KT.cell (i := 7) rfl
        have k_8 := KT.cell (i := 8) rfl
        clear cU hb
        go_wp2_with (fail)
        with_reducible refine (same_z _).mono ?_
        rintro e w6 ⟨rfl, hb⟩
        have B6 := below_step B5 hb B5.size
        go_wp2
        go_ret
        exact ⟨rfl, B6⟩
      have t1 : decide (k < 0) = false := decide_eq_false hk1
      by_cases hk2 : (cnt : Int) < k
      · have t2 : decide ((cnt : Int) < k) = true := decide_eq_true hk2
        have cU := yupto_no2 hI.y k ⟨hk1, hk2⟩
        clear B hk1 hk2
        go_wp2_with (fail)
        with_reducible refine cU.mono ?_
        rintro e w5 ⟨rfl, hb⟩
        have KT := bx_new w5 [.int .i64 0, .int .i64 0, .int .i64 0, .int .i64 0, .int .i64 0, .slice none 0 0, .int .i64 0, .int .i64 0, .int .i64 0] 34
        have NT := below_new w5 (.cells #[.int .i64 0, .int .i64 0, .int .i64 0, .int .i64 0, .int .i64 0, .slice none 0 0, .int .i64 0, .int .i64 0, .int .i64 0] 34)
        have B5 := below_step (below_step HB.out hb HB.out.size) NT (Nat.le_trans HB.out.size hb.size)
        have cC := ycount_any ((hI.y.below hb).below NT)
        clear cU hb hI NT
        go_wp2_with (fail)
        with_reducible refine cC.mono ?_
        rintro e w6 ⟨rfl, rfl⟩
        have k_0 := KT.cell (i := 0) rfl
        have k_1 := KT.cell (i := 1) rfl
        have k_2 := KT.cell (i := 2) rfl
        have k_3 := KT.cell (i := 3) rfl
        have k_4 := KT.cell (i := 4) rfl
        have k_5 := KT.cell (i := 5) rfl
        have k_6 := KT.cell (i := 6) rfl
        have k_7 := KT.cell (i := 7) rfl
        have k_8 := KT.cell (i := 8) rfl
        clear cC
        go_wp2_with (fail)
        with_reducible refine (same_z _).mono ?_
        rintro e w6 ⟨rfl, hb⟩
        have B6 := below_step B5 hb B5.size
        go_wp2
        go_ret
        exact ⟨rfl, B6⟩
      have t2 : decide ((cnt : Int) < k) = false := decide_eq_false hk2
      obtain ⟨K, rfl⟩ : ∃ K : Nat, k = (K : Int) := ⟨k.toNat, by omega⟩
      have hK : K ≤ cnt := by omega
      have hcnt : cnt ≤ 1000 := by omega
      clear hk1 hk2 hC53
      have HCK := Lib.hid (And.intro hK hcnt)
      have t3 : decide (cnt < K) = false := decide_eq_false (by omega)
      have t4 : ¬ cnt < K := by omega
      have t5 : ¬ (cnt : Int) < (K : Int) := by omega
      have cU := yupto_ok hI.y hI.nb hcnt hI.ok hI.rb K hK
      unfold TogP at cU
      clear B hI hK hcnt
      go_wp2_with (fail)
      with_reducible refine cU.mono ?_
      rintro e w5 ⟨bt, rfl, hbt, hST, hb⟩
      have hb0 := hb
      have KT := bx_new w5 [.int .i64 (totG g K).ca, .int .i64 (totG g K).tb, .int .i64 (totG g K).so, .int .i64 (totG g K).tx, .int .i64 (totG g K).sf, .slice (some ⟨bt, 0, none⟩) n n, .int .i64 (totG g K).net, .int .i64 (totG g K).tk, .int .i64 (totG g K).pay] 34
      have NT := below_new w5 (.cells #[.int .i64 (totG g K).ca, .int .i64 (totG g K).tb, .int .i64 (totG g K).so, .int .i64 (totG g K).tx, .int .i64 (totG g K).sf, .slice (some ⟨bt, 0, none⟩) n n, .int .i64 (totG g K).net, .int .i64 (totG g K).tk, .int .i64 (totG g K).pay] 34)
      have hI := (HI.out.below hb).below NT
      have B := below_step (below_step HB.out hb HB.out.size) NT (Nat.le_trans HB.out.size hb.size)
      have hST2 := hST.below NT
      have hqB : w.heap.size ≤ w5.heap.size := Nat.le_trans HB.out.size hb.size
      have hFlt : ∀ q, F q → q < w5.heap.size := fun q hq => (HI.out.below hb0).y.lt q hq
      have cC := ycount_any hI.y
      clear cU hb hb0 HI HB NT hST
      go_wp2_with (fail)
      with_reducible refine cC.mono ?_
      rintro e w6 ⟨rfl, rfl⟩
      go_wp2_with (fail)
      with_reducible refine cC.mono ?_
      rintro e w6 ⟨rfl, rfl⟩
      have cU := yupto_ok hI.y hI.nb HCK.out.2 hI.ok hI.rb cnt (Nat.le_refl _)
      unfold TogP at cU
      rw [hI.tg] at cU
      have hq11 : w5.heap.size < (w5.alloc (.cells #[.int .i64 (totG g K).ca, .int .i64 (totG g K).tb, .int .i64 (totG g K).so, .int .i64 (totG g K).tx, .int .i64 (totG g K).sf, .slice (some ⟨bt, 0, none⟩) n n, .int .i64 (totG g K).net, .int .i64 (totG g K).tk, .int .i64 (totG g K).pay] 34)).heap.size := KT.lt
      clear cC
      go_wp2_with (fail)
      generalize (w5.alloc (.cells #[.int .i64 (totG g K).ca, .int .i64 (totG g K).tb, .int .i64 (totG g K).so, .int .i64 (totG g K).tx, .int .i64 (totG g K).sf, .slice (some ⟨bt, 0, none⟩) n n, .int .i64 (totG g K).net, .int .i64 (totG g K).tk, .int .i64 (totG g K).pay] 34)) = w7 at *
      generalize w5.heap.size = qT at *
      with_reducible refine cU.mono ?_
      rintro e w8 ⟨ba, rfl, hba, hSA, hb⟩
      replace KT := KT.below hb
      replace hI := hI.below hb
      replace B := below_step B hb B.size
      replace hST2 := hST2.below hb
      have KA := bx_new w8 [.int .i64 t.ca, .int .i64 t.tb, .int .i64 t.so, .int .i64 t.tx, .int .i64 t.sf, .slice (some ⟨ba, 0, none⟩) n n, .int .i64 t.net, .int .i64 t.tk, .int .i64 t.pay] 34
      have NA := below_new w8 (.cells #[.int .i64 t.ca, .int .i64 t.tb, .int .i64 t.so, .int .i64 t.tx, .int .i64 t.sf, .slice (some ⟨ba, 0, none⟩) n n, .int .i64 t.net, .int .i64 t.tk, .int .i64 t.pay] 34)
      replace KT := KT.below NA
      replace hI := hI.below NA
      replace B := below_step B NA B.size
      replace hST2 := hST2.below NA
      have hSA0 := hSA
      replace hSA := hSA.below NA
      have hba2 : ba < w8.heap.size := World.rowIs.lt hSA0
      clear cU hb NA hSA0
      go_wp2
      generalize (w8.alloc (.cells #[.int .i64 t.ca, .int .i64 t.tb, .int .i64 t.so, .int .i64 t.tx, .int .i64 t.sf, .slice (some ⟨ba, 0, none⟩) n n, .int .i64 t.net, .int .i64 t.tk, .int .i64 t.pay] 34)) = w9 at *
      generalize w8.heap.size = qA at *
      have hn6 : n ≤ 1000000 := Nat.le_trans HNN.out (by decide)
      have D1 : Below w9.heap.size w9 w9.drew := (Below.refl _ _).drew
      have cT := ytotals_any (hI.y.below D1) HNN.out
      unfold YtP at cT
      have k_0 := KA.cell (i := 0) rfl
      have k_1 := KA.cell (i := 1) rfl
      have k_2 := KA.cell (i := 2) rfl
      have k_3 := KA.cell (i := 3) rfl
      have k_4 := KA.cell (i := 4) rfl
      have k_5 := KA.cell (i := 5) rfl
      have k_6 := KA.cell (i := 6) rfl
      have k_7 := KA.cell (i := 7) rfl
      have k_8 := KA.cell (i := 8) rfl
      go_cut [94] from 82 to 94 (fun s94 wx => s94 = .bool false ∧ Below w9.heap.size w9 wx)
      case first =>
        as_aux_lemma =>
          have S1 : w9.drew.cell? ⟨qA, 0, none⟩ = some (.int .i64 t.ca) ∧ w9.drew.cell? ⟨qA, 1, none⟩ = some (.int .i64 t.tb) ∧ w9.drew.cell? ⟨qA, 2, none⟩ = some (.int .i64 t.so) ∧ w9.drew.cell? ⟨qA, 3, none⟩ = some (.int .i64 t.tx) ∧ w9.drew.cell? ⟨qA, 4, none⟩ = some (.int .i64 t.sf) ∧ w9.drew.cell? ⟨qA, 5, none⟩ = some (.slice (some ⟨ba, 0, none⟩) n n) ∧ w9.drew.cell? ⟨qA, 6, none⟩ = some (.int .i64 t.net) ∧ w9.drew.cell? ⟨qA, 7, none⟩ = some (.int .i64 t.tk) ∧ w9.drew.cell? ⟨qA, 8, none⟩ = some (.int .i64 t.pay) ∧ Below w9.heap.size w9 w9.drew := ⟨k_0, k_1, k_2, k_3, k_4, k_5, k_6, k_7, k_8, D1⟩
          have mk : ∀ V : World, Below w9.heap.size w9 V → V.cell? ⟨qA, 0, none⟩ = some (.int .i64 t.ca) ∧ V.cell? ⟨qA, 1, none⟩ = some (.int .i64 t.tb) ∧ V.cell? ⟨qA, 2, none⟩ = some (.int .i64 t.so) ∧ V.cell? ⟨qA, 3, none⟩ = some (.int .i64 t.tx) ∧ V.cell? ⟨qA, 4, none⟩ = some (.int .i64 t.sf) ∧ V.cell? ⟨qA, 5, none⟩ = some (.slice (some ⟨ba, 0, none⟩) n n) ∧ V.cell? ⟨qA, 6, none⟩ = some (.int .i64 t.net) ∧ V.cell? ⟨qA, 7, none⟩ = some (.int .i64 t.tk) ∧ V.cell? ⟨qA, 8, none⟩ = some (.int .i64 t.pay) ∧ Below w9.heap.size w9 V := fun V hb => ⟨cell_later hb k_0, cell_later hb k_1, cell_later hb k_2, cell_later hb k_3, cell_later hb k_4, cell_later hb k_5, cell_later hb k_6, cell_later hb k_7, cell_later hb k_8, hb⟩
          go_region_held3 (fun X => X.cell? ⟨qA, 0, none⟩ = some (.int .i64 t.ca) ∧ X.cell? ⟨qA, 1, none⟩ = some (.int .i64 t.tb) ∧ X.cell? ⟨qA, 2, none⟩ = some (.int .i64 t.so) ∧ X.cell? ⟨qA, 3, none⟩ = some (.int .i64 t.tx) ∧ X.cell? ⟨qA, 4, none⟩ = some (.int .i64 t.sf) ∧ X.cell? ⟨qA, 5, none⟩ = some (.slice (some ⟨ba, 0, none⟩) n n) ∧ X.cell? ⟨qA, 6, none⟩ = some (.int .i64 t.net) ∧ X.cell? ⟨qA, 7, none⟩ = some (.int .i64 t.tk) ∧ X.cell? ⟨qA, 8, none⟩ = some (.int .i64 t.pay) ∧ Below w9.heap.size w9 X)
            ((first | exact S1 | exact SW2 | exact SW | assumption))
            (first
              | (go_at_call 17; (with_reducible refine cT.mono ?_); rintro e w10 ⟨A2, c2, rfl, hown, hb10⟩; have b10 := below_step D1 hb10 D1.size; have SW := mk w10 b10; have cS := ysame_any t (some ⟨ba, 0, none⟩) A2 n n c2 w10 (hSA.below b10).shs (shs_own hown) hn6; clear hown)
              | (go_at_call 13; (with_reducible refine cS.mono ?_); rintro e w11 ⟨rfl, hb11⟩; have SW2 := mk w11 (below_step b10 hb11 b10.size)))
          all_goals
            rename_i hH
            go_wp2_with fail
            go_meet
            case rel => exact ⟨rfl, hH.2.2.2.2.2.2.2.2.2⟩
      case rest =>
      obtain ⟨rfl, hbc⟩ := hcut
      clear k_0 k_1 k_2 k_3 k_4 k_5 k_6 k_7 k_8 cT D1
      replace KT := KT.below hbc
      replace KA := KA.below hbc
      replace hI := hI.below hbc
      replace B := below_step B hbc B.size
      replace hST2 := hST2.below hbc
      replace hSA := hSA.below hbc
      clear hbc
      have cL := yslips_any hI.y hI.szs HCK.out.2
      unfold YlP at cL
      go_upto_region 20 with fail
      go_cut [98, 99, 100] from 95 to 100 (fun s98 s99 s100 wx => ∃ (A' : Option Addr) (c' : Nat) (f : Nat → Slp), s98 = .slice A' (cnt - K) c' ∧ s99 = .int .i64 ((cnt - K : Nat) : Int) ∧ s100 = .int .i64 0 ∧ SlF wx qT A' (cnt - K) (fun j => f (K + j)) ∧ (∀ j, j < cnt → ∃ A c T d, f j = (g j).mv A c T d) ∧ Below wc.heap.size wc wx)
      case first =>
        as_aux_lemma =>
          go_wp2_with (fail)
          with_reducible refine cL.mono ?_
          rintro e w10 ⟨v, rfl, ⟨f, hown, hf⟩, hb⟩
          obtain ⟨Av, cv, rfl, hAv, hAv2⟩ := own_len hown
          have hcu := slf_cut KT.lt hown (fun j hj => (hf j hj).2) HCK.out.1
          have HC := Lib.hid hcu
          have HF := Lib.hid hf
          have hK1 : (K : Int) ≤ (cnt : Int) := Int.ofNat_le.2 HCK.out.1
          clear hcu hown hf hAv hAv2 KT KA hI B hST2 hSA
          by_cases hcv : cv = K
          · have HC2 := HC.out
            rw [if_pos hcv] at HC2
            have HC3 := Lib.hid HC2
            clear HC2 HC
            go_wp2_with fail
            go_meet
            case rel => exact ⟨_, _, f, rfl, rfl, rfl, HC3.out, fun j hj => (HF.out j hj).1, hb⟩
          · have HC2 := HC.out
            rw [if_neg hcv] at HC2
            have HC3 := Lib.hid HC2
            clear HC2 HC
            go_wp2_with fail
            go_meet
            case rel => exact ⟨_, _, f, rfl, rfl, rfl, HC3.out, fun j hj => (HF.out j hj).1, hb⟩
      case rest =>
      obtain ⟨A2, c2, f, rfl, rfl, rfl, hSl, hf, hb⟩ := hcut
      replace KT := KT.below hb
      replace KA := KA.below hb
      replace hI := hI.below hb
      replace B := below_step B hb B.size
      replace hST2 := hST2.below hb
      replace hSA := hSA.below hb
      clear hb cL
      have hqTA : qT ≠ qA := by
        have := KT.lt
        omega
      have hbaT : ba ≠ qT := by omega
      have hFT : ∀ q, F q → ¬ q = qT := fun q hq e => by
        subst e
        exact absurd (hFlt _ hq) (Nat.lt_irrefl _)
      have hqTlt := Lib.hid KT.lt
      have HB0 := Lib.hid hqB
      have HY := Lib.hid hI
      have HSA := Lib.hid hSA
      have HB := Lib.hid B
      have HFF := Lib.hid (And.intro hqTA (And.intro hbaT hFT))
      have HSL := Lib.hid hSl
      have HF := Lib.hid hf
      clear hI hSA B hqTA hbaT hFT hSl hf hba hba2 hFlt t1 t2 t3 t4 t5 hbt hq11 hqB
      have C0 : Chg (fun q => q = qT) wc wc := Chg.of (Below.refl _ _)
      go_wp2
      go_loopw [12, 100] (fun e12 jj W => ∃ j : Nat, j ≤ cnt - K ∧ jj = .int .i64 j ∧ e12 = .int .i64 0 ∧ (∃ A' c', Bx W qT 34 [.int .i64 (totG g (K + j)).ca, .int .i64 (totG g (K + j)).tb, .int .i64 (totG g (K + j)).so, .int .i64 (totG g (K + j)).tx, .int .i64 (totG g (K + j)).sf, .slice A' n c', .int .i64 (totG g (K + j)).net, .int .i64 (totG g (K + j)).tk, .int .i64 (totG g (K + j)).pay] ∧ Shs W A' n (totG g (K + j)).X (totG g (K + j)).Y) ∧ Bx W qA 34 [.int .i64 t.ca, .int .i64 t.tb, .int .i64 t.so, .int .i64 t.tx, .int .i64 t.sf, .slice (some ⟨ba, 0, none⟩) n n, .int .i64 t.net, .int .i64 t.tk, .int .i64 t.pay] ∧ Chg (fun q => q = qT) wc W) (fun _ jj _ => (cnt - K) - (intOf jj).toNat)
      case atStart => exact ⟨0, Nat.zero_le _, rfl, rfl, ⟨_, _, KT, hST2.shs⟩, KA, C0⟩
      case round =>
        clear KT KA hST2 C0
        obtain ⟨j, hj, rfl, rfl, ⟨A4, c4, KT, hSh⟩, KA, hC⟩ := hrel
        by_cases hlj : j < cnt - K
        · have hjl : (j : Int) < ((cnt - K : Nat) : Int) := by omega
          have hw1 : wrap64 ((j : Int) + 1) = (j : Int) + 1 := IntWalk.wrap64_in _ (by have := HCK.out.2; omega)
          have hKj : K + j < cnt := by omega
          obtain ⟨b, o, hA5, hcs⟩ := HSL.out.chg hC (by omega)
          obtain rfl := hA5
          obtain ⟨hAt, hM⟩ := hcs j hlj
          obtain ⟨x_0, x_1, x_2, x_3, x_4, x_5, x_6, x_7, x_8, x_9⟩ := hAt.all
          obtain ⟨Am, cm, Tm, dm, hmv⟩ := HF.out (K + j) hKj
          have hok := HY.out.ok (K + j) hKj
          have hrb := HY.out.rb (K + j) (by omega)
          have hrb1 := HY.out.rb (K + j + 1) (by omega)
          have hadd : (totG g (K + j)).add (f (K + j)) = totG g (K + j + 1) := by rw [hmv, add_mv]; rfl
          have hsok : (f (K + j)).OK n := by rw [hmv]; exact ok_mv hok.1 _ _ _ _
          have hsm : (f (K + j)).m ≤ 100000 := by rw [hmv]; exact hok.2
          clear hcs hAt hmv hok
          dsimp only at x_0 x_1 x_2 x_3 x_4 x_5 x_6 x_7 x_8 x_9 hM
          generalize f (K + j) = s at *
          have KS := bx_new wr [.int .i64 s.k, .int .i64 s.ca, .int .i64 s.tb, .int .i64 s.so, .int .i64 s.tx, .int .i64 s.sf, .slice s.A s.n s.c, .int .i64 s.net, .slice s.T s.m s.d, .int .i64 s.pay] 37
          have NS := below_new wr (.cells #[.int .i64 s.k, .int .i64 s.ca, .int .i64 s.tb, .int .i64 s.so, .int .i64 s.tx, .int .i64 s.sf, .slice s.A s.n s.c, .int .i64 s.net, .slice s.T s.m s.d, .int .i64 s.pay] 37)
          have cSum := lsum_any (totG g (K + j)) A4 c4 s n (wr.alloc (.cells #[.int .i64 s.k, .int .i64 s.ca, .int .i64 s.tb, .int .i64 s.so, .int .i64 s.tx, .int .i64 s.sf, .slice s.A s.n s.c, .int .i64 s.net, .slice s.T s.m s.d, .int .i64 s.pay] 37)) (hSh.below NS) (hM.below NS) hsok HNN.out hsm hrb
          unfold SumP at cSum
          rw [hadd] at cSum
          have hqTr := KT.lt
          replace KT := KT.below NS
          replace KA := KA.below NS
          replace hC := hC.post NS
          have k_0 := KT.cell (i := 0) rfl
          have k_1 := KT.cell (i := 1) rfl
          have k_2 := KT.cell (i := 2) rfl
          have k_3 := KT.cell (i := 3) rfl
          have k_4 := KT.cell (i := 4) rfl
          have k_5 := KT.cell (i := 5) rfl
          have k_6 := KT.cell (i := 6) rfl
          have k_7 := KT.cell (i := 7) rfl
          have k_8 := KT.cell (i := 8) rfl
          have s_0 := KS.cell (i := 0) rfl
          have s_1 := KS.cell (i := 1) rfl
          have s_2 := KS.cell (i := 2) rfl
          have s_3 := KS.cell (i := 3) rfl
          have s_4 := KS.cell (i := 4) rfl
          have s_5 := KS.cell (i := 5) rfl
          have s_6 := KS.cell (i := 6) rfl
          have s_7 := KS.cell (i := 7) rfl
          have s_8 := KS.cell (i := 8) rfl
          have s_9 := KS.cell (i := 9) rfl
          have HR1 := Lib.hid hrb1
          clear NS hSh hM hsok hsm hrb hrb1 hadd
          go_wp2_with (fail)
          generalize (wr.alloc (.cells #[.int .i64 s.k, .int .i64 s.ca, .int .i64 s.tb, .int .i64 s.so, .int .i64 s.tx, .int .i64 s.sf, .slice s.A s.n s.c, .int .i64 s.net, .slice s.T s.m s.d, .int .i64 s.pay] 37)) = w11 at *
          with_reducible refine cSum.mono ?_
          rintro e w12 ⟨hok1, _, hb⟩
          obtain ⟨A6, c6, rfl, hown⟩ := hok1 HR1.out
          have hqT11 : qT < w11.heap.size := KT.lt
          clear k_0 k_1 k_2 k_3 k_4 k_5 k_6 k_7 k_8
          clear s_0 s_1 s_2 s_3 s_4 s_5 s_6 s_7 s_8 s_9
          replace KT := KT.below hb
          replace KA := KA.below hb
          replace hC := hC.post hb
          have k_0 := KT.cell (i := 0) rfl
          have kf_0 := KT.fr 0
          have k_1 := KT.cell (i := 1) rfl
          have kf_1 := KT.fr 1
          have k_2 := KT.cell (i := 2) rfl
          have kf_2 := KT.fr 2
          have k_3 := KT.cell (i := 3) rfl
          have kf_3 := KT.fr 3
          have k_4 := KT.cell (i := 4) rfl
          have kf_4 := KT.fr 4
          have k_5 := KT.cell (i := 5) rfl
          have kf_5 := KT.fr 5
          have k_6 := KT.cell (i := 6) rfl
          have kf_6 := KT.fr 6
          have k_7 := KT.cell (i := 7) rfl
          have kf_7 := KT.fr 7
          have k_8 := KT.cell (i := 8) rfl
          have kf_8 := KT.fr 8
          have KT2 : Bx (stAll w12 qT 0 [.int .i64 (totG g (K + j + 1)).ca, .int .i64 (totG g (K + j + 1)).tb, .int .i64 (totG g (K + j + 1)).so, .int .i64 (totG g (K + j + 1)).tx, .int .i64 (totG g (K + j + 1)).sf, .slice A6 n c6, .int .i64 (totG g (K + j + 1)).net, .int .i64 (totG g (K + j + 1)).tk, .int .i64 (totG g (K + j + 1)).pay]) qT 34 [.int .i64 (totG g (K + j + 1)).ca, .int .i64 (totG g (K + j + 1)).tb, .int .i64 (totG g (K + j + 1)).so, .int .i64 (totG g (K + j + 1)).tx, .int .i64 (totG g (K + j + 1)).sf, .slice A6 n c6, .int .i64 (totG g (K + j + 1)).net, .int .i64 (totG g (K + j + 1)).tk, .int .i64 (totG g (K + j + 1)).pay] := stAll_self KT _ rfl
          have KA2 : Bx (stAll w12 qT 0 [.int .i64 (totG g (K + j + 1)).ca, .int .i64 (totG g (K + j + 1)).tb, .int .i64 (totG g (K + j + 1)).so, .int .i64 (totG g (K + j + 1)).tx, .int .i64 (totG g (K + j + 1)).sf, .slice A6 n c6, .int .i64 (totG g (K + j + 1)).net, .int .i64 (totG g (K + j + 1)).tk, .int .i64 (totG g (K + j + 1)).pay]) qA 34 [.int .i64 t.ca, .int .i64 t.tb, .int .i64 t.so, .int .i64 t.tx, .int .i64 t.sf, .slice (some ⟨ba, 0, none⟩) n n, .int .i64 t.net, .int .i64 t.tk, .int .i64 t.pay] := stAll_bx KA (Ne.symm HFF.out.1) _ 0
          have C2 := stAll_chg (F := fun q => q = qT) (p := qT) rfl [.int .i64 (totG g (K + j + 1)).ca, .int .i64 (totG g (K + j + 1)).tb, .int .i64 (totG g (K + j + 1)).so, .int .i64 (totG g (K + j + 1)).tx, .int .i64 (totG g (K + j + 1)).sf, .slice A6 n c6, .int .i64 (totG g (K + j + 1)).net, .int .i64 (totG g (K + j + 1)).tk, .int .i64 (totG g (K + j + 1)).pay] w12 0 hC
          have S2 := Shs.all0 hown hqT11 [.int .i64 (totG g (K + j + 1)).ca, .int .i64 (totG g (K + j + 1)).tb, .int .i64 (totG g (K + j + 1)).so, .int .i64 (totG g (K + j + 1)).tx, .int .i64 (totG g (K + j + 1)).sf, .slice A6 n c6, .int .i64 (totG g (K + j + 1)).net, .int .i64 (totG g (K + j + 1)).tk, .int .i64 (totG g (K + j + 1)).pay]
          clear cSum hok1 hb hown KT KA hC KS
          go_wp2
          refine ⟨⟨j + 1, by omega, by go_num, rfl, ⟨A6, c6, KT2, S2⟩, KA2, C2⟩, ?_⟩
          first | exact meas_step hlj | (rw [hw1]; exact meas_step hlj)
        · obtain rfl : j = cnt - K := by omega
          have hnl2 : ¬ ((cnt - K : Nat) : Int) < ((cnt - K : Nat) : Int) := by omega
          rw [show K + (cnt - K) = cnt by have := HCK.out.1; omega, HY.out.tg] at KT hSh
          have hIw := HY.out.chg hC HFF.out.2.2
          have eba := hC.block ba (World.rowIs.lt HSA.out) HFF.out.2.1
          have hSA2 : ShB wr ba n t.X t.Y := World.rowIs.of_block HSA.out eba
          have hrows := hSA2.shs
          have hshB : t.shB n = true := by have := HY.out.t; unfold Tot.rB at this; rw [Bool.and_eq_true] at this; exact this.2
          have hamB : t.amB = true := by have := HY.out.t; unfold Tot.rB at this; rw [Bool.and_eq_true] at this; exact this.1
          have hBw : Below w.heap.size w wr := hC.below HB.out HB.out.size (fun q hq => by rw [hq]; exact HB0.out)
          have hbal := tot_bal (g := g) (n := n) cnt fun i hi => (HY.out.ok i hi).1
          rw [HY.out.tg] at hbal
          have HBAL := Lib.hid hbal
          have HSHB := Lib.hid hshB
          have HAMB := Lib.hid hamB
          have HIW := Lib.hid hIw
          have HSH := Lib.hid hSh
          have HRW := Lib.hid hrows
          have HBW := Lib.hid hBw
          have HKT := Lib.hid KT
          have HKA := Lib.hid KA
          have y5 := KA.cell (i := 5) rfl
          clear hbal hshB hamB hIw hSh hrows hBw hSA2 eba hC hj hlj KT KA
          go_wp2
          clear y5
          have Bw := Below.refl wr.heap.size wr
          go_loopw [17, 116] (fun sd jj W => ∃ j : Nat, j ≤ n ∧ jj = .int .i64 j ∧ sd = .int .i64 (tsm t.X j) ∧ Below wr.heap.size wr W) (fun _ jj _ => n - (intOf jj).toNat)
          case atStart => exact ⟨0, Nat.zero_le _, rfl, rfl, Bw⟩
          case round =>
            clear Bw
            obtain ⟨j, hj, rfl, rfl, hbX⟩ := hrel
            by_cases hlj : j < n
            · have hjl : (j : Int) < (n : Int) := by omega
              have hw1 : wrap64 ((j : Int) + 1) = (j : Int) + 1 := IntWalk.wrap64_in _ (by have := HNN.out; omega)
              obtain ⟨bb, ob, hA7, hcs⟩ := HRW.out (by omega)
              obtain ⟨rfl, rfl⟩ : ba = bb ∧ 0 = ob := by simpa using hA7
              obtain ⟨c0, c1⟩ := hcs j hlj
              rw [Nat.zero_add] at c0 c1
              replace c0 := cell_later hbX c0
              replace c1 := cell_later hbX c1
              have hsum : wrap64 (tsm t.X j + t.X j) = tsm t.X (j + 1) := tsm_wrap (fun i hi => (shB_at HSHB.out hi).1) hlj HNN.out
              have KX := bx_new wr [.int .i64 (t.X j), .int .i64 (t.Y j)] 53
              have B2 := below_step hbX (below_new wr (.cells #[.int .i64 (t.X j), .int .i64 (t.Y j)] 53)) hbX.size
              have k_0 := KX.cell (i := 0) rfl
              have k_1 := KX.cell (i := 1) rfl
              clear hcs KX hbX hA7
              go_wp2
              refine ⟨⟨j + 1, by omega, by go_num, by rw [hsum], B2⟩, ?_⟩
              first | exact meas_step hlj | (rw [hw1]; exact meas_step hlj)
            · obtain rfl : n = j := by omega
              have hnl3 : ¬ (n : Int) < (n : Int) := by omega
              have hI2 := HIW.out.below hbX
              have KA := HKA.out.below hbX
              have KT := HKT.out.below hbX
              have cC := ycount_any hI2.y
              have B3 := below_step HBW.out hbX HBW.out.size
              have S1 := HSH.out.below hbX
              have S2 := HRW.out.below hbX
              have hn6 : n ≤ 1000000 := Nat.le_trans HNN.out (by decide)
              clear hI2 hbX hj hlj
              by_cases hKc : K < cnt
              · have u1 : decide (K < cnt) = true := decide_eq_true hKc
                have u2 : decide ((K : Int) < (cnt : Int)) = true := decide_eq_true (by omega)
                clear hKc
                go_wp2_with (fail)
                with_reducible refine cC.mono ?_
                rintro e w13 ⟨rfl, rfl⟩
                have cS := ysame_any t A4 (some ⟨ba, 0, none⟩) n c4 n wr S1 S2 hn6
                have k_0 := KA.cell (i := 0) rfl
                have k_1 := KA.cell (i := 1) rfl
                have k_2 := KA.cell (i := 2) rfl
                have k_3 := KA.cell (i := 3) rfl
                have k_4 := KA.cell (i := 4) rfl
                have k_5 := KA.cell (i := 5) rfl
                have k_6 := KA.cell (i := 6) rfl
                have k_7 := KA.cell (i := 7) rfl
                have k_8 := KA.cell (i := 8) rfl
                have s_0 := KT.cell (i := 0) rfl
                have s_1 := KT.cell (i := 1) rfl
                have s_2 := KT.cell (i := 2) rfl
                have s_3 := KT.cell (i := 3) rfl
                have s_4 := KT.cell (i := 4) rfl
                have s_5 := KT.cell (i := 5) rfl
                have s_6 := KT.cell (i := 6) rfl
                have s_7 := KT.cell (i := 7) rfl
                have s_8 := KT.cell (i := 8) rfl
                go_wp2_with (fail)
                with_reducible refine cS.mono ?_
                rintro e w14 ⟨rfl, hb⟩
                clear k_0 k_1 k_2 k_3 k_4 k_5 k_6 k_7 k_8
                clear s_0 s_1 s_2 s_3 s_4 s_5 s_6 s_7 s_8
                replace KA := KA.below hb
                have B4 := below_step B3 hb B3.size
                clear cC cS hb B3 S1 S2 KT u1 u2
                obtain ⟨r1, r2, r3, r4⟩ := fin_sums HAMB.out HSHB.out HNN.out HBAL.out
                have k_0 := KA.cell (i := 0) rfl
                have k_1 := KA.cell (i := 1) rfl
                have k_2 := KA.cell (i := 2) rfl
                have k_3 := KA.cell (i := 3) rfl
                have k_4 := KA.cell (i := 4) rfl
                have k_5 := KA.cell (i := 5) rfl
                have k_6 := KA.cell (i := 6) rfl
                have k_7 := KA.cell (i := 7) rfl
                have k_8 := KA.cell (i := 8) rfl
                clear KA
                go_wp2
                go_ret
                exact ⟨ret_b (by simp), B4⟩
              · have u1 : decide (K < cnt) = false := decide_eq_false hKc
                have u2 : decide ((K : Int) < (cnt : Int)) = false := decide_eq_false (by omega)
                have u3 : ¬ (K : Int) < (cnt : Int) := by omega
                go_wp2_with (fail)
                with_reducible refine cC.mono ?_
                rintro e w14 ⟨rfl, rfl⟩
                have B4 := B3
                clear cC B3 S1 S2 KT hKc
                obtain ⟨r1, r2, r3, r4⟩ := fin_sums HAMB.out HSHB.out HNN.out HBAL.out
                have k_0 := KA.cell (i := 0) rfl
                have k_1 := KA.cell (i := 1) rfl
                have k_2 := KA.cell (i := 2) rfl
                have k_3 := KA.cell (i := 3) rfl
                have k_4 := KA.cell (i := 4) rfl
                have k_5 := KA.cell (i := 5) rfl
                have k_6 := KA.cell (i := 6) rfl
                have k_7 := KA.cell (i := 7) rfl
                have k_8 := KA.cell (i := 8) rfl
                clear KA
                go_wp2
                go_ret
                exact ⟨ret_b (by simp), B4⟩
theorem yearUpto_any (n : Int) (A : Option Addr) (N c : Nat) (k : Int) (g0 : Nat → Slp) (w : World) (hS : Sls w A N g0) (hN : N ≤ 9223372036854775807) :
    Calls Try.prog 4 #[.int .i64 n, .slice A N c, .int .i64 k] w fun e w' => e = .returned (.bool true) ∧ Below w.heap.size w w' := by
  cases hq : (smB g0 N && decide (N ≤ 60))
  · exact yu_small n A N c k g0 w hS hN hq
  · by_cases hn : n < 0 ∨ 30 < n
    · exact yu_out n A N c k g0 w hS hN hq hn
    · obtain ⟨m, rfl⟩ : ∃ m : Nat, n = (m : Int) := ⟨n.toNat, by omega⟩
      exact yu_main m A N c k g0 w hS hN hq (by omega)
end Go.Proofs.Ytfnjhalpedccaaa
