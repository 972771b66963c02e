/- The walk of the law WholeOrders. -/
import Derived.Test.YtgdalejccbhjcaaBkH
import Derived.Test.YtgdalejccbhjcaaAttB
namespace Go.Proofs.Ytgdalejccbhjcaa
open Go.RowKit Go.Sort Go.Maps
set_option linter.unusedVariables false
set_option linter.unusedSimpArgs false

/-- an own row of orders, by its cells -/
theorem own7_at {w : World} {B n c : Nat} {A : Option Addr} {f : Nat → Sta} (h : w.ownsRow B 31 7 (.slice A n c) n (stc7 f n)) {j : Nat} (hj : j < n) : ∃ g, A = some ⟨g, 0, none⟩ ∧ SAt w g (j * 7) (f j) := by
  obtain ⟨b, o, e, hc⟩ := (ors_own h) (by omega)
  obtain ⟨A', c', e', hA, hg⟩ := own_len h
  obtain ⟨rfl, _, rfl⟩ := Value.slice.inj e'
  obtain ⟨g, rfl⟩ := hg (by omega)
  obtain ⟨rfl, rfl⟩ : g = b ∧ 0 = o := by simpa using e
  have := hc j hj
  rw [Nat.zero_add] at this
  exact ⟨g, rfl, this⟩
theorem own6_at {w : World} {B n c : Nat} {A : Option Addr} {f : Nat → Tkn} (h : w.ownsRow B 43 6 (.slice A n c) n (tkc f n)) {j : Nat} (hj : j < n) : ∃ g, A = some ⟨g, 0, none⟩ ∧ TAt w g (j * 6) (f j) := by
  obtain ⟨b, o, e, hc⟩ := (tks_own h) (by omega)
  obtain ⟨A', c', e', hA, hg⟩ := own_len h
  obtain ⟨rfl, _, rfl⟩ := Value.slice.inj e'
  obtain ⟨g, rfl⟩ := hg (by omega)
  obtain ⟨rfl, rfl⟩ : g = b ∧ 0 = o := by simpa using e
  have := hc j hj
  rw [Nat.zero_add] at this
  exact ⟨g, rfl, this⟩
theorem Bk.grown {W W' : World} {p n b c : Nat} {f : Nat → Sta} {M : Int → Int} (h : Bk W p n f) (hz : MapZ W b c M) (hg : W.grownBy W' (some b)) : Bk W' p n f := by
  obtain ⟨A, k, K, hO, h3⟩ := h
  refine ⟨A, k, K.of_block (hg.block p K.lt (fun e => hz.far (K.cell (i := 0) rfl) (by simpa using e))), fun h0 => ?_, h3⟩
  obtain ⟨g, o, e, hc⟩ := hO h0
  refine ⟨g, o, e, fun i hi => ?_⟩
  obtain ⟨h0, h1, h2, h3, h4, h5, h6⟩ := hc i hi
  have hq := hz.far h0
  exact ⟨cell_grown hg hq h0, cell_grown hg hq h1, cell_grown hg hq h2, cell_grown hg hq h3, cell_grown hg hq h4, cell_grown hg hq h5, cell_grown hg hq h6⟩
theorem Tks.grown {W W' : World} {n b c : Nat} {A : Option Addr} {f : Nat → Tkn} {M : Int → Int} (h : Tks W A n f) (hz : MapZ W b c M) (hg : W.grownBy W' (some b)) : Tks W' A n f := fun h0 => by
  obtain ⟨g, o, e, hc⟩ := h h0
  refine ⟨g, o, e, fun i hi => ?_⟩
  obtain ⟨h0, h1, h2, h3, h4, h5⟩ := hc i hi
  have hq := hz.far h0
  exact ⟨cell_grown hg hq h0, cell_grown hg hq h1, cell_grown hg hq h2, cell_grown hg hq h3, cell_grown hg hq h4, cell_grown hg hq h5⟩
def mpF (M : Int → Int) (f : Nat → Sta) (net : Int) : Nat → Int → Int
  | 0 => M
  | k + 1 => fun z => if z = (f k).id then mpF M f net k (f k).id + (f k).ordX net else mpF M f net k z
theorem mpF_at {M : Int → Int} {f : Nat → Sta} {net : Int} {n : Nat} (h : ∀ i k, i < n → k < n → (f i).id = (f k).id → i = k) : ∀ k, k ≤ n → ∀ j, j < n → mpF M f net k (f j).id = if j < k then M (f j).id + (f j).ordX net else M (f j).id := by
  intro k
  induction k with
  | zero => intro _ j _; rfl
  | succ k ih =>
    intro hk j hj
    show (if (f j).id = (f k).id then mpF M f net k (f k).id + (f k).ordX net else mpF M f net k (f j).id) = _
    by_cases hjk : (f j).id = (f k).id
    · obtain rfl : j = k := h j k hj (by omega) hjk
      rw [if_pos rfl, ih (by omega) j hj, if_neg (by omega), if_pos (by omega)]
    · rw [if_neg hjk, ih (by omega) j hj]
      have : j ≠ k := fun e => hjk (by rw [e])
      by_cases h2 : j < k
      · rw [if_pos h2, if_pos (by omega)]
      · rw [if_neg h2, if_neg (by omega)]
def sgC : Sta := ⟨1, 0, 3, 0, 0, 0, 0⟩
theorem sgC_okk : sgC.OK := ⟨by decide +kernel, by decide +kernel, by decide +kernel⟩
theorem sgC_ok : ∀ i, i < 1 → ((fun _ => sgC) i : Sta).OK := fun i _ => sgC_okk
set_option maxRecDepth 100000 in
set_option maxHeartbeats 4000000 in
theorem wor_out (A : Option Addr) (N c : Nat) (A2 : Option Addr) (m c2 : Nat) (prot : Int) (w : World) (h : 12 < N ∨ (¬ 12 < N ∧ 40 < m) ∨ (¬ 12 < N ∧ ¬ 40 < m ∧ prot < 0) ∨ (¬ 12 < N ∧ ¬ 40 < m ∧ 0 ≤ prot ∧ 100000000000 < prot)) :
    Calls Try.prog 3 #[.slice A N c, .slice A2 m c2, .int .i64 prot] w fun e w' => e = .returned (.bool true) ∧ Below w.heap.size w w' := by
  rcases h with h | ⟨h1, h⟩ | ⟨h1, h2, h⟩ | ⟨h1, h2, h3, h⟩
  · have q0 : decide (12 < (N : Int)) = true := decide_eq_true (by omega)
    have K0 := bx_new w [.int .i64 1, .int .i64 0, .int .i64 3, .int .i64 0, .int .i64 0, .int .i64 0, .int .i64 0] 31
    have HO0 : Ors _ (some ⟨w.heap.size, 0, none⟩) 1 (fun _ => sgC) := ors_of K0 (fun i hi j hj => by
      obtain rfl : i = 0 := by omega
      rcases (show j = 0 ∨ j = 1 ∨ j = 2 ∨ j = 3 ∨ j = 4 ∨ j = 5 ∨ j = 6 by omega) with rfl | rfl | rfl | rfl | rfl | rfl | rfl <;> rfl)
    have B0 := below_new w (.cells #[.int .i64 1, .int .i64 0, .int .i64 3, .int .i64 0, .int .i64 0, .int .i64 0, .int .i64 0] 31)
    have cS0 := serve_any 5 0 (some ⟨w.heap.size, 0, none⟩) 1 1 (fun _ => sgC) _ HO0 sgC_ok (by decide +kernel) (by decide) (by decide)
    clear K0 HO0
    go_enter Try.func3, Try.ntmps3
    go_wp2_with (fail)
    with_reducible refine cS0.mono ?_
    rintro e w1 ⟨hyes, _, NB⟩
    obtain ⟨v0, rfl, HO0⟩ := hyes (by decide +kernel)
    obtain ⟨A0, c0, rfl, _, _⟩ := own_len HO0
    rw [show (5 : Int) - (max (5 - 0) 0 - rmX (fun _ => sgC) 5 (max (5 - 0) 0) 1) = 2 by decide +kernel]
    have B1 := below_step B0 NB B0.size
    clear cS0 hyes HO0 NB B0
    go_wp2
    go_ret
    exact ⟨rfl, B1⟩
  · have q0 : decide (12 < (N : Int)) = false := decide_eq_false (by omega)
    have q1 : decide (40 < (m : Int)) = true := decide_eq_true (by omega)
    have K0 := bx_new w [.int .i64 1, .int .i64 0, .int .i64 3, .int .i64 0, .int .i64 0, .int .i64 0, .int .i64 0] 31
    have HO0 : Ors _ (some ⟨w.heap.size, 0, none⟩) 1 (fun _ => sgC) := ors_of K0 (fun i hi j hj => by
      obtain rfl : i = 0 := by omega
      rcases (show j = 0 ∨ j = 1 ∨ j = 2 ∨ j = 3 ∨ j = 4 ∨ j = 5 ∨ j = 6 by omega) with rfl | rfl | rfl | rfl | rfl | rfl | rfl <;> rfl)
    have B0 := below_new w (.cells #[.int .i64 1, .int .i64 0, .int .i64 3, .int .i64 0, .int .i64 0, .int .i64 0, .int .i64 0] 31)
    have cS0 := serve_any 5 0 (some ⟨w.heap.size, 0, none⟩) 1 1 (fun _ => sgC) _ HO0 sgC_ok (by decide +kernel) (by decide) (by decide)
    clear K0 HO0
    go_enter Try.func3, Try.ntmps3
    go_wp2_with (fail)
    with_reducible refine cS0.mono ?_
    rintro e w1 ⟨hyes, _, NB⟩
    obtain ⟨v0, rfl, HO0⟩ := hyes (by decide +kernel)
    obtain ⟨A0, c0, rfl, _, _⟩ := own_len HO0
    rw [show (5 : Int) - (max (5 - 0) 0 - rmX (fun _ => sgC) 5 (max (5 - 0) 0) 1) = 2 by decide +kernel]
    have B1 := below_step B0 NB B0.size
    clear cS0 hyes HO0 NB B0
    go_wp2
    go_ret
    exact ⟨rfl, B1⟩
  · have q0 : decide (12 < (N : Int)) = false := decide_eq_false (by omega)
    have q1 : decide (40 < (m : Int)) = false := decide_eq_false (by omega)
    have K0 := bx_new w [.int .i64 1, .int .i64 0, .int .i64 3, .int .i64 0, .int .i64 0, .int .i64 0, .int .i64 0] 31
    have HO0 : Ors _ (some ⟨w.heap.size, 0, none⟩) 1 (fun _ => sgC) := ors_of K0 (fun i hi j hj => by
      obtain rfl : i = 0 := by omega
      rcases (show j = 0 ∨ j = 1 ∨ j = 2 ∨ j = 3 ∨ j = 4 ∨ j = 5 ∨ j = 6 by omega) with rfl | rfl | rfl | rfl | rfl | rfl | rfl <;> rfl)
    have B0 := below_new w (.cells #[.int .i64 1, .int .i64 0, .int .i64 3, .int .i64 0, .int .i64 0, .int .i64 0, .int .i64 0] 31)
    have cS0 := serve_any 5 0 (some ⟨w.heap.size, 0, none⟩) 1 1 (fun _ => sgC) _ HO0 sgC_ok (by decide +kernel) (by decide) (by decide)
    clear K0 HO0
    go_enter Try.func3, Try.ntmps3
    go_wp2_with (fail)
    with_reducible refine cS0.mono ?_
    rintro e w1 ⟨hyes, _, NB⟩
    obtain ⟨v0, rfl, HO0⟩ := hyes (by decide +kernel)
    obtain ⟨A0, c0, rfl, _, _⟩ := own_len HO0
    rw [show (5 : Int) - (max (5 - 0) 0 - rmX (fun _ => sgC) 5 (max (5 - 0) 0) 1) = 2 by decide +kernel]
    have B1 := below_step B0 NB B0.size
    clear cS0 hyes HO0 NB B0
    go_wp2
    go_ret
    exact ⟨rfl, B1⟩
  · have q0 : decide (12 < (N : Int)) = false := decide_eq_false (by omega)
    have q1 : decide (40 < (m : Int)) = false := decide_eq_false (by omega)
    have K0 := bx_new w [.int .i64 1, .int .i64 0, .int .i64 3, .int .i64 0, .int .i64 0, .int .i64 0, .int .i64 0] 31
    have HO0 : Ors _ (some ⟨w.heap.size, 0, none⟩) 1 (fun _ => sgC) := ors_of K0 (fun i hi j hj => by
      obtain rfl : i = 0 := by omega
      rcases (show j = 0 ∨ j = 1 ∨ j = 2 ∨ j = 3 ∨ j = 4 ∨ j = 5 ∨ j = 6 by omega) with rfl | rfl | rfl | rfl | rfl | rfl | rfl <;> rfl)
    have B0 := below_new w (.cells #[.int .i64 1, .int .i64 0, .int .i64 3, .int .i64 0, .int .i64 0, .int .i64 0, .int .i64 0] 31)
    have cS0 := serve_any 5 0 (some ⟨w.heap.size, 0, none⟩) 1 1 (fun _ => sgC) _ HO0 sgC_ok (by decide +kernel) (by decide) (by decide)
    clear K0 HO0
    go_enter Try.func3, Try.ntmps3
    go_wp2_with (fail)
    with_reducible refine cS0.mono ?_
    rintro e w1 ⟨hyes, _, NB⟩
    obtain ⟨v0, rfl, HO0⟩ := hyes (by decide +kernel)
    obtain ⟨A0, c0, rfl, _, _⟩ := own_len HO0
    rw [show (5 : Int) - (max (5 - 0) 0 - rmX (fun _ => sgC) 5 (max (5 - 0) 0) 1) = 2 by decide +kernel]
    have B1 := below_step B0 NB B0.size
    clear cS0 hyes HO0 NB B0
    go_wp2
    go_ret
    exact ⟨rfl, B1⟩
set_option maxRecDepth 100000 in
set_option maxHeartbeats 16000000 in
theorem wor_any (A : Option Addr) (N c : Nat) (g : Nat → Sta) (A2 : Option Addr) (m c2 : Nat) (pay : Nat → Int) (prot : Int) (w : World) (hA : Ods w A N g) (hP : rowAt w A2 m fun i => .int .i64 (pay i)) (hN : ¬ 12 < N) (hm : ¬ 40 < m) (hp0 : 0 ≤ prot) (hp1 : prot ≤ 100000000000) :
    Calls Try.prog 3 #[.slice A N c, .slice A2 m c2, .int .i64 prot] w fun e w' => e = .returned (.bool true) ∧ Below w.heap.size w w' := by
  have q0 : decide (12 < (N : Int)) = false := decide_eq_false (by omega)
  have q1 : decide (40 < (m : Int)) = false := decide_eq_false (by omega)
  have K0 := bx_new w [.int .i64 1, .int .i64 0, .int .i64 3, .int .i64 0, .int .i64 0, .int .i64 0, .int .i64 0] 31
  have HO0 : Ors _ (some ⟨w.heap.size, 0, none⟩) 1 (fun _ => sgC) := ors_of K0 (fun i hi j hj => by
    obtain rfl : i = 0 := by omega
    rcases (show j = 0 ∨ j = 1 ∨ j = 2 ∨ j = 3 ∨ j = 4 ∨ j = 5 ∨ j = 6 by omega) with rfl | rfl | rfl | rfl | rfl | rfl | rfl <;> rfl)
  have B0 := below_new w (.cells #[.int .i64 1, .int .i64 0, .int .i64 3, .int .i64 0, .int .i64 0, .int .i64 0, .int .i64 0] 31)
  have cS0 := serve_any 5 0 (some ⟨w.heap.size, 0, none⟩) 1 1 (fun _ => sgC) _ HO0 sgC_ok (by decide +kernel) (by decide) (by decide)
  clear K0 HO0
  go_enter Try.func3, Try.ntmps3
  go_wp2_with (fail)
  with_reducible refine cS0.mono ?_
  rintro e w1 ⟨hyes, _, NB⟩
  obtain ⟨v0, rfl, HO0⟩ := hyes (by decide +kernel)
  obtain ⟨A0, c0, rfl, _, _⟩ := own_len HO0
  rw [show (5 : Int) - (max (5 - 0) 0 - rmX (fun _ => sgC) 5 (max (5 - 0) 0) 1) = 2 by decide +kernel]
  have B1 := below_step B0 NB B0.size
  clear cS0 hyes HO0 NB B0
  have NB := below_new w1 (.cells #[.slice none 0 0] 34)
  have K := bx_new w1 [.slice none 0 0] 34
  have B2 := below_step B1 NB B1.size
  have hbk : Bk (w1.alloc (.cells #[.slice none 0 0] 34)) w1.heap.size 0 g := ⟨none, 0, K, fun h0 => absurd h0 (Nat.lt_irrefl 0), fun _ => rfl, fun _ _ e => (nomatch e)⟩
  have hinv : InvB g 0 := ⟨fun i hi => absurd hi (Nat.not_lt_zero i), fun i _ hi => absurd hi (Nat.not_lt_zero i)⟩
  have hzer : ZerB g 0 := fun i hi => absurd hi (Nat.not_lt_zero i)
  have hwp : w.heap.size ≤ w1.heap.size := B1.size
  have hmm := @run_makeMap Try.prog
  clear NB K B1
  go_wp2
  generalize w1.alloc (.cells #[.slice none 0 0] 34) = w2 at *
  generalize w1.heap.size = p at *
  go_loopw [62] (fun k W => ∃ (i n : Nat) (f : Nat → Sta), i ≤ N ∧ k = .int .i64 i ∧ n ≤ 8 ∧ InvB f n ∧ ZerB f n ∧ Bk W p n f ∧ Below w.heap.size w W) (fun k _ => N - (intOf k).toNat)
  case atStart => exact ⟨0, 0, g, Nat.zero_le _, rfl, by omega, hinv, hzer, hbk, B2⟩
  case round =>
    clear hinv hzer hbk B2
    obtain ⟨i, n, f, hi, rfl, hn, hinv, hzer, hbk, hB⟩ := hrel
    by_cases hlt : i < N
    · obtain ⟨b, o, rfl, hc⟩ := id (hA (by omega))
      obtain ⟨c0', c1', c2', c3', c4'⟩ := (hc i hlt).below hB
      have hil : (i : Int) < (N : Int) := by omega
      have cA := fun W hb => add_zer p n f (g i).id (g i).pr (g i).am (g i).rt (g i).tot W hb hn hinv hzer
      clear hc hA
      generalize (g i).id = x0 at *
      generalize (g i).pr = x1 at *
      generalize (g i).am = x2 at *
      generalize (g i).rt = x3 at *
      generalize (g i).tot = x4 at *
      have K := bx_new wr [.int .i64 x0, .int .i64 x1, .int .i64 x2, .int .i64 x3, .int .i64 x4] 29
      have NB := below_new wr (.cells #[.int .i64 x0, .int .i64 x1, .int .i64 x2, .int .i64 x3, .int .i64 x4] 29)
      have B4 := below_step hB NB hB.size
      have hb4 := hbk.below NB
      have k0 := K.cell (i := 0) rfl
      have k1 := K.cell (i := 1) rfl
      have k2 := K.cell (i := 2) rfl
      have k3 := K.cell (i := 3) rfl
      have k4 := K.cell (i := 4) rfl
      have hz := B4.size
      clear NB K hB hbk hinv hn hzer
      go_wp2_with (fail)
      with_reducible refine (cA _ hb4).mono ?_
      rintro e w5 ⟨v, n', f', rfl, hn', hinv', hzer', hbk', hr⟩
      have B5 := hr.below B4 hz hwp
      clear cA hb4 k0 k1 k2 k3 k4 c0' c1' c2' c3' c4' hr B4
      go_wp2
      refine ⟨⟨i + 1, n', f', by omega, by go_num, hn', hinv', hzer', hbk', B5⟩, ?_⟩
      simp [intOf]; omega
    · obtain rfl : N = i := by omega
      have hnl : ¬ (N : Int) < (N : Int) := by omega
      have NBm := below_new wr (.map #[] 0)
      have hzm := mapZ_new wr
      have hbm := hbk.below NBm
      have Bm := below_step hB NBm hB.size
      have hpm : p ≠ wr.heap.size := by have := hbk.lt; omega
      have hwm : w.heap.size ≤ wr.heap.size := hB.size
      have hM0 : ∀ j, j < n → (fun _ : Int => (0 : Int)) (f j).id = (f j).tk + (f j).ar := fun j hj => by have := hzer j hj; simp only; omega
      clear hA NBm hbk hB hzer
      go_wp2
      generalize wr.alloc (.map #[] 0) = wm at *
      generalize wr.heap.size = mb at *
      go_loopw [72] (fun k W => ∃ (i n cm : Nat) (f : Nat → Sta) (M : Int → Int), i ≤ m ∧ k = .int .i64 i ∧ n ≤ 8 ∧ cm ≤ i * 8 ∧ InvB f n ∧ (∀ j, j < n → M (f j).id = (f j).tk + (f j).ar) ∧ Bk W p n f ∧ MapZ W mb cm M ∧ Below w.heap.size w W) (fun k _ => m - (intOf k).toNat)
      case atStart => exact ⟨0, n, 0, f, _, Nat.zero_le _, rfl, hn, by omega, hinv, hM0, hbm, hzm, Bm⟩
      case round =>
        clear hinv hbm hzm Bm hn hM0
        clear f n
        obtain ⟨i, n, cm, f, M, hi, rfl, hn, hcm, hinv, hM, hbk, hmz, hB⟩ := hrel
        by_cases hlt : i < m
        · obtain ⟨b, o, rfl, hc⟩ := id (hP (by omega))
          have c0 : wr.cell? ⟨b, o + i, none⟩ = some (.int .i64 (pay i)) := cell_later hB (hc i hlt)
          have hil : (i : Int) < (m : Int) := by omega
          clear hc hP
          generalize pay i = net at *
          by_cases b1 : 1000000000 < net
          · go_wp2
            go_ret
            exact ⟨rfl, hB⟩
          by_cases b2 : net < -1000000000
          · have b3 : ¬ 1000000000 < net := b1
            go_wp2
            go_ret
            exact ⟨rfl, hB⟩
          have ha : (amtB net && amtB prot) = true := by rw [amtB_mk (x := net) (by omega) (by omega), amtB_mk (x := prot) (by omega) (by omega)]; rfl
          have HINV := Lib.hid hinv
          have HM := Lib.hid hM
          have hpw := hbk.lt
          have hwr := hB.size
          cases hs : svB f net n
          · have cB := abook_bad net prot p n f wr hbk (by omega) 10 (by omega) (fun A c W hO => (serve_any net prot A n c f W hO hinv.ok ha hp0 (by omega)).mono (by
              rintro e w' ⟨_, hno, hb⟩
              exact ⟨hno hs, hb⟩))
            clear hbk hinv hM ha hs
            go_wp2_with (fail)
            with_reducible refine cB.mono ?_
            rintro e wc ⟨rfl, NB⟩
            have Bc := below_step hB NB hB.size
            go_wp2
            go_ret
            exact ⟨rfl, Bc⟩
          · have cB := abook_any net prot p n f wr hbk (by omega) hinv.ok ha hp0 hs
            have hr0 : 0 ≤ max (net - prot) 0 ∧ max (net - prot) 0 ≤ 100000000000 := by omega
            have hr1 : max (net - prot) 0 = 0 ∨ max (net - prot) 0 = net - prot := by omega
            have hten := twE_ten (t := svT f net (max (net - prot) 0)) hinv.2 (fun i _ => rfl)
            have HS := Lib.hid hs
            unfold BoP at cB
            have hbk0 := hbk
            clear hbk hinv hM ha hs
            have hrel0 : 0 ≤ net - prot → max (net - prot) 0 = net - prot := by omega
            have hrel1 : net - prot < 0 → max (net - prot) 0 = 0 := by omega
            generalize max (net - prot) 0 = r0 at *
            go_wp2_with (fail)
            rcases hten with her | her
            · with_reducible refine cB.mono ?_
              rintro e wc ⟨hgood, _, hr⟩
              obtain ⟨vc, rfl, hownc, hbc⟩ := hgood her
              obtain ⟨Ac, cc, rfl, _, _⟩ := own_len hownc
              have Bc := hr.below hB hwr hwp
              have hmc := hmz.rel hr hpm
              have HTc := tks_own hownc
              have HER := Lib.hid her
              have hrm := rm_bd (g := f) (n := net) hr0.1 (k := n) HINV.out.ok HS.out
              have htk : ∀ i, i < n → amtB (svT f net r0 i).t = true := fun i hi => by
                have := tk_bd (g := f) (n := net) hr0.1 (k := i) (fun j hj => HINV.out.ok j (by omega)) (svB_mono (k := i + 1) (by omega) HS.out)
                exact amtB_mk (by show -100000000000 ≤ tkX f net _ i; omega) (by show tkX f net _ i ≤ 100000000000; omega)
              have hsm : ∀ i, i ≤ n → amtB (sumT (svT f net r0) i) = true := fun i hi => by
                have := rm_bd (g := f) (n := net) hr0.1 (k := i) (fun j hj => HINV.out.ok j (by omega)) (svB_mono hi HS.out)
                rw [sum_served]
                exact amtB_mk (by omega) (by omega)
              have hamt : ∀ i, i < n → amtB (svT f net r0 i).b = true ∧ amtB (svT f net r0 i).r = true ∧ amtB (svT f net r0 i).d = true ∧ amtB (svT f net r0 i).t = true ∧ amtB (svT f net r0 i).c = true := fun i hi => by
                have h1 := tw_bd HINV.out hr0.1 HS.out her hi
                have h2 := (HINV.out.ok i hi).ord_bd (show net ≤ 100000000000 by omega)
                have h3 := (HINV.out.ok i hi).nums
                refine ⟨?_, ?_, ?_, ?_, ?_⟩
                · show amtB (f i).ar = true; exact amtB_mk (by omega) (by omega)
                · show amtB ((f i).ordX net) = true; exact amtB_mk (by omega) (by omega)
                · show amtB ((f i).dueX net) = true; exact amtB_mk (by omega) (by omega)
                · show amtB (tkX f net _ i) = true; exact amtB_mk (by omega) (by omega)
                · show amtB ((f i).dueX net - tkX f net _ i) = true; exact amtB_mk (by omega) (by omega)
              have cM := asum_any Ac n cc (svT f net r0) wc HTc (by omega) htk hsm
              rw [sum_served] at cM
              have cR := fun W h => aright_any Ac n cc (svT f net r0) W h (by omega) hamt true (served_right (g := f) (n := net) hr0.1 HINV.out.ok HS.out)
              clear cB hgood her hownc hr hmz hB htk hsm hamt hbk0
              generalize rmX f net r0 n = rm at *
              have hlo : min net prot ≤ net - (r0 - rm) := by
                by_cases h0 : 0 ≤ net - prot
                · have := hrel0 h0; omega
                · have := hrel1 (by omega); omega
              have hlf : -200000000000 ≤ net - (r0 - rm) ∧ net - (r0 - rm) ≤ 200000000000 := by omega
              have hsb : 0 ≤ r0 - rm ∧ r0 - rm ≤ 100000000000 := by omega
              clear hrel0 hrel1 hr1 hrm
              generalize r0 - rm = sm at *
              have t3 : ((net - sm) != (net - sm)) = false := by simp
              have t2 : decide (net - sm < min net prot) = false := decide_eq_false (by omega)
              have t2' : ¬ net - sm < min net prot := by omega
              go_wp2_with (fail)
              with_reducible refine cM.mono ?_
              rintro e wd ⟨rfl, NBd⟩
              have Bd := below_step Bc NBd Bc.size
              have hmd := hmc.below NBd
              have HTd := HTc.below NBd
              have hbd := hbc.below NBd
              clear cM NBd Bc hmc HTc hbc
              go_wp2_with (fail)
              with_reducible refine (cR _ HTd).mono ?_
              rintro e we ⟨rfl, NBe⟩
              have Be := below_step Bd NBe Bd.size
              have hme := hmd.below NBe
              have HTe := HTd.below NBe
              have hbe := hbd.below NBe
              clear cR NBe Bd hmd HTd hbd t2 t3
              go_wp2
              go_loopw [121] (fun k W => ∃ (j cj : Nat), j ≤ n ∧ k = .int .i64 j ∧ cj ≤ cm + j ∧ MapZ W mb cj (mpF M f net j) ∧ Tks W Ac n (svT f net r0) ∧ Bk W p n (twF f n (svT f net r0) n) ∧ Below w.heap.size w W) (fun k _ => n - (intOf k).toNat)
              case atStart => exact ⟨0, cm, Nat.zero_le _, rfl, by omega, hme, HTe, hbe, Be⟩
              case round =>
                clear hme HTe hbe Be
                obtain ⟨j, cj, hj, rfl, hcj, hmz, hTk, hbk, hB⟩ := hrel
                by_cases hjn : j < n
                · have hjl : (j : Int) < (n : Int) := by omega
                  obtain ⟨b3, o3, rfl, hc3⟩ := id (hTk (by omega))
                  obtain ⟨d0, d1, d2, d3, d4, d5⟩ := hc3 j hjn
                  replace d0 : wr.cell? ⟨b3, o3 + j * 6, none⟩ = some (.int .i64 (f j).id) := d0
                  replace d1 : wr.cell? ⟨b3, o3 + j * 6 + 1, none⟩ = some (.int .i64 (f j).ar) := d1
                  replace d2 : wr.cell? ⟨b3, o3 + j * 6 + 2, none⟩ = some (.int .i64 ((f j).ordX net)) := d2
                  replace d3 : wr.cell? ⟨b3, o3 + j * 6 + 3, none⟩ = some (.int .i64 ((f j).dueX net)) := d3
                  replace d4 : wr.cell? ⟨b3, o3 + j * 6 + 4, none⟩ = some (.int .i64 (tkX f net r0 j)) := d4
                  replace d5 : wr.cell? ⟨b3, o3 + j * 6 + 5, none⟩ = some (.int .i64 ((f j).dueX net - tkX f net r0 j)) := d5
                  have hnum := (HINV.out.ok j hjn).nums
                  have hord := (HINV.out.ok j hjn).ord_bd (show net ≤ 100000000000 by omega)
                  have hmx : mpF M f net j (f j).id = (f j).tk + (f j).ar := by
                    rw [mpF_at HINV.out.2 j (by omega) j hjn, if_neg (Nat.lt_irrefl j)]; exact HM.out j hjn
                  have HMS : Hid (mpF M f net (j + 1) = fun z => if z = (f j).id then mpF M f net j (f j).id + (f j).ordX net else mpF M f net j z) := Lib.hid rfl
                  clear hc3
                  generalize (f j).id = t0 at *
                  generalize (f j).ordX net = t2 at *
                  generalize (f j).dueX net - tkX f net r0 j = t5 at *
                  generalize (f j).dueX net = t3 at *
                  generalize tkX f net r0 j = t4 at *
                  have hmb : -300000000000 ≤ mpF M f net j t0 ∧ mpF M f net j t0 ≤ 300000000000 := by omega
                  generalize (f j).ar = t1 at *
                  have K := bx_new wr [.int .i64 t0, .int .i64 t1, .int .i64 t2, .int .i64 t3, .int .i64 t4, .int .i64 t5] 43
                  have NB := below_new wr (.cells #[.int .i64 t0, .int .i64 t1, .int .i64 t2, .int .i64 t3, .int .i64 t4, .int .i64 t5] 43)
                  have hm4 := hmz.below NB
                  have B4 := below_step hB NB hB.size
                  have hT4 := hTk.below NB
                  have hb4 := hbk.below NB
                  have k0 := K.cell (i := 0) rfl
                  have k1 := K.cell (i := 1) rfl
                  have k2 := K.cell (i := 2) rfl
                  have k3 := K.cell (i := 3) rfl
                  have k4 := K.cell (i := 4) rfl
                  have k5 := K.cell (i := 5) rfl
                  have hlook := hm4.look (x := t0) (by omega)
                  obtain ⟨W', hput, hm5, hg⟩ := hm4.put (by omega) (x := t0) (y := mpF M f net j t0 + t2) (by omega) (by omega)
                  have B5 := Lib.hid (B4.grown hg B4.size (fun k hk => by cases hk; exact hwm))
                  have hT5 := Lib.hid (hT4.grown hm4 hg)
                  have hb5 := Lib.hid (hb4.grown hm4 hg)
                  have hm6 : Hid (MapZ W' mb (cj + 1) (mpF M f net (j + 1))) := Lib.hid (by rw [HMS.out]; exact hm5)
                  clear HMS hm5 hg hm4 hT4 hb4 B4 K NB hmz hTk hbk hmx
                  generalize mpF M f net j t0 = mx at *
                  go_wp2
                  refine ⟨⟨j + 1, cj + 1, by omega, by go_num, by omega, hm6.out, hT5.out, hb5.out, B5.out⟩, ?_⟩
                  simp [intOf]; omega
                · obtain rfl : n = j := by omega
                  have hjl : ¬ (n : Int) < (n : Int) := by omega
                  have HI2 := Lib.hid (invB_step HINV.out hr0.1 HS.out HER.out)
                  have HM2 : Hid (∀ j, j < n → mpF M f net n (twF f n (svT f net r0) n j).id = (twF f n (svT f net r0) n j).tk + (twF f n (svT f net r0) n j).ar) := Lib.hid (fun j hj => by
                    have hb := tw_bd HINV.out hr0.1 HS.out HER.out hj
                    rw [tw_at HINV.out hj]
                    show mpF M f net n (f j).id = (f j).tk + tkX f net r0 j + ((f j).dueX net - tkX f net r0 j)
                    rw [mpF_at HINV.out.2 n (Nat.le_refl _) j hj, if_pos hj, HM.out j hj]
                    omega)
                  have HMZ := Lib.hid hmz
                  have HBK := Lib.hid hbk
                  clear hmz hbk hTk
                  go_wp2
                  refine ⟨⟨i + 1, n, cj, _, _, by omega, by go_num, hn, by omega, HI2.out, HM2.out, HBK.out, HMZ.out, hB⟩, ?_⟩
                  simp [intOf]; omega
            · with_reducible refine cB.mono ?_
              rintro e wc ⟨_, hbad, hr⟩
              obtain ⟨rfl, NBc⟩ := hbad (by rw [her]; omega)
              rw [her]
              have Bc := below_step hB NBc hB.size
              clear cB her hbad NBc hr
              go_wp2
              go_ret
              exact ⟨rfl, Bc⟩
        · obtain rfl : m = i := by omega
          have hml : ¬ (m : Int) < (m : Int) := by omega
          have cL := list_any p n f wr hbk (by omega)
          have HINV := Lib.hid hinv
          have HM := Lib.hid hM
          clear hP hinv hM
          go_wp2_with (fail)
          with_reducible refine cL.mono ?_
          rintro e wd ⟨vd, rfl, hownd, NBd⟩
          obtain ⟨Ad, cd, rfl, _, _⟩ := own_len hownd
          have Bd := below_step hB NBd hB.size
          have HMD := Lib.hid (hmz.below NBd)
          have HOO := Lib.hid hownd
          clear cL NBd hownd hmz hbk hB
          go_wp2
          go_loopw [136] (fun k W => ∃ j : Nat, j ≤ n ∧ k = .int .i64 j ∧ Below wd.heap.size wd W) (fun k _ => n - (intOf k).toNat)
          case atStart => exact ⟨0, Nat.zero_le _, rfl, Below.refl _ _⟩
          case round =>
            obtain ⟨j, hj, rfl, hBB⟩ := hrel
            by_cases hjn : j < n
            · have hjl : (j : Int) < (n : Int) := by omega
              obtain ⟨g2, rfl, d0, d1, d2, d3, d4, d5, d6⟩ := own7_at (own_below HOO.out hBB) hjn
              have hm3 := HMD.out.below hBB
              have hnum := (HINV.out.ok j hjn).nums
              have htot := (HINV.out.1 j hjn).2
              have hmx := HM.out j hjn
              clear HOO HMD HINV HM
              generalize (f j).id = y0 at *
              generalize (f j).pr = y1 at *
              generalize (f j).am = y2 at *
              generalize (f j).rt = y3 at *
              generalize (f j).tot = y4 at *
              generalize (f j).tk = y5 at *
              generalize (f j).ar = y6 at *
              have K := bx_new wr [.int .i64 y0, .int .i64 y1, .int .i64 y2, .int .i64 y3, .int .i64 y4, .int .i64 y5, .int .i64 y6] 31
              have NB := below_new wr (.cells #[.int .i64 y0, .int .i64 y1, .int .i64 y2, .int .i64 y3, .int .i64 y4, .int .i64 y5, .int .i64 y6] 31)
              have hlook := (hm3.below NB).look (x := y0) (by omega)
              rw [hmx] at hlook
              have B4 := below_step hBB NB hBB.size
              have k0 := K.cell (i := 0) rfl
              have k1 := K.cell (i := 1) rfl
              have k2 := K.cell (i := 2) rfl
              have k3 := K.cell (i := 3) rfl
              have k4 := K.cell (i := 4) rfl
              have k5 := K.cell (i := 5) rfl
              have k6 := K.cell (i := 6) rfl
              have t1 : ((y5 + y6) != (y5 + y6)) = false := by simp
              clear hm3 hmx K NB
              by_cases h4 : 0 < y4
              · have t4 : decide (0 < y4) = true := decide_eq_true h4
                have t5 : decide (y4 < y5 + y6) = false := decide_eq_false (by omega)
                have t6 : ¬ y4 < y5 + y6 := by omega
                go_wp2
                refine ⟨⟨j + 1, by omega, by go_num, B4⟩, ?_⟩
                simp [intOf]; omega
              · have t4 : decide (0 < y4) = false := decide_eq_false h4
                go_wp2
                refine ⟨⟨j + 1, by omega, by go_num, B4⟩, ?_⟩
                simp [intOf]; omega
            · obtain rfl : n = j := by omega
              have hjl : ¬ (n : Int) < (n : Int) := by omega
              have BE := below_step Bd hBB Bd.size
              clear HOO HMD
              go_wp2
              go_ret
              exact ⟨rfl, BE⟩
theorem wWholeOrders (A : Option Addr) (N c : Nat) (g : Nat → Sta) (A2 : Option Addr) (m c2 : Nat) (pay : Nat → Int) (prot : Int) (w : World) (hA : Ods w A N g) (hN : N ≤ 9223372036854775807) (hf : ∀ i, i < N → (g i).F) (hP : rowAt w A2 m fun i => .int .i64 (pay i)) (hm : m ≤ 9223372036854775807) (hpf : ∀ i, -9223372036854775808 ≤ pay i ∧ pay i ≤ 9223372036854775807) (hpr : -9223372036854775808 ≤ prot ∧ prot ≤ 9223372036854775807) :
    Calls Try.prog 3 #[.slice A N c, .slice A2 m c2, .int .i64 prot] w fun e w' => e = .returned (.bool true) ∧ Below w.heap.size w w' := by
  by_cases h1 : 12 < N
  · exact wor_out A N c A2 m c2 prot w (.inl h1)
  · by_cases h2 : 40 < m
    · exact wor_out A N c A2 m c2 prot w (.inr (.inl ⟨h1, h2⟩))
    · by_cases h3 : prot < 0
      · exact wor_out A N c A2 m c2 prot w (.inr (.inr (.inl ⟨h1, h2, h3⟩)))
      · by_cases h4 : 100000000000 < prot
        · exact wor_out A N c A2 m c2 prot w (.inr (.inr (.inr ⟨h1, h2, by omega, h4⟩)))
        · exact wor_any A N c g A2 m c2 pay prot w hA hP h1 h2 (by omega) (by omega)
end Go.Proofs.Ytgdalejccbhjcaa
