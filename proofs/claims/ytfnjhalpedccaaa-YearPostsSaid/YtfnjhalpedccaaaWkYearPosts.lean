/- The walk of the law YearPosts. -/
import Derived.Test.YtfnjhalpedccaaaWkYearUpto
namespace Go.Proofs.Ytfnjhalpedccaaa
open Go.RowKit Go.Sort
set_option linter.unusedVariables false
set_option linter.unusedSimpArgs false

theorem make_sh31 (n : Nat) (hn : n ≤ 1000000) : ∃ cs, (∀ W : World, (Instr.makeSlice 31 (.int .i64 (n : Int)) (.int .i64 (n : Int))).run Try.prog W = .ok (.slice (some ⟨W.heap.size, 0, none⟩) n n) (W.alloc (.cells cs 53))) ∧ ∀ W : World, ShB (W.alloc (.cells cs 53)) W.heap.size n (fun _ => 0) (fun _ => 0) := by
  obtain ⟨i0, hi0, hz0, hz1, hz2⟩ := info_parts infoSh
  refine ⟨madeCells #[.int .i64 0, .int .i64 0] (n * 2), fun W => ?_, fun W => ?_⟩
  · have hr := run_make (P := Try.prog) W 31 53 i0 (.agg #[.int .i64 0, .int .i64 0]) (by kernel_rfl) hi0 hz0 .i64 .i64 n n (by omega) (Int.le_refl _) (by rw [hz2]; omega) (by omega)
    rw [hz1, show (Value.agg #[.int .i64 0, .int .i64 0]).cells = #[.int .i64 0, .int .i64 0] from rfl, Int.toNat_natCast] at hr
    exact hr
  · have := World.rowIs_alloc W (madeCells #[.int .i64 0, .int .i64 0] (n * 2)) 53 (fun q => .int .i64 (if q % 2 = 0 then 0 else 0)) (fun i hi => by
      rw [size_madeCells] at hi
      simp only [madeCells, Array.getElem?_map, Array.getElem?_range, hi, ite_self]
      rcases (show i % 2 = 0 ∨ i % 2 = 1 by omega) with e | e <;> simp [hi, e])
    rw [size_madeCells] at this
    exact this
set_option maxRecDepth 100000 in
set_option maxHeartbeats 4000000 in
theorem yp_small (n : Int) (A : Option Addr) (N c : Nat) (g0 : Nat → Slp) (w : World) (hS : Sls w A N g0) (hN : N ≤ 9223372036854775807) (hq : (smB g0 N && decide (N ≤ 60)) = false) :
    Calls Try.prog 3 #[.int .i64 n, .slice A N c] w fun e w' => e = .returned (.bool true) ∧ Below w.heap.size w w' := by
  go_enter Try.func3, Try.ntmps3
  have cK := keeps_any w
  go_wp2_with (fail)
  with_reducible refine cK.mono ?_
  rintro e w1 ⟨rfl, B⟩
  replace hS := hS.below B
  clear cK
  go_wp2_with (fail)
  with_reducible refine (lsmall_big A N c g0 _ hS hN false hq).mono ?_
  rintro e w2 ⟨rfl, hb⟩
  replace B := below_step B hb B.size
  clear hb hq hS
  go_wp2
  go_ret
  exact ⟨rfl, B⟩
set_option maxRecDepth 100000 in
set_option maxHeartbeats 4000000 in
theorem yp_out (n : Int) (A : Option Addr) (N c : Nat) (g0 : Nat → Slp) (w : World) (hS : Sls w A N g0) (hN : N ≤ 9223372036854775807) (hq : (smB g0 N && decide (N ≤ 60)) = true) (hn : n < 0 ∨ 64 < n) :
    Calls Try.prog 3 #[.int .i64 n, .slice A N c] w fun e w' => e = .returned (.bool true) ∧ Below w.heap.size w w' := by
  have key : decide (n < 0) = true ∨ (decide (n < 0) = false ∧ decide (64 < n) = true) := by
    by_cases e : n < 0
    · exact .inl (decide_eq_true e)
    · exact .inr ⟨decide_eq_false e, decide_eq_true (by omega)⟩
  have cN := fun W => ynew_range n W hn
  clear hn
  rcases key with l0 | ⟨l0, l1⟩
  all_goals
    go_enter Try.func3, Try.ntmps3
    have cK := keeps_any w
    go_wp2_with (fail)
    with_reducible refine cK.mono ?_
    rintro e w1 ⟨rfl, B⟩
    replace hS := hS.below B
    clear cK
    go_wp2_with (fail)
    with_reducible refine (lsmall_big A N c g0 _ hS hN true hq).mono ?_
    rintro e w2 ⟨rfl, hb⟩
    replace B := below_step B hb B.size
    clear hb hq hS
    go_wp2_with (fail)
    with_reducible refine (cN _).mono ?_
    rintro e w3 ⟨rfl, hb⟩
    replace B := below_step B hb B.size
    clear hb cN
    go_wp2
    go_ret
    exact ⟨rfl, B⟩
/-- what lies beside a year: totals in a box, and their row -/
structure Aside (W : World) (F : Nat → Prop) (p : Nat) (A : Option Addr) : Prop where
  nf : ¬ F p
  lt : p < W.heap.size
  a : ∀ j, atB A j → ¬ F j ∧ j < W.heap.size
theorem Aside.up {W W' : World} {F : Nat → Prop} {p : Nat} {A : Option Addr} (h : Aside W F p A) (hz : W.heap.size ≤ W'.heap.size) : Aside W' F p A := ⟨h.nf, Nat.lt_of_lt_of_le h.lt hz, fun j hj => ⟨(h.a j hj).1, Nat.lt_of_lt_of_le (h.a j hj).2 hz⟩⟩
set_option maxRecDepth 100000 in
set_option maxHeartbeats 16000000 in
theorem yp_main (n : Nat) (A : Option Addr) (N c : Nat) (g0 : Nat → Slp) (w : World) (hS : Sls w A N g0) (hN : N ≤ 9223372036854775807) (hq : (smB g0 N && decide (N ≤ 60)) = true) (hn : n ≤ 64) :
    Calls Try.prog 3 #[.int .i64 (n : Int), .slice A N c] w fun e w' => e = .returned (.bool true) ∧ Below w.heap.size w w' := by
  have l0 : decide ((n : Int) < 0) = false := decide_eq_false (by omega)
  have l1 : decide ((64 : Int) < (n : Int)) = false := decide_eq_false (by omega)
  have hq2 := hq
  rw [Bool.and_eq_true] at hq2
  have HSB := Lib.hid (smB_at hq2.1)
  have HN6 : Hid (N ≤ 60) := Lib.hid (by simpa using hq2.2)
  have HNN : Hid (n ≤ 64) := Lib.hid hn
  have HS0 := Lib.hid hS
  clear hq2
  go_enter Try.func3, Try.ntmps3
  have cK := keeps_any w
  go_wp2_with (fail)
  with_reducible refine cK.mono ?_
  rintro e w1 ⟨rfl, B⟩
  replace hS := hS.below B
  clear cK
  go_wp2_with (fail)
  with_reducible refine (lsmall_big A N c g0 _ hS hN true hq).mono ?_
  rintro e w2 ⟨rfl, hb⟩
  replace B := below_step B hb B.size
  clear hb hq hN hS
  have cN := ynew_ok n g0 w2 HNN.out
  go_wp2_with (fail)
  with_reducible refine cN.mono ?_
  rintro e w3 ⟨p, rfl, hY, hb⟩
  have hI := yi_new B.size HNN.out hY
  replace B := below_step B hb B.size
  have HB3 := Lib.hid B.size
  have hF3 : ∀ q, newF w2 w3 q → q < w3.heap.size := fun q h => h.2
  obtain ⟨cs, hmk, hsb⟩ := make_sh31 n (by omega)
  have KW := bx_new w3 [.int .i64 0, .int .i64 0, .int .i64 0, .int .i64 0, .int .i64 0, .slice none 0 0, .int .i64 0, .int .i64 0, .int .i64 0] 34
  have NW := below_new w3 (.cells #[.int .i64 0, .int .i64 0, .int .i64 0, .int .i64 0, .int .i64 0, .slice (some ⟨w3.heap.size + 1, 0, none⟩) n n, .int .i64 0, .int .i64 0, .int .i64 0] 34)
  have NS := below_new (w3.alloc (.cells #[.int .i64 0, .int .i64 0, .int .i64 0, .int .i64 0, .int .i64 0, .slice (some ⟨w3.heap.size + 1, 0, none⟩) n n, .int .i64 0, .int .i64 0, .int .i64 0] 34)) (.cells cs 53)
  have KZ := (bx_new w3 [.int .i64 0, .int .i64 0, .int .i64 0, .int .i64 0, .int .i64 0, .slice (some ⟨w3.heap.size + 1, 0, none⟩) n n, .int .i64 0, .int .i64 0, .int .i64 0] 34).below NS
  have hsz : (w3.alloc (.cells #[.int .i64 0, .int .i64 0, .int .i64 0, .int .i64 0, .int .i64 0, .slice (some ⟨w3.heap.size + 1, 0, none⟩) n n, .int .i64 0, .int .i64 0, .int .i64 0] 34)).heap.size = w3.heap.size + 1 := by simp
  have hsb2 := hsb (w3.alloc (.cells #[.int .i64 0, .int .i64 0, .int .i64 0, .int .i64 0, .int .i64 0, .slice (some ⟨w3.heap.size + 1, 0, none⟩) n n, .int .i64 0, .int .i64 0, .int .i64 0] 34))
  rw [hsz] at hsb2
  have k_5 := KW.cell (i := 5) rfl
  have kf_5 := KW.fr 5
  have KW1 := KW.below (below_new _ (.cells cs 53))
  have j_5 := KW1.cell (i := 5) rfl
  have jf_5 := KW1.fr 5
  have hI5 := (hI.below NW).below NS
  have B5 := below_step (below_step B NW B.size) NS (Nat.le_trans B.size NW.size)
  have HZ := Lib.hid (And.intro KZ (And.intro hsb2.shs (And.intro hI5 B5)))
  have HA5 : Hid (Aside ((w3.alloc (.cells #[.int .i64 0, .int .i64 0, .int .i64 0, .int .i64 0, .int .i64 0, .slice (some ⟨w3.heap.size + 1, 0, none⟩) n n, .int .i64 0, .int .i64 0, .int .i64 0] 34)).alloc (.cells cs 53)) (newF w2 w3) w3.heap.size (some ⟨w3.heap.size + 1, 0, none⟩)) := Lib.hid ⟨fun h => absurd h.2 (Nat.lt_irrefl _), by simp; omega, fun j hj => by
    have : w3.heap.size + 1 = j := by simpa [atB] using hj
    subst this
    exact ⟨fun h => by have := h.2; omega, by simp⟩⟩
  clear hb cN hY hsb hn KW KW1 NS NW hsb2 hI5 B5 KZ hI B hF3 hsz
  go_wp2
  clear k_5 kf_5 j_5 jf_5 hmk l0 l1
  obtain ⟨KZ, hSZ, hI, B⟩ := HZ.out
  have hA5 := HA5.out
  clear HZ HA5
  generalize ((w3.alloc (.cells #[.int .i64 0, .int .i64 0, .int .i64 0, .int .i64 0, .int .i64 0, .slice (some ⟨w3.heap.size + 1, 0, none⟩) n n, .int .i64 0, .int .i64 0, .int .i64 0] 34)).alloc (.cells cs 53)) = w5 at *
  have hqw0 : w.heap.size ≤ w3.heap.size := HB3.out
  clear HB3
  generalize w3.heap.size = qW at *
  have HQWB : Hid (w.heap.size ≤ qW) := Lib.hid hqw0
  clear hqw0
  go_loopw [8, 50] (fun s8 ii W => ∃ i : Nat, i ≤ N ∧ ii = .int .i64 i ∧ (∃ (cnt : Nat) (g : Nat → Slp) (t : Tot) (F : Nat → Prop) (A' : Option Addr) (c' : Nat), s8 = .int .i64 (cnt : Int) ∧ YI W p n cnt g t F w.heap.size ∧ Bx W qW 34 [.int .i64 t.ca, .int .i64 t.tb, .int .i64 t.so, .int .i64 t.tx, .int .i64 t.sf, .slice A' n c', .int .i64 t.net, .int .i64 t.tk, .int .i64 t.pay] ∧ Shs W A' n t.X t.Y ∧ Aside W F qW A') ∧ Below w.heap.size w W) (fun _ ii _ => N - (intOf ii).toNat)
  case atStart => exact ⟨0, Nat.zero_le _, rfl, ⟨0, g0, Tot.z, _, _, _, rfl, hI, KZ, hSZ, hA5⟩, B⟩
  case round =>
    clear KZ hSZ hI B hA5
    obtain ⟨i, hi, rfl, ⟨cnt, g, t, F, A', c', rfl, hI, KW, hSW, hAs⟩, B⟩ := hrel
    by_cases hlt : i < N
    · have hil : (i : Int) < (N : Int) := by omega
      have hS := HS0.out.below B
      obtain ⟨b, o, hA0, hc⟩ := hS (by omega)
      obtain rfl := hA0
      obtain ⟨hAt, hM⟩ := hc i hlt
      obtain ⟨x_0, x_1, x_2, x_3, x_4, x_5, x_6, x_7, x_8, x_9⟩ := hAt.all
      have hsz := HSB.out i hlt
      have hcb := hI.cb
      have hw1 : wrap64 ((i : Int) + 1) = (i : Int) + 1 := IntWalk.wrap64_in _ (by have := HN6.out; omega)
      have hw2 : wrap64 ((cnt : Int) + 1) = (cnt : Int) + 1 := IntWalk.wrap64_in _ (by omega)
      clear hc hAt hS
      generalize hgs : g0 i = s at *
      have hsn : s.n ≤ 100000 := by omega
      have hsm : s.m ≤ 100000 := by omega
      have KS := bx_new wr [.int .i64 s.k, .int .i64 s.ca, .int .i64 s.tb, .int .i64 s.so, .int .i64 s.tx, .int .i64 s.sf, .slice s.A s.n s.c, .int .i64 s.net, .slice s.T s.m s.d, .int .i64 s.pay] 37
      have NS := below_new wr (.cells #[.int .i64 s.k, .int .i64 s.ca, .int .i64 s.tb, .int .i64 s.so, .int .i64 s.tx, .int .i64 s.sf, .slice s.A s.n s.c, .int .i64 s.net, .slice s.T s.m s.d, .int .i64 s.pay] 37)
      have cW := fun v hv => lwrong_raw s.k s.ca s.tb s.so s.tx s.sf s.A s.n s.c s.net s.T s.m s.d s.pay s.X s.Y s.f (n : Int) (wr.alloc (.cells #[.int .i64 s.k, .int .i64 s.ca, .int .i64 s.tb, .int .i64 s.so, .int .i64 s.tx, .int .i64 s.sf, .slice s.A s.n s.c, .int .i64 s.net, .slice s.T s.m s.d, .int .i64 s.pay] 37)) (hM.below NS).sh (hM.below NS).tk (by omega) (by omega) v hv
      have hM1 := hM.below NS
      have hI1 := hI.below NS
      have KW1 := KW.below NS
      have hSW1 := hSW.below NS
      have B1 := below_step B NS B.size
      have hAs1 : Aside (wr.alloc (.cells #[.int .i64 s.k, .int .i64 s.ca, .int .i64 s.tb, .int .i64 s.so, .int .i64 s.tx, .int .i64 s.sf, .slice s.A s.n s.c, .int .i64 s.net, .slice s.T s.m s.d, .int .i64 s.pay] 37)) F qW A' := ⟨hAs.nf, Nat.lt_of_lt_of_le hAs.lt NS.size, fun j hj => ⟨(hAs.a j hj).1, Nat.lt_of_lt_of_le (hAs.a j hj).2 NS.size⟩⟩
      have hFS : ∀ q, F q → q < wr.heap.size := hI.y.lt
      have hqWS : qW < wr.heap.size := hAs.lt
      have hcnt : cnt ≤ 1000 := by omega
      have s_0 := KS.cell (i := 0) rfl
      have s_1 := KS.cell (i := 1) rfl
      have s_2 := KS.cell (i := 2) rfl
      have s_3 := KS.cell (i := 3) rfl
      have s_4 := KS.cell (i := 4) rfl
      have s_5 := KS.cell (i := 5) rfl
      have s_6 := KS.cell (i := 6) rfl
      have s_7 := KS.cell (i := 7) rfl
      have s_8 := KS.cell (i := 8) rfl
      have s_9 := KS.cell (i := 9) rfl
      clear hM hI KW hSW B hAs hsz NS hcb
      have HM0 : Hid (SlM w s) := Lib.hid (by
        obtain ⟨b', o', e', hc'⟩ := HS0.out (by omega)
        exact hgs ▸ (hc' i hlt).2)
      have hn6 : n ≤ 1000000 := Nat.le_trans HNN.out (by decide)
      clear hgs
      have KW := KW1
      have hSW := hSW1
      have hI := hI1
      have B := B1
      have hAs := hAs1
      clear KW1 hSW1 hI1 B1 hAs1 hM1
      by_cases hch0 : s.chk n = 0
      rotate_left
      · obtain ⟨v, hch⟩ : ∃ v, s.chk n = v := ⟨_, rfl⟩
        have hv0 : v ≠ 0 := by rw [← hch]; exact hch0
        have hvv : pstV s n cnt t = v := by unfold pstV; rw [if_pos hch0, hch]
        have e0 : (v == 0) = false := by simp [hv0]
        have e1 : (v != 0) = true := by simp [hv0]
        have e2 : (v != v) = false := by simp
        clear hch0
        go_wp2_with (fail)
        generalize (wr.alloc (.cells #[.int .i64 s.k, .int .i64 s.ca, .int .i64 s.tb, .int .i64 s.so, .int .i64 s.tx, .int .i64 s.sf, .slice s.A s.n s.c, .int .i64 s.net, .slice s.T s.m s.d, .int .i64 s.pay] 37)) = wq at *
        with_reducible refine (cW _ hch).mono ?_
        rintro e w6 ⟨rfl, hb⟩
        clear s_0 s_1 s_2 s_3 s_4 s_5 s_6 s_7 s_8 s_9
        replace hI := hI.below hb
        replace KS := KS.below hb
        replace KW := KW.below hb
        replace hSW := hSW.below hb
        replace B := below_step B hb B.size
        replace hAs := hAs.up (hb).size
        clear hb cW
        have KN := bx_new w6 [.int .i64 t.ca, .int .i64 t.tb, .int .i64 t.so, .int .i64 t.tx, .int .i64 t.sf, .slice A' n c', .int .i64 t.net, .int .i64 t.tk, .int .i64 t.pay] 34
        have NN := below_new w6 (.cells #[.int .i64 t.ca, .int .i64 t.tb, .int .i64 t.so, .int .i64 t.tx, .int .i64 t.sf, .slice A' n c', .int .i64 t.net, .int .i64 t.tk, .int .i64 t.pay] 34)
        have y_0 := KW.cell (i := 0) rfl
        have y_1 := KW.cell (i := 1) rfl
        have y_2 := KW.cell (i := 2) rfl
        have y_3 := KW.cell (i := 3) rfl
        have y_4 := KW.cell (i := 4) rfl
        have y_5 := KW.cell (i := 5) rfl
        have y_6 := KW.cell (i := 6) rfl
        have y_7 := KW.cell (i := 7) rfl
        have y_8 := KW.cell (i := 8) rfl
        have k0 := KS.cell (i := 0) rfl
        replace KS := KS.below NN
        have hI6 := hI
        replace KW := KW.below NN
        replace hI := hI.below NN
        replace hSW := hSW.below NN
        replace B := below_step B NN B.size
        replace hAs := hAs.up NN.size
        have hqN : w6.heap.size < (w6.alloc (.cells #[.int .i64 t.ca, .int .i64 t.tb, .int .i64 t.so, .int .i64 t.tx, .int .i64 t.sf, .slice A' n c', .int .i64 t.net, .int .i64 t.tk, .int .i64 t.pay] 34)).heap.size := KN.lt
        clear NN KN hqN hI6
        have s_0 := KS.cell (i := 0) rfl
        have s_1 := KS.cell (i := 1) rfl
        have s_2 := KS.cell (i := 2) rfl
        have s_3 := KS.cell (i := 3) rfl
        have s_4 := KS.cell (i := 4) rfl
        have s_5 := KS.cell (i := 5) rfl
        have s_6 := KS.cell (i := 6) rfl
        have s_7 := KS.cell (i := 7) rfl
        have s_8 := KS.cell (i := 8) rfl
        have s_9 := KS.cell (i := 9) rfl
        go_wp2_with (fail)
        generalize (w6.alloc (.cells #[.int .i64 t.ca, .int .i64 t.tb, .int .i64 t.so, .int .i64 t.tx, .int .i64 t.sf, .slice A' n c', .int .i64 t.net, .int .i64 t.tk, .int .i64 t.pay] 34)) = w7 at *
        clear y_0 y_1 y_2 y_3 y_4 y_5 y_6 y_7 y_8
        clear k0
        with_reducible refine (yt_no hI s (HM0.out.below B) hsn hsm v hvv hv0).mono ?_
        rintro e w8 ⟨rfl, hb⟩
        clear s_0 s_1 s_2 s_3 s_4 s_5 s_6 s_7 s_8 s_9
        replace hI := hI.below hb
        replace KS := KS.below hb
        replace KW := KW.below hb
        replace hSW := hSW.below hb
        replace B := below_step B hb B.size
        replace hAs := hAs.up (hb).size
        clear hb
        have KT := bx_new w8 [.int .i64 0, .int .i64 0, .int .i64 0, .int .i64 0, .int .i64 0, .slice none 0 0, .int .i64 0, .int .i64 0, .int .i64 0] 34
        have NT := below_new w8 (.cells #[.int .i64 0, .int .i64 0, .int .i64 0, .int .i64 0, .int .i64 0, .slice none 0 0, .int .i64 0, .int .i64 0, .int .i64 0] 34)
        replace hI := hI.below NT
        replace KS := KS.below NT
        replace KW := KW.below NT
        replace hSW := hSW.below NT
        replace B := below_step B NT B.size
        replace hAs := hAs.up (NT).size
        clear NT
        have t_0 := KT.cell (i := 0) rfl
        have t_1 := KT.cell (i := 1) rfl
        have t_2 := KT.cell (i := 2) rfl
        have t_3 := KT.cell (i := 3) rfl
        have t_4 := KT.cell (i := 4) rfl
        have t_5 := KT.cell (i := 5) rfl
        have t_6 := KT.cell (i := 6) rfl
        have t_7 := KT.cell (i := 7) rfl
        have t_8 := KT.cell (i := 8) rfl
        have s_0 := KS.cell (i := 0) rfl
        have s_1 := KS.cell (i := 1) rfl
        have s_2 := KS.cell (i := 2) rfl
        have s_3 := KS.cell (i := 3) rfl
        have s_4 := KS.cell (i := 4) rfl
        have s_5 := KS.cell (i := 5) rfl
        have s_6 := KS.cell (i := 6) rfl
        have s_7 := KS.cell (i := 7) rfl
        have s_8 := KS.cell (i := 8) rfl
        have s_9 := KS.cell (i := 9) rfl
        go_wp2_with (fail)
        with_reducible refine (same_z _).mono ?_
        rintro e w10 ⟨rfl, hb⟩
        clear t_0 t_1 t_2 t_3 t_4 t_5 t_6 t_7 t_8
        clear s_0 s_1 s_2 s_3 s_4 s_5 s_6 s_7 s_8 s_9
        replace hI := hI.below hb
        replace KS := KS.below hb
        replace KW := KW.below hb
        replace hSW := hSW.below hb
        replace B := below_step B hb B.size
        replace hAs := hAs.up (hb).size
        clear hb KT
        have s_0 := KS.cell (i := 0) rfl
        have s_1 := KS.cell (i := 1) rfl
        have s_2 := KS.cell (i := 2) rfl
        have s_3 := KS.cell (i := 3) rfl
        have s_4 := KS.cell (i := 4) rfl
        have s_5 := KS.cell (i := 5) rfl
        have s_6 := KS.cell (i := 6) rfl
        have s_7 := KS.cell (i := 7) rfl
        have s_8 := KS.cell (i := 8) rfl
        have s_9 := KS.cell (i := 9) rfl
        go_wp2_with (fail)
        with_reducible refine (yp_no hI s (HM0.out.below B) hsn hsm v hvv hv0).mono ?_
        rintro e w9 ⟨rfl, hb⟩
        clear s_0 s_1 s_2 s_3 s_4 s_5 s_6 s_7 s_8 s_9
        replace hI := hI.below hb
        replace KS := KS.below hb
        replace KW := KW.below hb
        replace hSW := hSW.below hb
        replace B := below_step B hb B.size
        replace hAs := hAs.up (hb).size
        clear hb KS hvv
        go_wp2
        have D1 : Below w9.heap.size w9 w9.drew := (Below.refl _ _).drew
        have cT := ytotals_any (hI.y.below D1) HNN.out
        unfold YtP at cT
        have k_0 := KW.cell (i := 0) rfl
        have k_1 := KW.cell (i := 1) rfl
        have k_2 := KW.cell (i := 2) rfl
        have k_3 := KW.cell (i := 3) rfl
        have k_4 := KW.cell (i := 4) rfl
        have k_5 := KW.cell (i := 5) rfl
        have k_6 := KW.cell (i := 6) rfl
        have k_7 := KW.cell (i := 7) rfl
        have k_8 := KW.cell (i := 8) rfl
        go_cut [50, 140] from 50 to 141 (fun s50 s140 wx => s50 = .int .i64 (i : Int) ∧ s140 = .bool false ∧ Below w9.heap.size w9 wx)
        case first =>
          as_aux_lemma =>
            have S1 : w9.drew.cell? ⟨qW, 0, none⟩ = some (.int .i64 t.ca) ∧ w9.drew.cell? ⟨qW, 1, none⟩ = some (.int .i64 t.tb) ∧ w9.drew.cell? ⟨qW, 2, none⟩ = some (.int .i64 t.so) ∧ w9.drew.cell? ⟨qW, 3, none⟩ = some (.int .i64 t.tx) ∧ w9.drew.cell? ⟨qW, 4, none⟩ = some (.int .i64 t.sf) ∧ w9.drew.cell? ⟨qW, 5, none⟩ = some (.slice A' n c') ∧ w9.drew.cell? ⟨qW, 6, none⟩ = some (.int .i64 t.net) ∧ w9.drew.cell? ⟨qW, 7, none⟩ = some (.int .i64 t.tk) ∧ w9.drew.cell? ⟨qW, 8, none⟩ = some (.int .i64 t.pay) ∧ Below w9.heap.size w9 w9.drew := ⟨k_0, k_1, k_2, k_3, k_4, k_5, k_6, k_7, k_8, D1⟩
            have mk : ∀ V : World, Below w9.heap.size w9 V → V.cell? ⟨qW, 0, none⟩ = some (.int .i64 t.ca) ∧ V.cell? ⟨qW, 1, none⟩ = some (.int .i64 t.tb) ∧ V.cell? ⟨qW, 2, none⟩ = some (.int .i64 t.so) ∧ V.cell? ⟨qW, 3, none⟩ = some (.int .i64 t.tx) ∧ V.cell? ⟨qW, 4, none⟩ = some (.int .i64 t.sf) ∧ V.cell? ⟨qW, 5, none⟩ = some (.slice A' n c') ∧ V.cell? ⟨qW, 6, none⟩ = some (.int .i64 t.net) ∧ V.cell? ⟨qW, 7, none⟩ = some (.int .i64 t.tk) ∧ V.cell? ⟨qW, 8, none⟩ = some (.int .i64 t.pay) ∧ Below w9.heap.size w9 V := fun V hb => ⟨cell_later hb k_0, cell_later hb k_1, cell_later hb k_2, cell_later hb k_3, cell_later hb k_4, cell_later hb k_5, cell_later hb k_6, cell_later hb k_7, cell_later hb k_8, hb⟩
            go_region_held3 (fun X => X.cell? ⟨qW, 0, none⟩ = some (.int .i64 t.ca) ∧ X.cell? ⟨qW, 1, none⟩ = some (.int .i64 t.tb) ∧ X.cell? ⟨qW, 2, none⟩ = some (.int .i64 t.so) ∧ X.cell? ⟨qW, 3, none⟩ = some (.int .i64 t.tx) ∧ X.cell? ⟨qW, 4, none⟩ = some (.int .i64 t.sf) ∧ X.cell? ⟨qW, 5, none⟩ = some (.slice A' n c') ∧ X.cell? ⟨qW, 6, none⟩ = some (.int .i64 t.net) ∧ X.cell? ⟨qW, 7, none⟩ = some (.int .i64 t.tk) ∧ X.cell? ⟨qW, 8, none⟩ = some (.int .i64 t.pay) ∧ Below w9.heap.size w9 X)
              ((first | exact S1 | exact SW2 | exact SW | assumption))
              (first
                | (go_at_call 17; (with_reducible refine cT.mono ?_); rintro e w10 ⟨A2, c2, rfl, hown, hb10⟩; have b10 := below_step D1 hb10 D1.size; have SW := mk w10 b10; have cS := ysame_any t A2 A' n c2 c' w10 (shs_own hown) (hSW.below b10) hn6; clear hown)
                | (go_at_call 13; (with_reducible refine cS.mono ?_); rintro e w11 ⟨rfl, hb11⟩; have b11 := below_step b10 hb11 b10.size; have SW2 := mk w11 b11; have cC := ycount_any (hI.y.below b11))
                | (go_at_call 18; (with_reducible refine cC.mono ?_); rintro e w12 ⟨rfl, hw12⟩; subst hw12))
            all_goals
              rename_i hH
              go_wp2_with fail
              go_meet
              case rel => exact ⟨rfl, rfl, hH.2.2.2.2.2.2.2.2.2⟩
        case rest =>
        obtain ⟨rfl, rfl, hbc⟩ := hcut
        clear k_0 k_1 k_2 k_3 k_4 k_5 k_6 k_7 k_8 cT D1
        replace hI := hI.below hbc
        replace KW := KW.below hbc
        replace hSW := hSW.below hbc
        replace B := below_step B hbc B.size
        replace hAs := hAs.up hbc.size
        clear hbc
        go_wp2
        refine ⟨⟨i + 1, by omega, by go_num, ⟨cnt, g, t, F, A', c', rfl, hI, KW, hSW, hAs⟩, B⟩, ?_⟩
        first | exact meas_step hlt | (rw [hw1]; exact meas_step hlt)

      have hok : s.OK n := Slp.ok_of hch0
      have hch := hch0
      by_cases hk : s.k = (cnt : Int) + 1
      rotate_left
      · obtain ⟨v, rfl⟩ : ∃ v : Int, v = 6 := ⟨_, rfl⟩
        have hv0 : (6 : Int) ≠ 0 := by decide
        have hvv : pstV s n cnt t = 6 := by unfold pstV; rw [if_neg (by simp [hch0]), if_pos hk]
        have e3 : (s.k != (cnt : Int) + 1) = true := by simp [hk]
        clear hch0 hk
        go_wp2_with (fail)
        generalize (wr.alloc (.cells #[.int .i64 s.k, .int .i64 s.ca, .int .i64 s.tb, .int .i64 s.so, .int .i64 s.tx, .int .i64 s.sf, .slice s.A s.n s.c, .int .i64 s.net, .slice s.T s.m s.d, .int .i64 s.pay] 37)) = wq at *
        with_reducible refine (cW _ hch).mono ?_
        rintro e w6 ⟨rfl, hb⟩
        clear s_0 s_1 s_2 s_3 s_4 s_5 s_6 s_7 s_8 s_9
        replace hI := hI.below hb
        replace KS := KS.below hb
        replace KW := KW.below hb
        replace hSW := hSW.below hb
        replace B := below_step B hb B.size
        replace hAs := hAs.up (hb).size
        clear hb cW
        have KN := bx_new w6 [.int .i64 t.ca, .int .i64 t.tb, .int .i64 t.so, .int .i64 t.tx, .int .i64 t.sf, .slice A' n c', .int .i64 t.net, .int .i64 t.tk, .int .i64 t.pay] 34
        have NN := below_new w6 (.cells #[.int .i64 t.ca, .int .i64 t.tb, .int .i64 t.so, .int .i64 t.tx, .int .i64 t.sf, .slice A' n c', .int .i64 t.net, .int .i64 t.tk, .int .i64 t.pay] 34)
        have y_0 := KW.cell (i := 0) rfl
        have y_1 := KW.cell (i := 1) rfl
        have y_2 := KW.cell (i := 2) rfl
        have y_3 := KW.cell (i := 3) rfl
        have y_4 := KW.cell (i := 4) rfl
        have y_5 := KW.cell (i := 5) rfl
        have y_6 := KW.cell (i := 6) rfl
        have y_7 := KW.cell (i := 7) rfl
        have y_8 := KW.cell (i := 8) rfl
        have k0 := KS.cell (i := 0) rfl
        replace KS := KS.below NN
        have hI6 := hI
        replace KW := KW.below NN
        replace hI := hI.below NN
        replace hSW := hSW.below NN
        replace B := below_step B NN B.size
        replace hAs := hAs.up NN.size
        have hqN : w6.heap.size < (w6.alloc (.cells #[.int .i64 t.ca, .int .i64 t.tb, .int .i64 t.so, .int .i64 t.tx, .int .i64 t.sf, .slice A' n c', .int .i64 t.net, .int .i64 t.tk, .int .i64 t.pay] 34)).heap.size := KN.lt
        clear NN KN hqN hI6
        have s_0 := KS.cell (i := 0) rfl
        have s_1 := KS.cell (i := 1) rfl
        have s_2 := KS.cell (i := 2) rfl
        have s_3 := KS.cell (i := 3) rfl
        have s_4 := KS.cell (i := 4) rfl
        have s_5 := KS.cell (i := 5) rfl
        have s_6 := KS.cell (i := 6) rfl
        have s_7 := KS.cell (i := 7) rfl
        have s_8 := KS.cell (i := 8) rfl
        have s_9 := KS.cell (i := 9) rfl
        go_wp2_with (fail)
        generalize (w6.alloc (.cells #[.int .i64 t.ca, .int .i64 t.tb, .int .i64 t.so, .int .i64 t.tx, .int .i64 t.sf, .slice A' n c', .int .i64 t.net, .int .i64 t.tk, .int .i64 t.pay] 34)) = w7 at *
        clear y_0 y_1 y_2 y_3 y_4 y_5 y_6 y_7 y_8
        clear k0
        with_reducible refine (yt_no hI s (HM0.out.below B) hsn hsm 6 hvv hv0).mono ?_
        rintro e w8 ⟨rfl, hb⟩
        clear s_0 s_1 s_2 s_3 s_4 s_5 s_6 s_7 s_8 s_9
        replace hI := hI.below hb
        replace KS := KS.below hb
        replace KW := KW.below hb
        replace hSW := hSW.below hb
        replace B := below_step B hb B.size
        replace hAs := hAs.up (hb).size
        clear hb
        have KT := bx_new w8 [.int .i64 0, .int .i64 0, .int .i64 0, .int .i64 0, .int .i64 0, .slice none 0 0, .int .i64 0, .int .i64 0, .int .i64 0] 34
        have NT := below_new w8 (.cells #[.int .i64 0, .int .i64 0, .int .i64 0, .int .i64 0, .int .i64 0, .slice none 0 0, .int .i64 0, .int .i64 0, .int .i64 0] 34)
        replace hI := hI.below NT
        replace KS := KS.below NT
        replace KW := KW.below NT
        replace hSW := hSW.below NT
        replace B := below_step B NT B.size
        replace hAs := hAs.up (NT).size
        clear NT
        have t_0 := KT.cell (i := 0) rfl
        have t_1 := KT.cell (i := 1) rfl
        have t_2 := KT.cell (i := 2) rfl
        have t_3 := KT.cell (i := 3) rfl
        have t_4 := KT.cell (i := 4) rfl
        have t_5 := KT.cell (i := 5) rfl
        have t_6 := KT.cell (i := 6) rfl
        have t_7 := KT.cell (i := 7) rfl
        have t_8 := KT.cell (i := 8) rfl
        have s_0 := KS.cell (i := 0) rfl
        have s_1 := KS.cell (i := 1) rfl
        have s_2 := KS.cell (i := 2) rfl
        have s_3 := KS.cell (i := 3) rfl
        have s_4 := KS.cell (i := 4) rfl
        have s_5 := KS.cell (i := 5) rfl
        have s_6 := KS.cell (i := 6) rfl
        have s_7 := KS.cell (i := 7) rfl
        have s_8 := KS.cell (i := 8) rfl
        have s_9 := KS.cell (i := 9) rfl
        go_wp2_with (fail)
        with_reducible refine (same_z _).mono ?_
        rintro e w10 ⟨rfl, hb⟩
        clear t_0 t_1 t_2 t_3 t_4 t_5 t_6 t_7 t_8
        clear s_0 s_1 s_2 s_3 s_4 s_5 s_6 s_7 s_8 s_9
        replace hI := hI.below hb
        replace KS := KS.below hb
        replace KW := KW.below hb
        replace hSW := hSW.below hb
        replace B := below_step B hb B.size
        replace hAs := hAs.up (hb).size
        clear hb KT
        have s_0 := KS.cell (i := 0) rfl
        have s_1 := KS.cell (i := 1) rfl
        have s_2 := KS.cell (i := 2) rfl
        have s_3 := KS.cell (i := 3) rfl
        have s_4 := KS.cell (i := 4) rfl
        have s_5 := KS.cell (i := 5) rfl
        have s_6 := KS.cell (i := 6) rfl
        have s_7 := KS.cell (i := 7) rfl
        have s_8 := KS.cell (i := 8) rfl
        have s_9 := KS.cell (i := 9) rfl
        go_wp2_with (fail)
        with_reducible refine (yp_no hI s (HM0.out.below B) hsn hsm 6 hvv hv0).mono ?_
        rintro e w9 ⟨rfl, hb⟩
        clear s_0 s_1 s_2 s_3 s_4 s_5 s_6 s_7 s_8 s_9
        replace hI := hI.below hb
        replace KS := KS.below hb
        replace KW := KW.below hb
        replace hSW := hSW.below hb
        replace B := below_step B hb B.size
        replace hAs := hAs.up (hb).size
        clear hb KS hvv
        go_wp2
        have D1 : Below w9.heap.size w9 w9.drew := (Below.refl _ _).drew
        have cT := ytotals_any (hI.y.below D1) HNN.out
        unfold YtP at cT
        have k_0 := KW.cell (i := 0) rfl
        have k_1 := KW.cell (i := 1) rfl
        have k_2 := KW.cell (i := 2) rfl
        have k_3 := KW.cell (i := 3) rfl
        have k_4 := KW.cell (i := 4) rfl
        have k_5 := KW.cell (i := 5) rfl
        have k_6 := KW.cell (i := 6) rfl
        have k_7 := KW.cell (i := 7) rfl
        have k_8 := KW.cell (i := 8) rfl
        go_cut [50, 140] from 50 to 141 (fun s50 s140 wx => s50 = .int .i64 (i : Int) ∧ s140 = .bool false ∧ Below w9.heap.size w9 wx)
        case first =>
          as_aux_lemma =>
            have S1 : w9.drew.cell? ⟨qW, 0, none⟩ = some (.int .i64 t.ca) ∧ w9.drew.cell? ⟨qW, 1, none⟩ = some (.int .i64 t.tb) ∧ w9.drew.cell? ⟨qW, 2, none⟩ = some (.int .i64 t.so) ∧ w9.drew.cell? ⟨qW, 3, none⟩ = some (.int .i64 t.tx) ∧ w9.drew.cell? ⟨qW, 4, none⟩ = some (.int .i64 t.sf) ∧ w9.drew.cell? ⟨qW, 5, none⟩ = some (.slice A' n c') ∧ w9.drew.cell? ⟨qW, 6, none⟩ = some (.int .i64 t.net) ∧ w9.drew.cell? ⟨qW, 7, none⟩ = some (.int .i64 t.tk) ∧ w9.drew.cell? ⟨qW, 8, none⟩ = some (.int .i64 t.pay) ∧ Below w9.heap.size w9 w9.drew := ⟨k_0, k_1, k_2, k_3, k_4, k_5, k_6, k_7, k_8, D1⟩
            have mk : ∀ V : World, Below w9.heap.size w9 V → V.cell? ⟨qW, 0, none⟩ = some (.int .i64 t.ca) ∧ V.cell? ⟨qW, 1, none⟩ = some (.int .i64 t.tb) ∧ V.cell? ⟨qW, 2, none⟩ = some (.int .i64 t.so) ∧ V.cell? ⟨qW, 3, none⟩ = some (.int .i64 t.tx) ∧ V.cell? ⟨qW, 4, none⟩ = some (.int .i64 t.sf) ∧ V.cell? ⟨qW, 5, none⟩ = some (.slice A' n c') ∧ V.cell? ⟨qW, 6, none⟩ = some (.int .i64 t.net) ∧ V.cell? ⟨qW, 7, none⟩ = some (.int .i64 t.tk) ∧ V.cell? ⟨qW, 8, none⟩ = some (.int .i64 t.pay) ∧ Below w9.heap.size w9 V := fun V hb => ⟨cell_later hb k_0, cell_later hb k_1, cell_later hb k_2, cell_later hb k_3, cell_later hb k_4, cell_later hb k_5, cell_later hb k_6, cell_later hb k_7, cell_later hb k_8, hb⟩
            go_region_held3 (fun X => X.cell? ⟨qW, 0, none⟩ = some (.int .i64 t.ca) ∧ X.cell? ⟨qW, 1, none⟩ = some (.int .i64 t.tb) ∧ X.cell? ⟨qW, 2, none⟩ = some (.int .i64 t.so) ∧ X.cell? ⟨qW, 3, none⟩ = some (.int .i64 t.tx) ∧ X.cell? ⟨qW, 4, none⟩ = some (.int .i64 t.sf) ∧ X.cell? ⟨qW, 5, none⟩ = some (.slice A' n c') ∧ X.cell? ⟨qW, 6, none⟩ = some (.int .i64 t.net) ∧ X.cell? ⟨qW, 7, none⟩ = some (.int .i64 t.tk) ∧ X.cell? ⟨qW, 8, none⟩ = some (.int .i64 t.pay) ∧ Below w9.heap.size w9 X)
              ((first | exact S1 | exact SW2 | exact SW | assumption))
              (first
                | (go_at_call 17; (with_reducible refine cT.mono ?_); rintro e w10 ⟨A2, c2, rfl, hown, hb10⟩; have b10 := below_step D1 hb10 D1.size; have SW := mk w10 b10; have cS := ysame_any t A2 A' n c2 c' w10 (shs_own hown) (hSW.below b10) hn6; clear hown)
                | (go_at_call 13; (with_reducible refine cS.mono ?_); rintro e w11 ⟨rfl, hb11⟩; have b11 := below_step b10 hb11 b10.size; have SW2 := mk w11 b11; have cC := ycount_any (hI.y.below b11))
                | (go_at_call 18; (with_reducible refine cC.mono ?_); rintro e w12 ⟨rfl, hw12⟩; subst hw12))
            all_goals
              rename_i hH
              go_wp2_with fail
              go_meet
              case rel => exact ⟨rfl, rfl, hH.2.2.2.2.2.2.2.2.2⟩
        case rest =>
        obtain ⟨rfl, rfl, hbc⟩ := hcut
        clear k_0 k_1 k_2 k_3 k_4 k_5 k_6 k_7 k_8 cT D1
        replace hI := hI.below hbc
        replace KW := KW.below hbc
        replace hSW := hSW.below hbc
        replace B := below_step B hbc B.size
        replace hAs := hAs.up hbc.size
        clear hbc
        go_wp2
        refine ⟨⟨i + 1, by omega, by go_num, ⟨cnt, g, t, F, A', c', rfl, hI, KW, hSW, hAs⟩, B⟩, ?_⟩
        first | exact meas_step hlt | (rw [hw1]; exact meas_step hlt)

      have e3 : (s.k != (cnt : Int) + 1) = false := by simp [hk]
      cases hr : (t.add s).rB n
      · have hv0 : (10 : Int) ≠ 0 := by decide
        have hvv : pstV s n cnt t = 10 := by unfold pstV; rw [if_neg (by simp [hch0]), if_neg (by simp [hk]), if_pos hr]
        clear hch0 hk
        go_wp2_with (fail)
        generalize (wr.alloc (.cells #[.int .i64 s.k, .int .i64 s.ca, .int .i64 s.tb, .int .i64 s.so, .int .i64 s.tx, .int .i64 s.sf, .slice s.A s.n s.c, .int .i64 s.net, .slice s.T s.m s.d, .int .i64 s.pay] 37)) = wq at *
        with_reducible refine (cW _ hch).mono ?_
        rintro e w6 ⟨rfl, hb⟩
        clear s_0 s_1 s_2 s_3 s_4 s_5 s_6 s_7 s_8 s_9
        replace hI := hI.below hb
        replace KS := KS.below hb
        replace KW := KW.below hb
        replace hSW := hSW.below hb
        replace B := below_step B hb B.size
        replace hAs := hAs.up (hb).size
        clear hb cW
        have hqS : wr.heap.size < w6.heap.size := KS.lt
        have hqW : qW < w6.heap.size := hAs.lt
        have hF6 : ∀ q, F q → q < w6.heap.size := hI.y.lt
        have hqWB := HQWB
        have hA6 : ∀ q, atB A' q → q < w6.heap.size := fun q e => (hAs.a q e).2
        have hqNB : w.heap.size ≤ w6.heap.size := B.size
        generalize wr.heap.size = qS at *
        have KN := bx_new w6 [.int .i64 t.ca, .int .i64 t.tb, .int .i64 t.so, .int .i64 t.tx, .int .i64 t.sf, .slice A' n c', .int .i64 t.net, .int .i64 t.tk, .int .i64 t.pay] 34
        have NN := below_new w6 (.cells #[.int .i64 t.ca, .int .i64 t.tb, .int .i64 t.so, .int .i64 t.tx, .int .i64 t.sf, .slice A' n c', .int .i64 t.net, .int .i64 t.tk, .int .i64 t.pay] 34)
        have y_0 := KW.cell (i := 0) rfl
        have y_1 := KW.cell (i := 1) rfl
        have y_2 := KW.cell (i := 2) rfl
        have y_3 := KW.cell (i := 3) rfl
        have y_4 := KW.cell (i := 4) rfl
        have y_5 := KW.cell (i := 5) rfl
        have y_6 := KW.cell (i := 6) rfl
        have y_7 := KW.cell (i := 7) rfl
        have y_8 := KW.cell (i := 8) rfl
        have k0 := KS.cell (i := 0) rfl
        replace KS := KS.below NN
        have hI6 := hI
        replace KW := KW.below NN
        replace hI := hI.below NN
        replace hSW := hSW.below NN
        replace B := below_step B NN B.size
        replace hAs := hAs.up NN.size
        have hqN : w6.heap.size < (w6.alloc (.cells #[.int .i64 t.ca, .int .i64 t.tb, .int .i64 t.so, .int .i64 t.tx, .int .i64 t.sf, .slice A' n c', .int .i64 t.net, .int .i64 t.tk, .int .i64 t.pay] 34)).heap.size := KN.lt
        clear NN hI6
        have s_0 := KS.cell (i := 0) rfl
        have s_1 := KS.cell (i := 1) rfl
        have s_2 := KS.cell (i := 2) rfl
        have s_3 := KS.cell (i := 3) rfl
        have s_4 := KS.cell (i := 4) rfl
        have s_5 := KS.cell (i := 5) rfl
        have s_6 := KS.cell (i := 6) rfl
        have s_7 := KS.cell (i := 7) rfl
        have s_8 := KS.cell (i := 8) rfl
        have s_9 := KS.cell (i := 9) rfl
        have z_0 := KW.cell (i := 0) rfl
        have z_1 := KW.cell (i := 1) rfl
        have z_2 := KW.cell (i := 2) rfl
        have z_3 := KW.cell (i := 3) rfl
        have z_4 := KW.cell (i := 4) rfl
        have z_5 := KW.cell (i := 5) rfl
        have z_6 := KW.cell (i := 6) rfl
        have z_7 := KW.cell (i := 7) rfl
        have z_8 := KW.cell (i := 8) rfl
        have cSum := lsum_any t A' c' s n (w6.alloc (.cells #[.int .i64 t.ca, .int .i64 t.tb, .int .i64 t.so, .int .i64 t.tx, .int .i64 t.sf, .slice A' n c', .int .i64 t.net, .int .i64 t.tk, .int .i64 t.pay] 34)) hSW (HM0.out.below B) hok HNN.out hsm hI.t
        unfold SumP at cSum
        go_wp2_with (fail)
        generalize (w6.alloc (.cells #[.int .i64 t.ca, .int .i64 t.tb, .int .i64 t.so, .int .i64 t.tx, .int .i64 t.sf, .slice A' n c', .int .i64 t.net, .int .i64 t.tk, .int .i64 t.pay] 34)) = w7 at *
        generalize w6.heap.size = qN at *
        with_reducible refine cSum.mono ?_
        rintro e wS ⟨_, hno, hb⟩
        obtain rfl := hno hr
        clear s_0 s_1 s_2 s_3 s_4 s_5 s_6 s_7 s_8 s_9
        clear y_0 y_1 y_2 y_3 y_4 y_5 y_6 y_7 y_8
        clear z_0 z_1 z_2 z_3 z_4 z_5 z_6 z_7 z_8
        replace hI := hI.below hb
        replace KS := KS.below hb
        replace KW := KW.below hb
        replace hSW := hSW.below hb
        replace B := below_step B hb B.size
        replace hAs := hAs.up (hb).size
        replace KN := KN.below hb
        clear hb k0 cSum hno
        have n_0 := KN.cell (i := 0) rfl
        have nf_0 := KN.fr 0
        have n_1 := KN.cell (i := 1) rfl
        have nf_1 := KN.fr 1
        have n_2 := KN.cell (i := 2) rfl
        have nf_2 := KN.fr 2
        have n_3 := KN.cell (i := 3) rfl
        have nf_3 := KN.fr 3
        have n_4 := KN.cell (i := 4) rfl
        have nf_4 := KN.fr 4
        have n_5 := KN.cell (i := 5) rfl
        have nf_5 := KN.fr 5
        have n_6 := KN.cell (i := 6) rfl
        have nf_6 := KN.fr 6
        have n_7 := KN.cell (i := 7) rfl
        have nf_7 := KN.fr 7
        have n_8 := KN.cell (i := 8) rfl
        have nf_8 := KN.fr 8
        have CN : Chg (fun q => q = qN) wS (stAll wS qN 0 [.int .i64 t.ca, .int .i64 t.tb, .int .i64 t.so, .int .i64 t.tx, .int .i64 t.sf, .slice A' n c', .int .i64 t.net, .int .i64 t.tk, .int .i64 t.pay]) := stAll_chg (F := fun q => q = qN) (p := qN) rfl [.int .i64 t.ca, .int .i64 t.tb, .int .i64 t.so, .int .i64 t.tx, .int .i64 t.sf, .slice A' n c', .int .i64 t.net, .int .i64 t.tk, .int .i64 t.pay] wS 0 (Chg.of (Below.refl _ _))
        have KS2 : Bx (stAll wS qN 0 [.int .i64 t.ca, .int .i64 t.tb, .int .i64 t.so, .int .i64 t.tx, .int .i64 t.sf, .slice A' n c', .int .i64 t.net, .int .i64 t.tk, .int .i64 t.pay]) qS 37 [.int .i64 s.k, .int .i64 s.ca, .int .i64 s.tb, .int .i64 s.so, .int .i64 s.tx, .int .i64 s.sf, .slice s.A s.n s.c, .int .i64 s.net, .slice s.T s.m s.d, .int .i64 s.pay] := stAll_bx KS (Nat.ne_of_lt hqS) _ 0
        have KW2 : Bx (stAll wS qN 0 [.int .i64 t.ca, .int .i64 t.tb, .int .i64 t.so, .int .i64 t.tx, .int .i64 t.sf, .slice A' n c', .int .i64 t.net, .int .i64 t.tk, .int .i64 t.pay]) qW 34 [.int .i64 t.ca, .int .i64 t.tb, .int .i64 t.so, .int .i64 t.tx, .int .i64 t.sf, .slice A' n c', .int .i64 t.net, .int .i64 t.tk, .int .i64 t.pay] := stAll_bx KW (Nat.ne_of_lt hqW) _ 0
        have hI2 : YI (stAll wS qN 0 [.int .i64 t.ca, .int .i64 t.tb, .int .i64 t.so, .int .i64 t.tx, .int .i64 t.sf, .slice A' n c', .int .i64 t.net, .int .i64 t.tk, .int .i64 t.pay]) p n cnt g t F w.heap.size := hI.chg CN (fun q hq e => by
          subst e
          exact absurd (hF6 q hq) (Nat.lt_irrefl _))
        have hSW2 : Shs (stAll wS qN 0 [.int .i64 t.ca, .int .i64 t.tb, .int .i64 t.so, .int .i64 t.tx, .int .i64 t.sf, .slice A' n c', .int .i64 t.net, .int .i64 t.tk, .int .i64 t.pay]) A' n t.X t.Y := shs_blk hSW fun q e => stAll_blk (Nat.ne_of_lt (hA6 q e)) _ _ _
        have B2 := stAll_below (p := qN) hqNB [.int .i64 t.ca, .int .i64 t.tb, .int .i64 t.so, .int .i64 t.tx, .int .i64 t.sf, .slice A' n c', .int .i64 t.net, .int .i64 t.tk, .int .i64 t.pay] wS 0 B
        have hAs2 : Aside (stAll wS qN 0 [.int .i64 t.ca, .int .i64 t.tb, .int .i64 t.so, .int .i64 t.tx, .int .i64 t.sf, .slice A' n c', .int .i64 t.net, .int .i64 t.tk, .int .i64 t.pay]) F qW A' := hAs.up CN.size
        clear KS KW hI hSW B hAs CN KN
        have KS := KS2
        have KW := KW2
        have hI := hI2
        have hSW := hSW2
        have B := B2
        have hAs := hAs2
        clear KS2 KW2 hI2 hSW2 B2 hAs2
        have hWC : (((((((((wS.setCell ⟨qN, 0, none⟩ (.int .i64 t.ca)).setCell ⟨qN, 1, none⟩ (.int .i64 t.tb)).setCell ⟨qN, 2, none⟩ (.int .i64 t.so)).setCell ⟨qN, 3, none⟩ (.int .i64 t.tx)).setCell ⟨qN, 4, none⟩ (.int .i64 t.sf)).setCell ⟨qN, 5, none⟩ (.slice A' n c')).setCell ⟨qN, 6, none⟩ (.int .i64 t.net)).setCell ⟨qN, 7, none⟩ (.int .i64 t.tk)).setCell ⟨qN, 8, none⟩ (.int .i64 t.pay)) = stAll wS qN 0 [.int .i64 t.ca, .int .i64 t.tb, .int .i64 t.so, .int .i64 t.tx, .int .i64 t.sf, .slice A' n c', .int .i64 t.net, .int .i64 t.tk, .int .i64 t.pay] := rfl
        rw [← hWC] at KS KW hI hSW B hAs
        clear hWC
        have s_0 := KS.cell (i := 0) rfl
        have s_1 := KS.cell (i := 1) rfl
        have s_2 := KS.cell (i := 2) rfl
        have s_3 := KS.cell (i := 3) rfl
        have s_4 := KS.cell (i := 4) rfl
        have s_5 := KS.cell (i := 5) rfl
        have s_6 := KS.cell (i := 6) rfl
        have s_7 := KS.cell (i := 7) rfl
        have s_8 := KS.cell (i := 8) rfl
        have s_9 := KS.cell (i := 9) rfl
        go_wp2_with (fail)
        generalize (((((((((wS.setCell ⟨qN, 0, none⟩ (.int .i64 t.ca)).setCell ⟨qN, 1, none⟩ (.int .i64 t.tb)).setCell ⟨qN, 2, none⟩ (.int .i64 t.so)).setCell ⟨qN, 3, none⟩ (.int .i64 t.tx)).setCell ⟨qN, 4, none⟩ (.int .i64 t.sf)).setCell ⟨qN, 5, none⟩ (.slice A' n c')).setCell ⟨qN, 6, none⟩ (.int .i64 t.net)).setCell ⟨qN, 7, none⟩ (.int .i64 t.tk)).setCell ⟨qN, 8, none⟩ (.int .i64 t.pay)) = w7' at *
        with_reducible refine (yt_no hI s (HM0.out.below B) hsn hsm 10 hvv hv0).mono ?_
        rintro e w8 ⟨rfl, hb⟩
        clear s_0 s_1 s_2 s_3 s_4 s_5 s_6 s_7 s_8 s_9
        replace hI := hI.below hb
        replace KS := KS.below hb
        replace KW := KW.below hb
        replace hSW := hSW.below hb
        replace B := below_step B hb B.size
        replace hAs := hAs.up (hb).size
        clear hb
        have KT := bx_new w8 [.int .i64 0, .int .i64 0, .int .i64 0, .int .i64 0, .int .i64 0, .slice none 0 0, .int .i64 0, .int .i64 0, .int .i64 0] 34
        have NT := below_new w8 (.cells #[.int .i64 0, .int .i64 0, .int .i64 0, .int .i64 0, .int .i64 0, .slice none 0 0, .int .i64 0, .int .i64 0, .int .i64 0] 34)
        replace hI := hI.below NT
        replace KS := KS.below NT
        replace KW := KW.below NT
        replace hSW := hSW.below NT
        replace B := below_step B NT B.size
        replace hAs := hAs.up (NT).size
        clear NT
        have t_0 := KT.cell (i := 0) rfl
        have t_1 := KT.cell (i := 1) rfl
        have t_2 := KT.cell (i := 2) rfl
        have t_3 := KT.cell (i := 3) rfl
        have t_4 := KT.cell (i := 4) rfl
        have t_5 := KT.cell (i := 5) rfl
        have t_6 := KT.cell (i := 6) rfl
        have t_7 := KT.cell (i := 7) rfl
        have t_8 := KT.cell (i := 8) rfl
        have s_0 := KS.cell (i := 0) rfl
        have s_1 := KS.cell (i := 1) rfl
        have s_2 := KS.cell (i := 2) rfl
        have s_3 := KS.cell (i := 3) rfl
        have s_4 := KS.cell (i := 4) rfl
        have s_5 := KS.cell (i := 5) rfl
        have s_6 := KS.cell (i := 6) rfl
        have s_7 := KS.cell (i := 7) rfl
        have s_8 := KS.cell (i := 8) rfl
        have s_9 := KS.cell (i := 9) rfl
        go_wp2_with (fail)
        with_reducible refine (same_z _).mono ?_
        rintro e w10 ⟨rfl, hb⟩
        clear t_0 t_1 t_2 t_3 t_4 t_5 t_6 t_7 t_8
        clear s_0 s_1 s_2 s_3 s_4 s_5 s_6 s_7 s_8 s_9
        replace hI := hI.below hb
        replace KS := KS.below hb
        replace KW := KW.below hb
        replace hSW := hSW.below hb
        replace B := below_step B hb B.size
        replace hAs := hAs.up (hb).size
        clear hb KT
        have s_0 := KS.cell (i := 0) rfl
        have s_1 := KS.cell (i := 1) rfl
        have s_2 := KS.cell (i := 2) rfl
        have s_3 := KS.cell (i := 3) rfl
        have s_4 := KS.cell (i := 4) rfl
        have s_5 := KS.cell (i := 5) rfl
        have s_6 := KS.cell (i := 6) rfl
        have s_7 := KS.cell (i := 7) rfl
        have s_8 := KS.cell (i := 8) rfl
        have s_9 := KS.cell (i := 9) rfl
        go_wp2_with (fail)
        with_reducible refine (yp_no hI s (HM0.out.below B) hsn hsm 10 hvv hv0).mono ?_
        rintro e w9 ⟨rfl, hb⟩
        clear s_0 s_1 s_2 s_3 s_4 s_5 s_6 s_7 s_8 s_9
        replace hI := hI.below hb
        replace KS := KS.below hb
        replace KW := KW.below hb
        replace hSW := hSW.below hb
        replace B := below_step B hb B.size
        replace hAs := hAs.up (hb).size
        clear hb KS hvv
        go_wp2
        have D1 : Below w9.heap.size w9 w9.drew := (Below.refl _ _).drew
        have cT := ytotals_any (hI.y.below D1) HNN.out
        unfold YtP at cT
        have k_0 := KW.cell (i := 0) rfl
        have k_1 := KW.cell (i := 1) rfl
        have k_2 := KW.cell (i := 2) rfl
        have k_3 := KW.cell (i := 3) rfl
        have k_4 := KW.cell (i := 4) rfl
        have k_5 := KW.cell (i := 5) rfl
        have k_6 := KW.cell (i := 6) rfl
        have k_7 := KW.cell (i := 7) rfl
        have k_8 := KW.cell (i := 8) rfl
        go_cut [50, 140] from 50 to 141 (fun s50 s140 wx => s50 = .int .i64 (i : Int) ∧ s140 = .bool false ∧ Below w9.heap.size w9 wx)
        case first =>
          as_aux_lemma =>
            have S1 : w9.drew.cell? ⟨qW, 0, none⟩ = some (.int .i64 t.ca) ∧ w9.drew.cell? ⟨qW, 1, none⟩ = some (.int .i64 t.tb) ∧ w9.drew.cell? ⟨qW, 2, none⟩ = some (.int .i64 t.so) ∧ w9.drew.cell? ⟨qW, 3, none⟩ = some (.int .i64 t.tx) ∧ w9.drew.cell? ⟨qW, 4, none⟩ = some (.int .i64 t.sf) ∧ w9.drew.cell? ⟨qW, 5, none⟩ = some (.slice A' n c') ∧ w9.drew.cell? ⟨qW, 6, none⟩ = some (.int .i64 t.net) ∧ w9.drew.cell? ⟨qW, 7, none⟩ = some (.int .i64 t.tk) ∧ w9.drew.cell? ⟨qW, 8, none⟩ = some (.int .i64 t.pay) ∧ Below w9.heap.size w9 w9.drew := ⟨k_0, k_1, k_2, k_3, k_4, k_5, k_6, k_7, k_8, D1⟩
            have mk : ∀ V : World, Below w9.heap.size w9 V → V.cell? ⟨qW, 0, none⟩ = some (.int .i64 t.ca) ∧ V.cell? ⟨qW, 1, none⟩ = some (.int .i64 t.tb) ∧ V.cell? ⟨qW, 2, none⟩ = some (.int .i64 t.so) ∧ V.cell? ⟨qW, 3, none⟩ = some (.int .i64 t.tx) ∧ V.cell? ⟨qW, 4, none⟩ = some (.int .i64 t.sf) ∧ V.cell? ⟨qW, 5, none⟩ = some (.slice A' n c') ∧ V.cell? ⟨qW, 6, none⟩ = some (.int .i64 t.net) ∧ V.cell? ⟨qW, 7, none⟩ = some (.int .i64 t.tk) ∧ V.cell? ⟨qW, 8, none⟩ = some (.int .i64 t.pay) ∧ Below w9.heap.size w9 V := fun V hb => ⟨cell_later hb k_0, cell_later hb k_1, cell_later hb k_2, cell_later hb k_3, cell_later hb k_4, cell_later hb k_5, cell_later hb k_6, cell_later hb k_7, cell_later hb k_8, hb⟩
            go_region_held3 (fun X => X.cell? ⟨qW, 0, none⟩ = some (.int .i64 t.ca) ∧ X.cell? ⟨qW, 1, none⟩ = some (.int .i64 t.tb) ∧ X.cell? ⟨qW, 2, none⟩ = some (.int .i64 t.so) ∧ X.cell? ⟨qW, 3, none⟩ = some (.int .i64 t.tx) ∧ X.cell? ⟨qW, 4, none⟩ = some (.int .i64 t.sf) ∧ X.cell? ⟨qW, 5, none⟩ = some (.slice A' n c') ∧ X.cell? ⟨qW, 6, none⟩ = some (.int .i64 t.net) ∧ X.cell? ⟨qW, 7, none⟩ = some (.int .i64 t.tk) ∧ X.cell? ⟨qW, 8, none⟩ = some (.int .i64 t.pay) ∧ Below w9.heap.size w9 X)
              ((first | exact S1 | exact SW2 | exact SW | assumption))
              (first
                | (go_at_call 17; (with_reducible refine cT.mono ?_); rintro e w10 ⟨A2, c2, rfl, hown, hb10⟩; have b10 := below_step D1 hb10 D1.size; have SW := mk w10 b10; have cS := ysame_any t A2 A' n c2 c' w10 (shs_own hown) (hSW.below b10) hn6; clear hown)
                | (go_at_call 13; (with_reducible refine cS.mono ?_); rintro e w11 ⟨rfl, hb11⟩; have b11 := below_step b10 hb11 b10.size; have SW2 := mk w11 b11; have cC := ycount_any (hI.y.below b11))
                | (go_at_call 18; (with_reducible refine cC.mono ?_); rintro e w12 ⟨rfl, hw12⟩; subst hw12))
            all_goals
              rename_i hH
              go_wp2_with fail
              go_meet
              case rel => exact ⟨rfl, rfl, hH.2.2.2.2.2.2.2.2.2⟩
        case rest =>
        obtain ⟨rfl, rfl, hbc⟩ := hcut
        clear k_0 k_1 k_2 k_3 k_4 k_5 k_6 k_7 k_8 cT D1
        replace hI := hI.below hbc
        replace KW := KW.below hbc
        replace hSW := hSW.below hbc
        replace B := below_step B hbc B.size
        replace hAs := hAs.up hbc.size
        clear hbc
        go_wp2
        refine ⟨⟨i + 1, by omega, by go_num, ⟨cnt, g, t, F, A', c', rfl, hI, KW, hSW, hAs⟩, B⟩, ?_⟩
        first | exact meas_step hlt | (rw [hw1]; exact meas_step hlt)

      · have hv : pstV s n cnt t = 0 := by unfold pstV; rw [if_neg (by simp [hch0]), if_neg (by simp [hk]), if_neg (by simp [hr])]
        have HK := Lib.hid hk
        clear hch0 hk
        go_wp2_with (fail)
        generalize (wr.alloc (.cells #[.int .i64 s.k, .int .i64 s.ca, .int .i64 s.tb, .int .i64 s.so, .int .i64 s.tx, .int .i64 s.sf, .slice s.A s.n s.c, .int .i64 s.net, .slice s.T s.m s.d, .int .i64 s.pay] 37)) = wq at *
        with_reducible refine (cW _ hch).mono ?_
        rintro e w6 ⟨rfl, hb⟩
        clear s_0 s_1 s_2 s_3 s_4 s_5 s_6 s_7 s_8 s_9
        replace hI := hI.below hb
        replace KS := KS.below hb
        replace KW := KW.below hb
        replace hSW := hSW.below hb
        replace B := below_step B hb B.size
        replace hAs := hAs.up (hb).size
        clear hb cW
        have hqS : wr.heap.size < w6.heap.size := KS.lt
        have hqW : qW < w6.heap.size := hAs.lt
        have hF6 : ∀ q, F q → q < w6.heap.size := hI.y.lt
        have hqWB := HQWB
        have hA6 : ∀ q, atB A' q → q < w6.heap.size := fun q e => (hAs.a q e).2
        have hqNB : w.heap.size ≤ w6.heap.size := B.size
        generalize wr.heap.size = qS at *
        have KN := bx_new w6 [.int .i64 t.ca, .int .i64 t.tb, .int .i64 t.so, .int .i64 t.tx, .int .i64 t.sf, .slice A' n c', .int .i64 t.net, .int .i64 t.tk, .int .i64 t.pay] 34
        have NN := below_new w6 (.cells #[.int .i64 t.ca, .int .i64 t.tb, .int .i64 t.so, .int .i64 t.tx, .int .i64 t.sf, .slice A' n c', .int .i64 t.net, .int .i64 t.tk, .int .i64 t.pay] 34)
        have y_0 := KW.cell (i := 0) rfl
        have y_1 := KW.cell (i := 1) rfl
        have y_2 := KW.cell (i := 2) rfl
        have y_3 := KW.cell (i := 3) rfl
        have y_4 := KW.cell (i := 4) rfl
        have y_5 := KW.cell (i := 5) rfl
        have y_6 := KW.cell (i := 6) rfl
        have y_7 := KW.cell (i := 7) rfl
        have y_8 := KW.cell (i := 8) rfl
        have k0 := KS.cell (i := 0) rfl
        replace KS := KS.below NN
        have hI6 := hI
        replace KW := KW.below NN
        replace hI := hI.below NN
        replace hSW := hSW.below NN
        replace B := below_step B NN B.size
        replace hAs := hAs.up NN.size
        have hqN : w6.heap.size < (w6.alloc (.cells #[.int .i64 t.ca, .int .i64 t.tb, .int .i64 t.so, .int .i64 t.tx, .int .i64 t.sf, .slice A' n c', .int .i64 t.net, .int .i64 t.tk, .int .i64 t.pay] 34)).heap.size := KN.lt
        clear NN hI6
        have s_0 := KS.cell (i := 0) rfl
        have s_1 := KS.cell (i := 1) rfl
        have s_2 := KS.cell (i := 2) rfl
        have s_3 := KS.cell (i := 3) rfl
        have s_4 := KS.cell (i := 4) rfl
        have s_5 := KS.cell (i := 5) rfl
        have s_6 := KS.cell (i := 6) rfl
        have s_7 := KS.cell (i := 7) rfl
        have s_8 := KS.cell (i := 8) rfl
        have s_9 := KS.cell (i := 9) rfl
        have z_0 := KW.cell (i := 0) rfl
        have z_1 := KW.cell (i := 1) rfl
        have z_2 := KW.cell (i := 2) rfl
        have z_3 := KW.cell (i := 3) rfl
        have z_4 := KW.cell (i := 4) rfl
        have z_5 := KW.cell (i := 5) rfl
        have z_6 := KW.cell (i := 6) rfl
        have z_7 := KW.cell (i := 7) rfl
        have z_8 := KW.cell (i := 8) rfl
        have cSum := lsum_any t A' c' s n (w6.alloc (.cells #[.int .i64 t.ca, .int .i64 t.tb, .int .i64 t.so, .int .i64 t.tx, .int .i64 t.sf, .slice A' n c', .int .i64 t.net, .int .i64 t.tk, .int .i64 t.pay] 34)) hSW (HM0.out.below B) hok HNN.out hsm hI.t
        unfold SumP at cSum
        go_wp2_with (fail)
        generalize (w6.alloc (.cells #[.int .i64 t.ca, .int .i64 t.tb, .int .i64 t.so, .int .i64 t.tx, .int .i64 t.sf, .slice A' n c', .int .i64 t.net, .int .i64 t.tk, .int .i64 t.pay] 34)) = w7 at *
        generalize w6.heap.size = qN at *
        with_reducible refine cSum.mono ?_
        rintro e wS ⟨hye, _, hb⟩
        obtain ⟨A3, c3, rfl, hO3⟩ := hye hr
        clear s_0 s_1 s_2 s_3 s_4 s_5 s_6 s_7 s_8 s_9
        clear y_0 y_1 y_2 y_3 y_4 y_5 y_6 y_7 y_8
        clear z_0 z_1 z_2 z_3 z_4 z_5 z_6 z_7 z_8
        replace hI := hI.below hb
        replace KS := KS.below hb
        replace KW := KW.below hb
        replace B := below_step B hb B.size
        replace hAs := hAs.up (hb).size
        replace KN := KN.below hb
        clear hb k0 cSum hye hSW
        have n_0 := KN.cell (i := 0) rfl
        have nf_0 := KN.fr 0
        have n_1 := KN.cell (i := 1) rfl
        have nf_1 := KN.fr 1
        have n_2 := KN.cell (i := 2) rfl
        have nf_2 := KN.fr 2
        have n_3 := KN.cell (i := 3) rfl
        have nf_3 := KN.fr 3
        have n_4 := KN.cell (i := 4) rfl
        have nf_4 := KN.fr 4
        have n_5 := KN.cell (i := 5) rfl
        have nf_5 := KN.fr 5
        have n_6 := KN.cell (i := 6) rfl
        have nf_6 := KN.fr 6
        have n_7 := KN.cell (i := 7) rfl
        have nf_7 := KN.fr 7
        have n_8 := KN.cell (i := 8) rfl
        have nf_8 := KN.fr 8
        have CN : Chg (fun q => q = qN) wS (stAll wS qN 0 [.int .i64 (t.add s).ca, .int .i64 (t.add s).tb, .int .i64 (t.add s).so, .int .i64 (t.add s).tx, .int .i64 (t.add s).sf, .slice A3 n c3, .int .i64 (t.add s).net, .int .i64 (t.add s).tk, .int .i64 (t.add s).pay]) := stAll_chg (F := fun q => q = qN) (p := qN) rfl [.int .i64 (t.add s).ca, .int .i64 (t.add s).tb, .int .i64 (t.add s).so, .int .i64 (t.add s).tx, .int .i64 (t.add s).sf, .slice A3 n c3, .int .i64 (t.add s).net, .int .i64 (t.add s).tk, .int .i64 (t.add s).pay] wS 0 (Chg.of (Below.refl _ _))
        have KS2 : Bx (stAll wS qN 0 [.int .i64 (t.add s).ca, .int .i64 (t.add s).tb, .int .i64 (t.add s).so, .int .i64 (t.add s).tx, .int .i64 (t.add s).sf, .slice A3 n c3, .int .i64 (t.add s).net, .int .i64 (t.add s).tk, .int .i64 (t.add s).pay]) qS 37 [.int .i64 s.k, .int .i64 s.ca, .int .i64 s.tb, .int .i64 s.so, .int .i64 s.tx, .int .i64 s.sf, .slice s.A s.n s.c, .int .i64 s.net, .slice s.T s.m s.d, .int .i64 s.pay] := stAll_bx KS (Nat.ne_of_lt hqS) _ 0
        have KW2 : Bx (stAll wS qN 0 [.int .i64 (t.add s).ca, .int .i64 (t.add s).tb, .int .i64 (t.add s).so, .int .i64 (t.add s).tx, .int .i64 (t.add s).sf, .slice A3 n c3, .int .i64 (t.add s).net, .int .i64 (t.add s).tk, .int .i64 (t.add s).pay]) qW 34 [.int .i64 t.ca, .int .i64 t.tb, .int .i64 t.so, .int .i64 t.tx, .int .i64 t.sf, .slice A' n c', .int .i64 t.net, .int .i64 t.tk, .int .i64 t.pay] := stAll_bx KW (Nat.ne_of_lt hqW) _ 0
        have KN2 : Bx (stAll wS qN 0 [.int .i64 (t.add s).ca, .int .i64 (t.add s).tb, .int .i64 (t.add s).so, .int .i64 (t.add s).tx, .int .i64 (t.add s).sf, .slice A3 n c3, .int .i64 (t.add s).net, .int .i64 (t.add s).tk, .int .i64 (t.add s).pay]) qN 34 [.int .i64 (t.add s).ca, .int .i64 (t.add s).tb, .int .i64 (t.add s).so, .int .i64 (t.add s).tx, .int .i64 (t.add s).sf, .slice A3 n c3, .int .i64 (t.add s).net, .int .i64 (t.add s).tk, .int .i64 (t.add s).pay] := stAll_self KN _ rfl
        have hI2 : YI (stAll wS qN 0 [.int .i64 (t.add s).ca, .int .i64 (t.add s).tb, .int .i64 (t.add s).so, .int .i64 (t.add s).tx, .int .i64 (t.add s).sf, .slice A3 n c3, .int .i64 (t.add s).net, .int .i64 (t.add s).tk, .int .i64 (t.add s).pay]) p n cnt g t F w.heap.size := hI.chg CN (fun q hq e => by
          subst e
          exact absurd (hF6 q hq) (Nat.lt_irrefl _))
        have hO32 : (stAll wS qN 0 [.int .i64 (t.add s).ca, .int .i64 (t.add s).tb, .int .i64 (t.add s).so, .int .i64 (t.add s).tx, .int .i64 (t.add s).sf, .slice A3 n c3, .int .i64 (t.add s).net, .int .i64 (t.add s).tk, .int .i64 (t.add s).pay]).ownsRow w7.heap.size 53 2 (.slice A3 n c3) n (sh2 (t.add s).X (t.add s).Y n) := own_blk hO3 (fun q e => stAll_blk (Nat.ne_of_gt (Nat.lt_of_lt_of_le hqN (hO3.lt q e).1)) _ _ _)
        have B2 := stAll_below (p := qN) hqNB [.int .i64 (t.add s).ca, .int .i64 (t.add s).tb, .int .i64 (t.add s).so, .int .i64 (t.add s).tx, .int .i64 (t.add s).sf, .slice A3 n c3, .int .i64 (t.add s).net, .int .i64 (t.add s).tk, .int .i64 (t.add s).pay] wS 0 B
        have hAs2 : Aside (stAll wS qN 0 [.int .i64 (t.add s).ca, .int .i64 (t.add s).tb, .int .i64 (t.add s).so, .int .i64 (t.add s).tx, .int .i64 (t.add s).sf, .slice A3 n c3, .int .i64 (t.add s).net, .int .i64 (t.add s).tk, .int .i64 (t.add s).pay]) F qW A' := hAs.up CN.size
        clear KS KW hI B hAs CN KN hO3
        have KS := KS2
        have KW := KW2
        have KN := KN2
        have hI := hI2
        have hO3 := hO32
        have B := B2
        have hAs := hAs2
        clear KS2 KW2 KN2 hI2 hO32 B2 hAs2
        have hWC : (((((((((wS.setCell ⟨qN, 0, none⟩ (.int .i64 (t.add s).ca)).setCell ⟨qN, 1, none⟩ (.int .i64 (t.add s).tb)).setCell ⟨qN, 2, none⟩ (.int .i64 (t.add s).so)).setCell ⟨qN, 3, none⟩ (.int .i64 (t.add s).tx)).setCell ⟨qN, 4, none⟩ (.int .i64 (t.add s).sf)).setCell ⟨qN, 5, none⟩ (.slice A3 n c3)).setCell ⟨qN, 6, none⟩ (.int .i64 (t.add s).net)).setCell ⟨qN, 7, none⟩ (.int .i64 (t.add s).tk)).setCell ⟨qN, 8, none⟩ (.int .i64 (t.add s).pay)) = stAll wS qN 0 [.int .i64 (t.add s).ca, .int .i64 (t.add s).tb, .int .i64 (t.add s).so, .int .i64 (t.add s).tx, .int .i64 (t.add s).sf, .slice A3 n c3, .int .i64 (t.add s).net, .int .i64 (t.add s).tk, .int .i64 (t.add s).pay] := rfl
        rw [← hWC] at KS KW KN hI hO3 B hAs
        clear hWC
        have s_0 := KS.cell (i := 0) rfl
        have s_1 := KS.cell (i := 1) rfl
        have s_2 := KS.cell (i := 2) rfl
        have s_3 := KS.cell (i := 3) rfl
        have s_4 := KS.cell (i := 4) rfl
        have s_5 := KS.cell (i := 5) rfl
        have s_6 := KS.cell (i := 6) rfl
        have s_7 := KS.cell (i := 7) rfl
        have s_8 := KS.cell (i := 8) rfl
        have s_9 := KS.cell (i := 9) rfl
        go_wp2_with (fail)
        generalize (((((((((wS.setCell ⟨qN, 0, none⟩ (.int .i64 (t.add s).ca)).setCell ⟨qN, 1, none⟩ (.int .i64 (t.add s).tb)).setCell ⟨qN, 2, none⟩ (.int .i64 (t.add s).so)).setCell ⟨qN, 3, none⟩ (.int .i64 (t.add s).tx)).setCell ⟨qN, 4, none⟩ (.int .i64 (t.add s).sf)).setCell ⟨qN, 5, none⟩ (.slice A3 n c3)).setCell ⟨qN, 6, none⟩ (.int .i64 (t.add s).net)).setCell ⟨qN, 7, none⟩ (.int .i64 (t.add s).tk)).setCell ⟨qN, 8, none⟩ (.int .i64 (t.add s).pay)) = w8 at *
        with_reducible refine (ytry_ok hI.y s (HM0.out.below B) HNN.out hsn hsm hcnt hok HK.out hI.t hr).mono ?_
        rintro e w9 ⟨bq, rfl, hbq, hSq, hb⟩
        clear s_0 s_1 s_2 s_3 s_4 s_5 s_6 s_7 s_8 s_9
        clear n_0 n_1 n_2 n_3 n_4 n_5 n_6 n_7 n_8 nf_0 nf_1 nf_2 nf_3 nf_4 nf_5 nf_6 nf_7 nf_8
        replace hI := hI.below hb
        replace KS := KS.below hb
        replace KW := KW.below hb
        replace B := below_step B hb B.size
        replace hAs := hAs.up (hb).size
        replace KN := KN.below hb
        replace hO3 := own_below hO3 hb
        clear hb
        have KT := bx_new w9 [.int .i64 (t.add s).ca, .int .i64 (t.add s).tb, .int .i64 (t.add s).so, .int .i64 (t.add s).tx, .int .i64 (t.add s).sf, .slice (some ⟨bq, 0, none⟩) n n, .int .i64 (t.add s).net, .int .i64 (t.add s).tk, .int .i64 (t.add s).pay] 34
        have NT := below_new w9 (.cells #[.int .i64 (t.add s).ca, .int .i64 (t.add s).tb, .int .i64 (t.add s).so, .int .i64 (t.add s).tx, .int .i64 (t.add s).sf, .slice (some ⟨bq, 0, none⟩) n n, .int .i64 (t.add s).net, .int .i64 (t.add s).tk, .int .i64 (t.add s).pay] 34)
        replace hI := hI.below NT
        replace KS := KS.below NT
        replace KW := KW.below NT
        replace B := below_step B NT B.size
        replace hAs := hAs.up (NT).size
        replace KN := KN.below NT
        replace hO3 := own_below hO3 NT
        replace hSq := hSq.below NT
        clear NT
        have t_0 := KT.cell (i := 0) rfl
        have t_1 := KT.cell (i := 1) rfl
        have t_2 := KT.cell (i := 2) rfl
        have t_3 := KT.cell (i := 3) rfl
        have t_4 := KT.cell (i := 4) rfl
        have t_5 := KT.cell (i := 5) rfl
        have t_6 := KT.cell (i := 6) rfl
        have t_7 := KT.cell (i := 7) rfl
        have t_8 := KT.cell (i := 8) rfl
        have n_0 := KN.cell (i := 0) rfl
        have n_1 := KN.cell (i := 1) rfl
        have n_2 := KN.cell (i := 2) rfl
        have n_3 := KN.cell (i := 3) rfl
        have n_4 := KN.cell (i := 4) rfl
        have n_5 := KN.cell (i := 5) rfl
        have n_6 := KN.cell (i := 6) rfl
        have n_7 := KN.cell (i := 7) rfl
        have n_8 := KN.cell (i := 8) rfl
        go_wp2_with (fail)
        generalize (w9.alloc (.cells #[.int .i64 (t.add s).ca, .int .i64 (t.add s).tb, .int .i64 (t.add s).so, .int .i64 (t.add s).tx, .int .i64 (t.add s).sf, .slice (some ⟨bq, 0, none⟩) n n, .int .i64 (t.add s).net, .int .i64 (t.add s).tk, .int .i64 (t.add s).pay] 34)) = w10 at *
        with_reducible refine (ysame_any (t.add s) (some ⟨bq, 0, none⟩) A3 n n c3 _ hSq.shs (shs_own hO3) hn6).mono ?_
        rintro e w11 ⟨rfl, hb⟩
        clear t_0 t_1 t_2 t_3 t_4 t_5 t_6 t_7 t_8
        clear n_0 n_1 n_2 n_3 n_4 n_5 n_6 n_7 n_8
        replace hI := hI.below hb
        replace KS := KS.below hb
        replace KW := KW.below hb
        replace B := below_step B hb B.size
        replace hAs := hAs.up (hb).size
        replace KN := KN.below hb
        replace hO3 := own_below hO3 hb
        clear hb KT hSq hbq
        have s_0 := KS.cell (i := 0) rfl
        have s_1 := KS.cell (i := 1) rfl
        have s_2 := KS.cell (i := 2) rfl
        have s_3 := KS.cell (i := 3) rfl
        have s_4 := KS.cell (i := 4) rfl
        have s_5 := KS.cell (i := 5) rfl
        have s_6 := KS.cell (i := 6) rfl
        have s_7 := KS.cell (i := 7) rfl
        have s_8 := KS.cell (i := 8) rfl
        have s_9 := KS.cell (i := 9) rfl
        go_wp2_with (fail)
        with_reducible refine (yp_ok hI B.size s (HM0.out.below B) hsn hsm hv).mono ?_
        rintro e w12 hP
        unfold YkP at hP
        obtain ⟨g', F', rfl, hI2, ⟨Ax, cx, Tx, dx, hmv⟩, _, hF', hC⟩ := hP
        clear s_0 s_1 s_2 s_3 s_4 s_5 s_6 s_7 s_8 s_9
        have hnS : ∀ q, qS ≤ q → ¬ F q := fun q hq f => absurd (hFS q f) (Nat.not_lt_of_le hq)
        have KS2 := KS.of_block (hC.block _ KS.lt (hnS _ (Nat.le_refl _)))
        have KW2 := KW.of_block (hC.block _ KW.lt hAs.nf)
        have KN2 := KN.of_block (hC.block _ KN.lt (hnS _ (Nat.le_of_lt hqS)))
        have hO32 := own_blk hO3 (fun q e => hC.block q (hO3.lt q e).2 (hnS q (Nat.le_trans (Nat.le_of_lt (Nat.lt_trans hqS hqN)) (hO3.lt q e).1)))
        have B2 := hC.below B B.size hI.lo
        have hAs2 : Aside w12 F' qW A3 := ⟨fun f => (hF' qW f).elim hAs.nf (fun h => absurd hAs.lt (Nat.not_lt_of_le h)), Nat.lt_of_lt_of_le hAs.lt hC.size, fun j hj => ⟨fun f => (hF' j f).elim (hnS j (Nat.le_trans (Nat.le_of_lt (Nat.lt_trans hqS hqN)) (hO3.lt j (ob_at hj)).1)) (fun h => absurd (hO3.lt j (ob_at hj)).2 (Nat.not_lt_of_le h)), Nat.lt_of_lt_of_le (hO3.lt j (ob_at hj)).2 hC.size⟩⟩
        clear KS KW KN hO3 B hAs hI hC hnS hF' hFS hok
        have n_0 := KN2.cell (i := 0) rfl
        have n_1 := KN2.cell (i := 1) rfl
        have n_2 := KN2.cell (i := 2) rfl
        have n_3 := KN2.cell (i := 3) rfl
        have n_4 := KN2.cell (i := 4) rfl
        have n_5 := KN2.cell (i := 5) rfl
        have n_6 := KN2.cell (i := 6) rfl
        have n_7 := KN2.cell (i := 7) rfl
        have n_8 := KN2.cell (i := 8) rfl
        have y_0 := KW2.cell (i := 0) rfl
        have yf_0 := KW2.fr 0
        have y_1 := KW2.cell (i := 1) rfl
        have yf_1 := KW2.fr 1
        have y_2 := KW2.cell (i := 2) rfl
        have yf_2 := KW2.fr 2
        have y_3 := KW2.cell (i := 3) rfl
        have yf_3 := KW2.fr 3
        have y_4 := KW2.cell (i := 4) rfl
        have yf_4 := KW2.fr 4
        have y_5 := KW2.cell (i := 5) rfl
        have yf_5 := KW2.fr 5
        have y_6 := KW2.cell (i := 6) rfl
        have yf_6 := KW2.fr 6
        have y_7 := KW2.cell (i := 7) rfl
        have yf_7 := KW2.fr 7
        have y_8 := KW2.cell (i := 8) rfl
        have yf_8 := KW2.fr 8
        have hWC : (((((((((w12.setCell ⟨qW, 0, none⟩ (.int .i64 (t.add s).ca)).setCell ⟨qW, 1, none⟩ (.int .i64 (t.add s).tb)).setCell ⟨qW, 2, none⟩ (.int .i64 (t.add s).so)).setCell ⟨qW, 3, none⟩ (.int .i64 (t.add s).tx)).setCell ⟨qW, 4, none⟩ (.int .i64 (t.add s).sf)).setCell ⟨qW, 5, none⟩ (.slice A3 n c3)).setCell ⟨qW, 6, none⟩ (.int .i64 (t.add s).net)).setCell ⟨qW, 7, none⟩ (.int .i64 (t.add s).tk)).setCell ⟨qW, 8, none⟩ (.int .i64 (t.add s).pay)) = stAll w12 qW 0 [.int .i64 (t.add s).ca, .int .i64 (t.add s).tb, .int .i64 (t.add s).so, .int .i64 (t.add s).tx, .int .i64 (t.add s).sf, .slice A3 n c3, .int .i64 (t.add s).net, .int .i64 (t.add s).tk, .int .i64 (t.add s).pay] := rfl
        have hqW12 := hAs2.lt
        have CW : Chg (fun q => q = qW) w12 (stAll w12 qW 0 [.int .i64 (t.add s).ca, .int .i64 (t.add s).tb, .int .i64 (t.add s).so, .int .i64 (t.add s).tx, .int .i64 (t.add s).sf, .slice A3 n c3, .int .i64 (t.add s).net, .int .i64 (t.add s).tk, .int .i64 (t.add s).pay]) := stAll_chg (F := fun q => q = qW) (p := qW) rfl [.int .i64 (t.add s).ca, .int .i64 (t.add s).tb, .int .i64 (t.add s).so, .int .i64 (t.add s).tx, .int .i64 (t.add s).sf, .slice A3 n c3, .int .i64 (t.add s).net, .int .i64 (t.add s).tk, .int .i64 (t.add s).pay] w12 0 (Chg.of (Below.refl _ _))
        have KS := stAll_bx KS2 (Nat.ne_of_gt hqWS) [.int .i64 (t.add s).ca, .int .i64 (t.add s).tb, .int .i64 (t.add s).so, .int .i64 (t.add s).tx, .int .i64 (t.add s).sf, .slice A3 n c3, .int .i64 (t.add s).net, .int .i64 (t.add s).tk, .int .i64 (t.add s).pay] 0
        have KW : Bx (stAll w12 qW 0 [.int .i64 (t.add s).ca, .int .i64 (t.add s).tb, .int .i64 (t.add s).so, .int .i64 (t.add s).tx, .int .i64 (t.add s).sf, .slice A3 n c3, .int .i64 (t.add s).net, .int .i64 (t.add s).tk, .int .i64 (t.add s).pay]) qW 34 [.int .i64 (t.add s).ca, .int .i64 (t.add s).tb, .int .i64 (t.add s).so, .int .i64 (t.add s).tx, .int .i64 (t.add s).sf, .slice A3 n c3, .int .i64 (t.add s).net, .int .i64 (t.add s).tk, .int .i64 (t.add s).pay] := stAll_self KW2 _ rfl
        have hO3 : (stAll w12 qW 0 [.int .i64 (t.add s).ca, .int .i64 (t.add s).tb, .int .i64 (t.add s).so, .int .i64 (t.add s).tx, .int .i64 (t.add s).sf, .slice A3 n c3, .int .i64 (t.add s).net, .int .i64 (t.add s).tk, .int .i64 (t.add s).pay]).ownsRow w7.heap.size 53 2 (.slice A3 n c3) n (sh2 (t.add s).X (t.add s).Y n) := own_blk hO32 (fun q e => stAll_blk (Nat.ne_of_gt (Nat.lt_of_lt_of_le (Nat.lt_trans hqW hqN) (hO32.lt q e).1)) _ _ _)
        have hI := hI2.chg CW (fun q f e => by subst e; exact hAs2.nf f)
        have B := stAll_below (p := qW) (by have := hqWB.out; omega) [.int .i64 (t.add s).ca, .int .i64 (t.add s).tb, .int .i64 (t.add s).so, .int .i64 (t.add s).tx, .int .i64 (t.add s).sf, .slice A3 n c3, .int .i64 (t.add s).net, .int .i64 (t.add s).tk, .int .i64 (t.add s).pay] w12 0 B2
        have hAs := hAs2.up CW.size
        rw [← hWC] at KS KW hI hO3 B hAs
        have cSl : Calls Try.prog 15 #[.pointer (some ⟨p, 0, none⟩), .int .i64 ((cnt : Int) + 1)] (((((((((w12.setCell ⟨qW, 0, none⟩ (.int .i64 (t.add s).ca)).setCell ⟨qW, 1, none⟩ (.int .i64 (t.add s).tb)).setCell ⟨qW, 2, none⟩ (.int .i64 (t.add s).so)).setCell ⟨qW, 3, none⟩ (.int .i64 (t.add s).tx)).setCell ⟨qW, 4, none⟩ (.int .i64 (t.add s).sf)).setCell ⟨qW, 5, none⟩ (.slice A3 n c3)).setCell ⟨qW, 6, none⟩ (.int .i64 (t.add s).net)).setCell ⟨qW, 7, none⟩ (.int .i64 (t.add s).tk)).setCell ⟨qW, 8, none⟩ (.int .i64 (t.add s).pay)) (YsP s (((((((((w12.setCell ⟨qW, 0, none⟩ (.int .i64 (t.add s).ca)).setCell ⟨qW, 1, none⟩ (.int .i64 (t.add s).tb)).setCell ⟨qW, 2, none⟩ (.int .i64 (t.add s).so)).setCell ⟨qW, 3, none⟩ (.int .i64 (t.add s).tx)).setCell ⟨qW, 4, none⟩ (.int .i64 (t.add s).sf)).setCell ⟨qW, 5, none⟩ (.slice A3 n c3)).setCell ⟨qW, 6, none⟩ (.int .i64 (t.add s).net)).setCell ⟨qW, 7, none⟩ (.int .i64 (t.add s).tk)).setCell ⟨qW, 8, none⟩ (.int .i64 (t.add s).pay))) := by
          have := yslip_ok hI.y hI.szs cnt (Nat.lt_succ_self _) (Nat.le_trans hI.cb (by decide))
          rw [hmv] at this
          exact this
        unfold YsP at cSl
        clear hI2 KS2 KW2 KN2 hO32 B2 hAs2 CW hWC hmv hqW12
        go_wp2_with (fail)
        generalize (((((((((w12.setCell ⟨qW, 0, none⟩ (.int .i64 (t.add s).ca)).setCell ⟨qW, 1, none⟩ (.int .i64 (t.add s).tb)).setCell ⟨qW, 2, none⟩ (.int .i64 (t.add s).so)).setCell ⟨qW, 3, none⟩ (.int .i64 (t.add s).tx)).setCell ⟨qW, 4, none⟩ (.int .i64 (t.add s).sf)).setCell ⟨qW, 5, none⟩ (.slice A3 n c3)).setCell ⟨qW, 6, none⟩ (.int .i64 (t.add s).net)).setCell ⟨qW, 7, none⟩ (.int .i64 (t.add s).tk)).setCell ⟨qW, 8, none⟩ (.int .i64 (t.add s).pay)) = w13 at *
        with_reducible refine cSl.mono ?_
        rintro e w14 ⟨A5, c5, T5, d5, rfl, hO5, hO6, hne5, hb⟩
        clear n_0 n_1 n_2 n_3 n_4 n_5 n_6 n_7 n_8
        clear y_0 y_1 y_2 y_3 y_4 y_5 y_6 y_7 y_8 yf_0 yf_1 yf_2 yf_3 yf_4 yf_5 yf_6 yf_7 yf_8
        replace hI := hI.below hb
        replace KS := KS.below hb
        replace KW := KW.below hb
        replace B := below_step B hb B.size
        replace hAs := hAs.up (hb).size
        replace hO3 := own_below hO3 hb
        clear hb cSl hne5
        have K5 := bx_new w14 [.int .i64 s.k, .int .i64 s.ca, .int .i64 s.tb, .int .i64 s.so, .int .i64 s.tx, .int .i64 s.sf, .slice A5 s.n c5, .int .i64 s.net, .slice T5 s.m d5, .int .i64 s.pay] 37
        have N5 := below_new w14 (.cells #[.int .i64 s.k, .int .i64 s.ca, .int .i64 s.tb, .int .i64 s.so, .int .i64 s.tx, .int .i64 s.sf, .slice A5 s.n c5, .int .i64 s.net, .slice T5 s.m d5, .int .i64 s.pay] 37)
        replace hI := hI.below N5
        replace KS := KS.below N5
        replace KW := KW.below N5
        replace B := below_step B N5 B.size
        replace hAs := hAs.up (N5).size
        replace hO3 := own_below hO3 N5
        replace hO5 := own_below hO5 N5
        replace hO6 := own_below hO6 N5
        clear N5
        have cE := lsame_raw s.k s.ca s.tb s.so s.tx s.sf A5 s.n c5 s.net T5 s.m d5 s.pay s.A s.c s.T s.d s.X s.Y s.f _ (shs_own hO5) (HM0.out.below B).sh (tks_own hO6) (HM0.out.below B).tk (Nat.le_trans hsn (by decide)) (Nat.le_trans hsm (by decide))
        have s_0 := KS.cell (i := 0) rfl
        have s_1 := KS.cell (i := 1) rfl
        have s_2 := KS.cell (i := 2) rfl
        have s_3 := KS.cell (i := 3) rfl
        have s_4 := KS.cell (i := 4) rfl
        have s_5 := KS.cell (i := 5) rfl
        have s_6 := KS.cell (i := 6) rfl
        have s_7 := KS.cell (i := 7) rfl
        have s_8 := KS.cell (i := 8) rfl
        have s_9 := KS.cell (i := 9) rfl
        have t_0 := K5.cell (i := 0) rfl
        have t_1 := K5.cell (i := 1) rfl
        have t_2 := K5.cell (i := 2) rfl
        have t_3 := K5.cell (i := 3) rfl
        have t_4 := K5.cell (i := 4) rfl
        have t_5 := K5.cell (i := 5) rfl
        have t_6 := K5.cell (i := 6) rfl
        have t_7 := K5.cell (i := 7) rfl
        have t_8 := K5.cell (i := 8) rfl
        have t_9 := K5.cell (i := 9) rfl
        clear hO5 hO6
        go_wp2_with (fail)
        generalize (w14.alloc (.cells #[.int .i64 s.k, .int .i64 s.ca, .int .i64 s.tb, .int .i64 s.so, .int .i64 s.tx, .int .i64 s.sf, .slice A5 s.n c5, .int .i64 s.net, .slice T5 s.m d5, .int .i64 s.pay] 37)) = w15 at *
        with_reducible refine cE.mono ?_
        rintro e w9 ⟨rfl, hb⟩
        clear s_0 s_1 s_2 s_3 s_4 s_5 s_6 s_7 s_8 s_9
        clear t_0 t_1 t_2 t_3 t_4 t_5 t_6 t_7 t_8 t_9
        replace hI := hI.below hb
        replace KS := KS.below hb
        replace KW := KW.below hb
        replace B := below_step B hb B.size
        replace hAs := hAs.up (hb).size
        replace hO3 := own_below hO3 hb
        clear hb cE K5 KS
        have hSW := shs_own hO3
        clear hO3
        go_wp2
        have D1 : Below w9.heap.size w9 w9.drew := (Below.refl _ _).drew
        have cT := ytotals_any (hI.y.below D1) HNN.out
        unfold YtP at cT
        have k_0 := KW.cell (i := 0) rfl
        have k_1 := KW.cell (i := 1) rfl
        have k_2 := KW.cell (i := 2) rfl
        have k_3 := KW.cell (i := 3) rfl
        have k_4 := KW.cell (i := 4) rfl
        have k_5 := KW.cell (i := 5) rfl
        have k_6 := KW.cell (i := 6) rfl
        have k_7 := KW.cell (i := 7) rfl
        have k_8 := KW.cell (i := 8) rfl
        go_cut [50, 140] from 50 to 141 (fun s50 s140 wx => s50 = .int .i64 (i : Int) ∧ s140 = .bool false ∧ Below w9.heap.size w9 wx)
        case first =>
          as_aux_lemma =>
            have S1 : w9.drew.cell? ⟨qW, 0, none⟩ = some (.int .i64 (t.add s).ca) ∧ w9.drew.cell? ⟨qW, 1, none⟩ = some (.int .i64 (t.add s).tb) ∧ w9.drew.cell? ⟨qW, 2, none⟩ = some (.int .i64 (t.add s).so) ∧ w9.drew.cell? ⟨qW, 3, none⟩ = some (.int .i64 (t.add s).tx) ∧ w9.drew.cell? ⟨qW, 4, none⟩ = some (.int .i64 (t.add s).sf) ∧ w9.drew.cell? ⟨qW, 5, none⟩ = some (.slice A3 n c3) ∧ w9.drew.cell? ⟨qW, 6, none⟩ = some (.int .i64 (t.add s).net) ∧ w9.drew.cell? ⟨qW, 7, none⟩ = some (.int .i64 (t.add s).tk) ∧ w9.drew.cell? ⟨qW, 8, none⟩ = some (.int .i64 (t.add s).pay) ∧ Below w9.heap.size w9 w9.drew := ⟨k_0, k_1, k_2, k_3, k_4, k_5, k_6, k_7, k_8, D1⟩
            have mk : ∀ V : World, Below w9.heap.size w9 V → V.cell? ⟨qW, 0, none⟩ = some (.int .i64 (t.add s).ca) ∧ V.cell? ⟨qW, 1, none⟩ = some (.int .i64 (t.add s).tb) ∧ V.cell? ⟨qW, 2, none⟩ = some (.int .i64 (t.add s).so) ∧ V.cell? ⟨qW, 3, none⟩ = some (.int .i64 (t.add s).tx) ∧ V.cell? ⟨qW, 4, none⟩ = some (.int .i64 (t.add s).sf) ∧ V.cell? ⟨qW, 5, none⟩ = some (.slice A3 n c3) ∧ V.cell? ⟨qW, 6, none⟩ = some (.int .i64 (t.add s).net) ∧ V.cell? ⟨qW, 7, none⟩ = some (.int .i64 (t.add s).tk) ∧ V.cell? ⟨qW, 8, none⟩ = some (.int .i64 (t.add s).pay) ∧ Below w9.heap.size w9 V := fun V hb => ⟨cell_later hb k_0, cell_later hb k_1, cell_later hb k_2, cell_later hb k_3, cell_later hb k_4, cell_later hb k_5, cell_later hb k_6, cell_later hb k_7, cell_later hb k_8, hb⟩
            go_region_held3 (fun X => X.cell? ⟨qW, 0, none⟩ = some (.int .i64 (t.add s).ca) ∧ X.cell? ⟨qW, 1, none⟩ = some (.int .i64 (t.add s).tb) ∧ X.cell? ⟨qW, 2, none⟩ = some (.int .i64 (t.add s).so) ∧ X.cell? ⟨qW, 3, none⟩ = some (.int .i64 (t.add s).tx) ∧ X.cell? ⟨qW, 4, none⟩ = some (.int .i64 (t.add s).sf) ∧ X.cell? ⟨qW, 5, none⟩ = some (.slice A3 n c3) ∧ X.cell? ⟨qW, 6, none⟩ = some (.int .i64 (t.add s).net) ∧ X.cell? ⟨qW, 7, none⟩ = some (.int .i64 (t.add s).tk) ∧ X.cell? ⟨qW, 8, none⟩ = some (.int .i64 (t.add s).pay) ∧ Below w9.heap.size w9 X)
              ((first | exact S1 | exact SW2 | exact SW | assumption))
              (first
                | (go_at_call 17; (with_reducible refine cT.mono ?_); rintro e w10 ⟨A2, c2, rfl, hown, hb10⟩; have b10 := below_step D1 hb10 D1.size; have SW := mk w10 b10; have cS := ysame_any (t.add s) A2 A3 n c2 c3 w10 (shs_own hown) (hSW.below b10) hn6; clear hown)
                | (go_at_call 13; (with_reducible refine cS.mono ?_); rintro e w11 ⟨rfl, hb11⟩; have b11 := below_step b10 hb11 b10.size; have SW2 := mk w11 b11; have cC : Calls Try.prog 18 #[.pointer (some ⟨p, 0, none⟩)] w11 fun e w' => e = .returned (.int .i64 ((cnt : Int) + 1)) ∧ w11 = w' := ycount_any (hI.y.below b11))
                | (go_at_call 18; (with_reducible refine cC.mono ?_); rintro e w12 ⟨rfl, hw12⟩; subst hw12))
            all_goals
              rename_i hH
              go_wp2_with fail
              go_meet
              case rel => exact ⟨rfl, rfl, hH.2.2.2.2.2.2.2.2.2⟩
        case rest =>
        obtain ⟨rfl, rfl, hbc⟩ := hcut
        clear k_0 k_1 k_2 k_3 k_4 k_5 k_6 k_7 k_8 cT D1
        replace hI := hI.below hbc
        replace KW := KW.below hbc
        replace hSW := hSW.below hbc
        replace B := below_step B hbc B.size
        replace hAs := hAs.up hbc.size
        clear hbc
        go_wp2
        refine ⟨⟨i + 1, by omega, by go_num, ⟨cnt + 1, g', t.add s, F', A3, c3, rfl, hI, KW, hSW, hAs⟩, B⟩, ?_⟩
        first | exact meas_step hlt | (rw [hw1]; exact meas_step hlt)

    · obtain rfl : N = i := by omega
      have hnl : ¬ (N : Int) < (N : Int) := by omega
      clear hi hlt
      go_wp2
      go_ret
      exact ⟨rfl, B⟩
theorem yearPosts_any (n : Int) (A : Option Addr) (N c : Nat) (g0 : Nat → Slp) (w : World) (hS : Sls w A N g0) (hN : N ≤ 9223372036854775807) (hb : -9223372036854775808 ≤ n ∧ n ≤ 9223372036854775807) :
    Calls Try.prog 3 #[.int .i64 n, .slice A N c] w fun e w' => e = .returned (.bool true) ∧ Below w.heap.size w w' := by
  cases hq : (smB g0 N && decide (N ≤ 60))
  · exact yp_small n A N c g0 w hS hN hq
  · by_cases hn : n < 0 ∨ 64 < n
    · exact yp_out n A N c g0 w hS hN hq hn
    · obtain ⟨m, rfl⟩ : ∃ m : Nat, n = (m : Int) := ⟨n.toNat, by omega⟩
      exact yp_main m A N c g0 w hS hN hq (by omega)
end Go.Proofs.Ytfnjhalpedccaaa
