/- The walk of the law AttachServes. -/
import Derived.Test.YtgdalejccbhjcaaDoorAttE
namespace Go.Proofs.YtgdalejccbhjcaaDoor
open Go.RowKit Go.Sort
set_option linter.unusedVariables false
set_option linter.unusedSimpArgs false

set_option maxRecDepth 100000 in
set_option maxHeartbeats 8000000 in
theorem asr_no (net prot : Int) (A : Option Addr) (n c : Nat) (g : Nat → Sta) (w : World) (hT : Tab w) (h : Ors w A n g) (hn : n ≤ 9223372036854775807) (hm : mayB g n = false) :
    Calls Tryd.prog 3 #[.int .i64 net, .int .i64 prot, .slice A n c] w fun e w' => e = .returned (.bool true) ∧ Below w.heap.size w w' := by
  go_enter Tryd.func3, Tryd.ntmps3
  go_wp2_with (fail)
  with_reducible refine (serves_any _ hT).mono ?_
  rintro e w1 ⟨rfl, B1⟩
  have h1 := h.below B1
  have hT1 := hT.below B1
  clear h hT
  go_wp2_with (fail)
  with_reducible refine (may_any A n c g w1 h1 hn false hm).mono ?_
  rintro e w2 ⟨rfl, NB⟩
  have h2 := h1.below NB
  have hT2 := hT1.below NB
  have B2 := below_step B1 NB B1.size
  clear h1 hT1 NB B1
  go_wp2
  go_ret
  exact ⟨rfl, B2⟩
set_option maxRecDepth 100000 in
set_option maxHeartbeats 8000000 in
theorem asr_a (net prot : Int) (A : Option Addr) (n c : Nat) (g : Nat → Sta) (w : World) (hT : Tab w) (h : Ors w A n g) (hn : n ≤ 9223372036854775807) (hm : mayB g n = true) (ha : (amtB net && amtB prot) = false) (f1 : 100000000000 < net) :
    Calls Tryd.prog 3 #[.int .i64 net, .int .i64 prot, .slice A n c] w fun e w' => e = .returned (.bool true) ∧ Below w.heap.size w w' := by
  go_enter Tryd.func3, Tryd.ntmps3
  go_wp2_with (fail)
  with_reducible refine (serves_any _ hT).mono ?_
  rintro e w1 ⟨rfl, B1⟩
  have h1 := h.below B1
  have hT1 := hT.below B1
  clear h hT
  go_wp2_with (fail)
  with_reducible refine (may_any A n c g w1 h1 hn true hm).mono ?_
  rintro e w2 ⟨rfl, NB⟩
  have h2 := h1.below NB
  have hT2 := hT1.below NB
  have B2 := below_step B1 NB B1.size
  clear h1 hT1 NB B1
  have cS := serve_amt net prot A n c w2 ha
  clear ha hm
  go_wp2_with (fail)
  with_reducible refine cS.mono ?_
  rintro e w3 ⟨rfl, NB⟩
  have B3 := below_step B2 NB B2.size
  clear cS NB B2 h2 hT2
  go_wp2
  go_ret
  exact ⟨rfl, B3⟩
set_option maxRecDepth 100000 in
set_option maxHeartbeats 8000000 in
theorem asr_b (net prot : Int) (A : Option Addr) (n c : Nat) (g : Nat → Sta) (w : World) (hT : Tab w) (h : Ors w A n g) (hn : n ≤ 9223372036854775807) (hm : mayB g n = true) (ha : (amtB net && amtB prot) = false) (f1 : net ≤ 100000000000) (f2 : net < -100000000000) :
    Calls Tryd.prog 3 #[.int .i64 net, .int .i64 prot, .slice A n c] w fun e w' => e = .returned (.bool true) ∧ Below w.heap.size w w' := by
  go_enter Tryd.func3, Tryd.ntmps3
  go_wp2_with (fail)
  with_reducible refine (serves_any _ hT).mono ?_
  rintro e w1 ⟨rfl, B1⟩
  have h1 := h.below B1
  have hT1 := hT.below B1
  clear h hT
  go_wp2_with (fail)
  with_reducible refine (may_any A n c g w1 h1 hn true hm).mono ?_
  rintro e w2 ⟨rfl, NB⟩
  have h2 := h1.below NB
  have hT2 := hT1.below NB
  have B2 := below_step B1 NB B1.size
  clear h1 hT1 NB B1
  have cS := serve_amt net prot A n c w2 ha
  clear ha hm
  go_wp2_with (fail)
  with_reducible refine cS.mono ?_
  rintro e w3 ⟨rfl, NB⟩
  have B3 := below_step B2 NB B2.size
  clear cS NB B2 h2 hT2
  go_wp2
  go_ret
  exact ⟨rfl, B3⟩
set_option maxRecDepth 100000 in
set_option maxHeartbeats 8000000 in
theorem asr_c (net prot : Int) (A : Option Addr) (n c : Nat) (g : Nat → Sta) (w : World) (hT : Tab w) (h : Ors w A n g) (hn : n ≤ 9223372036854775807) (hm : mayB g n = true) (ha : (amtB net && amtB prot) = false) (f1 : net ≤ 100000000000) (f2 : -100000000000 ≤ net) (f3 : 100000000000 < prot) :
    Calls Tryd.prog 3 #[.int .i64 net, .int .i64 prot, .slice A n c] w fun e w' => e = .returned (.bool true) ∧ Below w.heap.size w w' := by
  go_enter Tryd.func3, Tryd.ntmps3
  go_wp2_with (fail)
  with_reducible refine (serves_any _ hT).mono ?_
  rintro e w1 ⟨rfl, B1⟩
  have h1 := h.below B1
  have hT1 := hT.below B1
  clear h hT
  go_wp2_with (fail)
  with_reducible refine (may_any A n c g w1 h1 hn true hm).mono ?_
  rintro e w2 ⟨rfl, NB⟩
  have h2 := h1.below NB
  have hT2 := hT1.below NB
  have B2 := below_step B1 NB B1.size
  clear h1 hT1 NB B1
  have cS := serve_amt net prot A n c w2 ha
  clear ha hm
  go_wp2_with (fail)
  with_reducible refine cS.mono ?_
  rintro e w3 ⟨rfl, NB⟩
  have B3 := below_step B2 NB B2.size
  clear cS NB B2 h2 hT2
  go_wp2
  go_ret
  exact ⟨rfl, B3⟩
set_option maxRecDepth 100000 in
set_option maxHeartbeats 8000000 in
theorem asr_d (net prot : Int) (A : Option Addr) (n c : Nat) (g : Nat → Sta) (w : World) (hT : Tab w) (h : Ors w A n g) (hn : n ≤ 9223372036854775807) (hm : mayB g n = true) (ha : (amtB net && amtB prot) = false) (f1 : net ≤ 100000000000) (f2 : -100000000000 ≤ net) (f3 : prot ≤ 100000000000) (f4 : prot < -100000000000) :
    Calls Tryd.prog 3 #[.int .i64 net, .int .i64 prot, .slice A n c] w fun e w' => e = .returned (.bool true) ∧ Below w.heap.size w w' := by
  go_enter Tryd.func3, Tryd.ntmps3
  go_wp2_with (fail)
  with_reducible refine (serves_any _ hT).mono ?_
  rintro e w1 ⟨rfl, B1⟩
  have h1 := h.below B1
  have hT1 := hT.below B1
  clear h hT
  go_wp2_with (fail)
  with_reducible refine (may_any A n c g w1 h1 hn true hm).mono ?_
  rintro e w2 ⟨rfl, NB⟩
  have h2 := h1.below NB
  have hT2 := hT1.below NB
  have B2 := below_step B1 NB B1.size
  clear h1 hT1 NB B1
  have cS := serve_amt net prot A n c w2 ha
  clear ha hm
  go_wp2_with (fail)
  with_reducible refine cS.mono ?_
  rintro e w3 ⟨rfl, NB⟩
  have B3 := below_step B2 NB B2.size
  clear cS NB B2 h2 hT2
  go_wp2
  go_ret
  exact ⟨rfl, B3⟩
set_option maxRecDepth 100000 in
set_option maxHeartbeats 8000000 in
theorem asr_range (net prot : Int) (A : Option Addr) (n c : Nat) (g : Nat → Sta) (w : World) (hT : Tab w) (h : Ors w A n g) (hn : n ≤ 9223372036854775807) (hm : mayB g n = true) (ha : (amtB net && amtB prot) = true) (hp : prot < 0) :
    Calls Tryd.prog 3 #[.int .i64 net, .int .i64 prot, .slice A n c] w fun e w' => e = .returned (.bool true) ∧ Below w.heap.size w w' := by
  go_enter Tryd.func3, Tryd.ntmps3
  go_wp2_with (fail)
  with_reducible refine (serves_any _ hT).mono ?_
  rintro e w1 ⟨rfl, B1⟩
  have h1 := h.below B1
  have hT1 := hT.below B1
  clear h hT
  go_wp2_with (fail)
  with_reducible refine (may_any A n c g w1 h1 hn true hm).mono ?_
  rintro e w2 ⟨rfl, NB⟩
  have h2 := h1.below NB
  have hT2 := hT1.below NB
  have B2 := below_step B1 NB B1.size
  clear h1 hT1 NB B1
  have cS := serve_range net prot A n c w2 ha hp
  obtain ⟨q1, q2⟩ := Bool.and_eq_true_iff.1 ha
  obtain ⟨n1, n2⟩ := amtB_yes q1
  obtain ⟨p1, p2⟩ := amtB_yes q2
  clear ha hm q1 q2
  go_wp2_with (fail)
  with_reducible refine cS.mono ?_
  rintro e w3 ⟨rfl, NB⟩
  have B3 := below_step B2 NB B2.size
  clear cS NB B2 h2 hT2
  go_wp2
  go_ret
  exact ⟨rfl, B3⟩
set_option maxRecDepth 100000 in
set_option maxHeartbeats 8000000 in
theorem asr_over (net prot : Int) (A : Option Addr) (n c : Nat) (g : Nat → Sta) (w : World) (hT : Tab w) (h : Ors w A n g) (hn : n ≤ 9223372036854775807) (hm : mayB g n = true) (ha : (amtB net && amtB prot) = true) (hp : 0 ≤ prot) (hs : svB g net n = false) :
    Calls Tryd.prog 3 #[.int .i64 net, .int .i64 prot, .slice A n c] w fun e w' => e = .returned (.bool true) ∧ Below w.heap.size w w' := by
  obtain ⟨h20, hok⟩ := mayB_ok hm
  go_enter Tryd.func3, Tryd.ntmps3
  go_wp2_with (fail)
  with_reducible refine (serves_any _ hT).mono ?_
  rintro e w1 ⟨rfl, B1⟩
  have h1 := h.below B1
  have hT1 := hT.below B1
  clear h hT
  go_wp2_with (fail)
  with_reducible refine (may_any A n c g w1 h1 hn true hm).mono ?_
  rintro e w2 ⟨rfl, NB⟩
  have h2 := h1.below NB
  have hT2 := hT1.below NB
  have B2 := below_step B1 NB B1.size
  clear h1 hT1 NB B1
  have cS := serve_any net prot A n c g w2 h2 hok ha hp (by omega)
  obtain ⟨q1, q2⟩ := Bool.and_eq_true_iff.1 ha
  obtain ⟨n1, n2⟩ := amtB_yes q1
  obtain ⟨p1, p2⟩ := amtB_yes q2
  have hr0 : 0 ≤ max (net - prot) 0 ∧ max (net - prot) 0 ≤ 100000000000 := by omega
  have hr1 : (0 ≤ net - prot ∧ max (net - prot) 0 = net - prot) ∨ (net - prot ≤ 0 ∧ max (net - prot) 0 = 0) := by omega
  have HOK := Lib.hid hok
  have HS := Lib.hid hs
  clear ha hm hok q1 q2
  go_wp2_with (fail)
  with_reducible refine cS.mono ?_
  rintro e w3 ⟨_, hno, NB⟩
  obtain rfl := hno hs
  have B3 := below_step B2 NB B2.size
  have h3 := h2.below NB
  clear cS NB B2 h2 hT2 hno hs
  generalize max (net - prot) 0 = r0 at *
  go_wp2_with (fail)
  go_loopw [10, 71] (fun s k W => ∃ i : Nat, i ≤ n ∧ s = .int .i64 (net - (r0 - rmX g net r0 i)) ∧ k = .int .i64 i ∧ svB g net i = true ∧ Below w3.heap.size w3 W) (fun _ k _ => n - (intOf k).toNat)
  case atStart => exact ⟨0, Nat.zero_le _, by simp [rmX], rfl, rfl, Below.refl _ _⟩
  case round =>
    obtain ⟨i, hi, rfl, rfl, hsi, hB⟩ := hrel
    by_cases hlt : i < n
    · obtain ⟨b, o, rfl, hc⟩ := id (h3 (by omega))
      obtain ⟨c0, c1, c2, c3, c4, c5, c6⟩ := (hc i hlt).below hB
      have hil : (i : Int) < (n : Int) := by omega
      have hoki := HOK.out i hlt
      have hnum := hoki.nums
      have hrm := rm_bd (g := g) (n := net) hr0.1 (k := i) (fun j hj => HOK.out j (by omega)) hsi
      have ho := hoki.ord_bd n2
      have hX : (g i).dueX net = (g i).ordX net + (g i).ar := rfl
      have hLe : tkX g net r0 i = leI ((g i).dueX net) (rmX g net r0 i) := rfl
      have hLm : (tkX g net r0 i = (g i).dueX net ∧ (g i).dueX net ≤ rmX g net r0 i) ∨ (tkX g net r0 i = rmX g net r0 i ∧ rmX g net r0 i < (g i).dueX net) := by rw [hLe]; unfold leI; split <;> omega
      have HSC : Hid (rmX g net r0 (i + 1) = rmX g net r0 i - tkX g net r0 i) := Lib.hid (rmX_succ g net r0 i)
      clear hLe
      have HB : Hid (∀ r, (g i).dueB net = r → svB g net (i + 1) = r) := Lib.hid (fun r hr => by show (svB g net i && (g i).dueB net) = r; rw [hsi, hr]; rfl)
      have hD : (g i).dueB net = ((g i).ordB net && decide ((g i).dueX net ≤ 100000000000)) := rfl
      have cO := fun W => ordered_any (g i) net W hoki n2 ((g i).ordB net) rfl
      unfold Sta.v at cO
      have HD := Lib.hid hD
      clear hc h3 HOK hD hsi hoki
      generalize (g i).ordB net = ob at *
      generalize (g i).dueB net = db at *
      generalize (g i).dueX net = D at *
      generalize (g i).ordX net = X at *
      generalize tkX g net r0 i = L at *
      generalize rmX g net r0 i = m at *
      generalize (g i).id = xi at *
      generalize (g i).pr = xp at *
      generalize (g i).am = xa at *
      generalize (g i).rt = xr at *
      generalize (g i).tot = xt at *
      generalize (g i).tk = xk at *
      generalize (g i).ar = xq at *
      generalize hlf : net - (r0 - m) = lf at *
      have K := bx_new wr [.int .i64 xi, .int .i64 xp, .int .i64 xa, .int .i64 xr, .int .i64 xt, .int .i64 xk, .int .i64 xq] 32
      have NB := below_new wr (.cells #[.int .i64 xi, .int .i64 xp, .int .i64 xa, .int .i64 xr, .int .i64 xt, .int .i64 xk, .int .i64 xq] 32)
      have B4 := below_step hB NB hB.size
      have k0 := K.cell (i := 0) rfl
      have k1 := K.cell (i := 1) rfl
      have k2 := K.cell (i := 2) rfl
      have k3 := K.cell (i := 3) rfl
      have k4 := K.cell (i := 4) rfl
      have k5 := K.cell (i := 5) rfl
      have k6 := K.cell (i := 6) rfl
      have HLF := Lib.hid hlf
      cases ob
      · simp only [if_neg Bool.false_ne_true] at cO
        clear hlf hX hLm
        go_wp2_with (fail)
        with_reducible refine (cO _).mono ?_
        rintro e w5 ⟨rfl, NB5⟩
        have B5 := below_step B4 NB5 B4.size
        have NBB := below_step NB NB5 NB.size
        replace K := K.below NB5
        clear cO k0 k1 k2 k3 k4 k5 k6 c0 c1 c2 c3 c4 c5 c6 B4
        have k0 := K.cell (i := 0) rfl
        have k6 := K.cell (i := 6) rfl

        clear K k0 k6
        have BB := below_step B3 B5 B3.size
        go_wp2
        go_ret
        exact ⟨rfl, BB⟩
      · simp only [if_true] at cO
        by_cases hd : D ≤ 100000000000
        · have HBT := Lib.hid (HB.out true (by rw [HD.out]; simp [hd]))
          have hlfb : -100000000000 ≤ lf ∧ lf ≤ 100000000000 := by omega
          have hXD : X + xq = D := hX.symm
          have hdl : -200000000000 ≤ lf - prot ∧ lf - prot ≤ 200000000000 := by omega
          have hmm : max 0 (lf - prot) = m := by omega
          have hmn : min D m = L := by omega
          have hlL : -300000000000 ≤ lf - L ∧ lf - L ≤ 300000000000 := by omega
          have hDX : X + xq ≤ 100000000000 := by omega
          have hDg : decide (100000000000 < X + xq) = false := decide_eq_false (by omega)
          have HXD := Lib.hid hXD
          have HMM := Lib.hid (And.intro hmm hmn)
          clear hlf hX hLm hXD hmm hmn
          go_wp2_with (fail)
          with_reducible refine (cO _).mono ?_
          rintro e w5 ⟨rfl, NB5⟩
          have B5 := below_step B4 NB5 B4.size
          have NBB := below_step NB NB5 NB.size
          replace K := K.below NB5
          clear cO k0 k1 k2 k3 k4 k5 k6 c0 c1 c2 c3 c4 c5 c6 B4
          have k0 := K.cell (i := 0) rfl
          have k6 := K.cell (i := 6) rfl

          go_wp2
          go_quiet (fail)
          rw [HXD.out, HMM.out.1, HMM.out.2]
          clear K k0 k6
          go_wp2
          refine ⟨⟨i + 1, by omega, by rw [HSC.out, ← HLF.out]; congr 1; omega, by go_num, HBT.out, below_drewN B5 _⟩, ?_⟩
          simp [intOf]; omega
        · have hDg : decide (100000000000 < X + xq) = true := decide_eq_true (by omega)
          have hDX : 100000000000 < X + xq := by omega
          clear hlf hX hLm
          go_wp2_with (fail)
          with_reducible refine (cO _).mono ?_
          rintro e w5 ⟨rfl, NB5⟩
          have B5 := below_step B4 NB5 B4.size
          have NBB := below_step NB NB5 NB.size
          replace K := K.below NB5
          clear cO k0 k1 k2 k3 k4 k5 k6 c0 c1 c2 c3 c4 c5 c6 B4
          have k0 := K.cell (i := 0) rfl
          have k6 := K.cell (i := 6) rfl

          have BB := below_step B3 B5 B3.size
          go_wp2
          go_ret
          exact ⟨rfl, BB⟩
    · obtain rfl : n = i := by omega
      exact absurd hsi (by rw [HS.out]; simp)
set_option maxRecDepth 100000 in
set_option maxHeartbeats 8000000 in
theorem asr_ok (net prot : Int) (A : Option Addr) (n c : Nat) (g : Nat → Sta) (w : World) (hT : Tab w) (h : Ors w A n g) (hn : n ≤ 9223372036854775807) (hm : mayB g n = true) (ha : (amtB net && amtB prot) = true) (hp : 0 ≤ prot) (hs : svB g net n = true) :
    Calls Tryd.prog 3 #[.int .i64 net, .int .i64 prot, .slice A n c] w fun e w' => e = .returned (.bool true) ∧ Below w.heap.size w w' := by
  obtain ⟨h20, hok⟩ := mayB_ok hm
  go_enter Tryd.func3, Tryd.ntmps3
  go_wp2_with (fail)
  with_reducible refine (serves_any _ hT).mono ?_
  rintro e w1 ⟨rfl, B1⟩
  have h1 := h.below B1
  have hT1 := hT.below B1
  clear h hT
  go_wp2_with (fail)
  with_reducible refine (may_any A n c g w1 h1 hn true hm).mono ?_
  rintro e w2 ⟨rfl, NB⟩
  have h2 := h1.below NB
  have hT2 := hT1.below NB
  have B2 := below_step B1 NB B1.size
  clear h1 hT1 NB B1
  have cS := serve_any net prot A n c g w2 h2 hok ha hp (by omega)
  obtain ⟨q1, q2⟩ := Bool.and_eq_true_iff.1 ha
  obtain ⟨n1, n2⟩ := amtB_yes q1
  obtain ⟨p1, p2⟩ := amtB_yes q2
  have hr0 : 0 ≤ max (net - prot) 0 ∧ max (net - prot) 0 ≤ 100000000000 := by omega
  have hr1 : (0 ≤ net - prot ∧ max (net - prot) 0 = net - prot) ∨ (net - prot ≤ 0 ∧ max (net - prot) 0 = 0) := by omega
  have HOK := Lib.hid hok
  have HS := Lib.hid hs
  have hright := served_right (g := g) (n := net) hr0.1 hok hs
  have hamt : ∀ i, i < n → amtB (svT g net (max (net - prot) 0) i).b = true ∧ amtB (svT g net (max (net - prot) 0) i).r = true ∧ amtB (svT g net (max (net - prot) 0) i).d = true ∧ amtB (svT g net (max (net - prot) 0) i).t = true ∧ amtB (svT g net (max (net - prot) 0) i).c = true := fun i hi => by
    have h1 := tk_bd (g := g) (n := net) hr0.1 (k := i) (fun j hj => hok j (by omega)) (svB_mono (k := i + 1) (by omega) hs)
    have h2 := (hok i hi).ord_bd n2
    have h3 := (hok i hi).nums
    have hX : (g i).dueX net = (g i).ordX net + (g i).ar := rfl
    refine ⟨?_, ?_, ?_, ?_, ?_⟩
    · show amtB (g i).ar = true; exact amtB_mk (by omega) (by omega)
    · show amtB ((g i).ordX net) = true; exact amtB_mk (by omega) (by omega)
    · show amtB ((g i).dueX net) = true; exact amtB_mk (by omega) (by omega)
    · show amtB (tkX g net _ i) = true; exact amtB_mk (by omega) (by omega)
    · show amtB ((g i).dueX net - tkX g net _ i) = true; exact amtB_mk (by omega) (by omega)
  have cR := fun A c w h => aright_any A n c (svT g net (max (net - prot) 0)) w h (by omega) hamt true hright
  clear ha hm hok q1 q2 hamt hright
  go_wp2_with (fail)
  with_reducible refine cS.mono ?_
  rintro e w3 ⟨hyes, _, NB⟩
  obtain ⟨v, rfl, HO⟩ := hyes hs
  obtain ⟨A', c', rfl, _, _⟩ := own_len HO
  have HK := tks_own HO
  have B3 := below_step B2 NB B2.size
  have h3 := h2.below NB
  clear cS NB B2 h2 hT2 hyes hs HO
  generalize max (net - prot) 0 = r0 at *
  generalize hlast : net - (r0 - rmX g net r0 n) = last at *
  have HLA := Lib.hid hlast
  clear hlast
  go_wp2_with (fail)
  go_loopw [10, 71] (fun s k W => ∃ i : Nat, i ≤ n ∧ s = .int .i64 (net - (r0 - rmX g net r0 i)) ∧ k = .int .i64 i ∧ svB g net i = true ∧ Below w3.heap.size w3 W) (fun _ k _ => n - (intOf k).toNat)
  case atStart => exact ⟨0, Nat.zero_le _, by simp [rmX], rfl, rfl, Below.refl _ _⟩
  case round =>
    obtain ⟨i, hi, rfl, rfl, hsi, hB⟩ := hrel
    by_cases hlt : i < n
    · obtain ⟨b, o, rfl, hc⟩ := id (h3 (by omega))
      obtain ⟨c0, c1, c2, c3, c4, c5, c6⟩ := (hc i hlt).below hB
      have hil : (i : Int) < (n : Int) := by omega
      have hoki := HOK.out i hlt
      have hnum := hoki.nums
      have hrm := rm_bd (g := g) (n := net) hr0.1 (k := i) (fun j hj => HOK.out j (by omega)) hsi
      have ho := hoki.ord_bd n2
      have hX : (g i).dueX net = (g i).ordX net + (g i).ar := rfl
      have hLe : tkX g net r0 i = leI ((g i).dueX net) (rmX g net r0 i) := rfl
      have hLm : (tkX g net r0 i = (g i).dueX net ∧ (g i).dueX net ≤ rmX g net r0 i) ∨ (tkX g net r0 i = rmX g net r0 i ∧ rmX g net r0 i < (g i).dueX net) := by rw [hLe]; unfold leI; split <;> omega
      have HSC : Hid (rmX g net r0 (i + 1) = rmX g net r0 i - tkX g net r0 i) := Lib.hid (rmX_succ g net r0 i)
      clear hLe
      have HBT : Hid (svB g net (i + 1) = true) := Lib.hid (svB_mono (k := i + 1) (by omega) HS.out)
      have hdb := svB_at hlt HS.out
      have hd := (dueB_yes hdb).2.2
      have hob : (g i).ordB net = true := by
        have hD : ((g i).ordB net && decide ((g i).dueX net ≤ 100000000000)) = true := hdb
        exact (Bool.and_eq_true_iff.1 hD).1
      have cO := fun W => ordered_any (g i) net W hoki n2 true hob
      unfold Sta.v at cO
      simp only [if_true] at cO
      obtain ⟨b2, o2, rfl, hc2⟩ := id (HK (by omega))
      obtain ⟨d0, d1, d2, d3, d4, d5⟩ := (hc2 i hlt).below hB
      replace d0 : wr.cell? ⟨b2, o2 + i * 6, none⟩ = some (.int .i64 (g i).id) := d0
      replace d1 : wr.cell? ⟨b2, o2 + i * 6 + 1, none⟩ = some (.int .i64 (g i).ar) := d1
      replace d2 : wr.cell? ⟨b2, o2 + i * 6 + 2, none⟩ = some (.int .i64 ((g i).ordX net)) := d2
      replace d3 : wr.cell? ⟨b2, o2 + i * 6 + 3, none⟩ = some (.int .i64 ((g i).dueX net)) := d3
      replace d4 : wr.cell? ⟨b2, o2 + i * 6 + 4, none⟩ = some (.int .i64 (tkX g net r0 i)) := d4
      replace d5 : wr.cell? ⟨b2, o2 + i * 6 + 5, none⟩ = some (.int .i64 ((g i).dueX net - tkX g net r0 i)) := d5
      clear hc hc2 h3 HK HOK hsi hoki hdb hob cR
      generalize (g i).dueX net = D at *
      generalize (g i).ordX net = X at *
      generalize tkX g net r0 i = L at *
      generalize rmX g net r0 i = m at *
      generalize (g i).id = xi at *
      generalize (g i).pr = xp at *
      generalize (g i).am = xa at *
      generalize (g i).rt = xr at *
      generalize (g i).tot = xt at *
      generalize (g i).tk = xk at *
      generalize (g i).ar = xq at *
      generalize hlf : net - (r0 - m) = lf at *
      have K := bx_new wr [.int .i64 xi, .int .i64 xp, .int .i64 xa, .int .i64 xr, .int .i64 xt, .int .i64 xk, .int .i64 xq] 32
      have NB := below_new wr (.cells #[.int .i64 xi, .int .i64 xp, .int .i64 xa, .int .i64 xr, .int .i64 xt, .int .i64 xk, .int .i64 xq] 32)
      have B4 := below_step hB NB hB.size
      have k0 := K.cell (i := 0) rfl
      have k1 := K.cell (i := 1) rfl
      have k2 := K.cell (i := 2) rfl
      have k3 := K.cell (i := 3) rfl
      have k4 := K.cell (i := 4) rfl
      have k5 := K.cell (i := 5) rfl
      have k6 := K.cell (i := 6) rfl
      have HLF := Lib.hid hlf
      have hlfb : -100000000000 ≤ lf ∧ lf ≤ 100000000000 := by omega
      have hXD : X + xq = D := hX.symm
      have hdl : -200000000000 ≤ lf - prot ∧ lf - prot ≤ 200000000000 := by omega
      have hmm : max 0 (lf - prot) = m := by omega
      have hmn : min D m = L := by omega
      have hlL : -300000000000 ≤ lf - L ∧ lf - L ≤ 300000000000 := by omega
      have hDX : X + xq ≤ 100000000000 := by omega
      have hDL : 0 ≤ D - L ∧ D - L ≤ 100000000000 := by omega
      have hDg : decide (100000000000 < X + xq) = false := decide_eq_false (by omega)
      have HXD := Lib.hid hXD
      have HMM := Lib.hid (And.intro hmm hmn)
      clear hlf hX hLm hXD hmm hmn
      go_wp2_with (fail)
      with_reducible refine (cO _).mono ?_
      rintro e w5 ⟨rfl, NB5⟩
      have B5 := below_step B4 NB5 B4.size
      have NBB := below_step NB NB5 NB.size
      replace K := K.below NB5
      clear cO k0 k1 k2 k3 k4 k5 k6 c0 c1 c2 c3 c4 c5 c6 B4
      have k0 := K.cell (i := 0) rfl
      have k6 := K.cell (i := 6) rfl

      replace d0 := cell_later NBB d0
      replace d1 := cell_later NBB d1
      replace d2 := cell_later NBB d2
      replace d3 := cell_later NBB d3
      replace d4 := cell_later NBB d4
      replace d5 := cell_later NBB d5
      have wl : IntKind.i64.wrap (D - L) = D - L := IntWalk.i64_in _ (by omega)
      have eqn : (!((xi == xi) && ((xq == xq) && ((X == X) && ((D == D) && ((L == L) && (D - L == D - L))))))) = false := by simp
      go_wp2_with (fail)
      rw [HXD.out, HMM.out.1, HMM.out.2]
      go_quiet (fail)
      clear K k0 k6 d0 d1 d2 d3 d4 d5
      go_wp2
      refine ⟨⟨i + 1, by omega, by rw [HSC.out, ← HLF.out]; congr 1; omega, by go_num, HBT.out, below_drewN B5 _⟩, ?_⟩
      simp [intOf]; omega
    · obtain rfl : n = i := by omega
      have hnl : ¬ (n : Int) < (n : Int) := by omega
      have BB := below_step B3 hB B3.size
      have cRR := cR A' c' wr (HK.below hB)
      clear h3 HK cR
      rw [HLA.out]
      go_wp2_with (fail)
      with_reducible refine cRR.mono ?_
      rintro e w9 ⟨rfl, NB9⟩
      have BE := below_step BB NB9 BB.size
      go_wp2
      go_ret
      exact ⟨rfl, BE⟩
theorem wAttachServes (net prot : Int) (A : Option Addr) (n c : Nat) (g : Nat → Sta) (w : World) (hT : Tab w) (hx : -9223372036854775808 ≤ net ∧ net ≤ 9223372036854775807) (hy : -9223372036854775808 ≤ prot ∧ prot ≤ 9223372036854775807) (h : Ors w A n g) (hn : n ≤ 9223372036854775807) (hf : ∀ i, i < n → (g i).F) :
    Calls Tryd.prog 3 #[.int .i64 net, .int .i64 prot, .slice A n c] w fun e w' => e = .returned (.bool true) ∧ Below w.heap.size w w' := by
  cases hm : mayB g n
  · exact asr_no net prot A n c g w hT h hn hm
  · cases ha : amtB net && amtB prot
    · by_cases f1 : 100000000000 < net
      · exact asr_a net prot A n c g w hT h hn hm ha f1
      · by_cases f2 : net < -100000000000
        · exact asr_b net prot A n c g w hT h hn hm ha (by omega) f2
        · by_cases f3 : 100000000000 < prot
          · exact asr_c net prot A n c g w hT h hn hm ha (by omega) (by omega) f3
          · by_cases f4 : prot < -100000000000
            · exact asr_d net prot A n c g w hT h hn hm ha (by omega) (by omega) (by omega) f4
            · rw [amtB_mk (x := net) (by omega) (by omega), amtB_mk (x := prot) (by omega) (by omega)] at ha
              cases ha
    · by_cases hp : prot < 0
      · exact asr_range net prot A n c g w hT h hn hm ha hp
      · cases hs : svB g net n
        · exact asr_over net prot A n c g w hT h hn hm ha (by omega) hs
        · exact asr_ok net prot A n c g w hT h hn hm ha (by omega) hs
end Go.Proofs.YtgdalejccbhjcaaDoor
