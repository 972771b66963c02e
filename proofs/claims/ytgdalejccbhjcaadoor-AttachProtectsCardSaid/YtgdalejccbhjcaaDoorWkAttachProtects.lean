/- The walk of the law AttachProtects. -/
import Derived.Test.YtgdalejccbhjcaaDoorAttE
namespace Go.Proofs.YtgdalejccbhjcaaDoor
open Go.RowKit Go.Sort
set_option linter.unusedVariables false
set_option linter.unusedSimpArgs false

set_option maxRecDepth 100000 in
set_option maxHeartbeats 8000000 in
theorem apr_no (net prot : Int) (A : Option Addr) (n c : Nat) (g : Nat → Sta) (w : World) (hT : Tab w) (h : Ors w A n g) (hn : n ≤ 9223372036854775807) (hm : mayB g n = false) :
    Calls Tryd.prog 4 #[.int .i64 net, .int .i64 prot, .slice A n c] w fun e w' => e = .returned (.bool true) ∧ Below w.heap.size w w' := by
  go_enter Tryd.func4, Tryd.ntmps4
  go_wp2_with (fail)
  with_reducible refine (serves_any _ hT).mono ?_
  rintro e w1 ⟨rfl, B1⟩
  have h1 := h.below B1
  have hT1 := hT.below B1
  clear h hT
  go_wp2_with (fail)
  with_reducible refine (may_any A n c g w1 h1 hn false hm).mono ?_
  rintro e w2 ⟨rfl, NB⟩
  have h2 := h1.below NB
  have hT2 := hT1.below NB
  have B2 := below_step B1 NB B1.size
  clear h1 hT1 NB B1
  go_wp2
  go_ret
  exact ⟨rfl, B2⟩
set_option maxRecDepth 100000 in
set_option maxHeartbeats 8000000 in
theorem apr_amt (net prot : Int) (A : Option Addr) (n c : Nat) (g : Nat → Sta) (w : World) (hT : Tab w) (h : Ors w A n g) (hn : n ≤ 9223372036854775807) (hm : mayB g n = true) (ha : (amtB net && amtB prot) = false) :
    Calls Tryd.prog 4 #[.int .i64 net, .int .i64 prot, .slice A n c] w fun e w' => e = .returned (.bool true) ∧ Below w.heap.size w w' := by
  go_enter Tryd.func4, Tryd.ntmps4
  go_wp2_with (fail)
  with_reducible refine (serves_any _ hT).mono ?_
  rintro e w1 ⟨rfl, B1⟩
  have h1 := h.below B1
  have hT1 := hT.below B1
  clear h hT
  go_wp2_with (fail)
  with_reducible refine (may_any A n c g w1 h1 hn true hm).mono ?_
  rintro e w2 ⟨rfl, NB⟩
  have h2 := h1.below NB
  have hT2 := hT1.below NB
  have B2 := below_step B1 NB B1.size
  clear h1 hT1 NB B1
  have cS := serve_amt net prot A n c w2 ha
  clear ha hm
  go_wp2_with (fail)
  with_reducible refine cS.mono ?_
  rintro e w3 ⟨rfl, NB⟩
  have B3 := below_step B2 NB B2.size
  clear cS NB B2 h2 hT2
  go_wp2
  go_ret
  exact ⟨rfl, B3⟩
set_option maxRecDepth 100000 in
set_option maxHeartbeats 8000000 in
theorem apr_range (net prot : Int) (A : Option Addr) (n c : Nat) (g : Nat → Sta) (w : World) (hT : Tab w) (h : Ors w A n g) (hn : n ≤ 9223372036854775807) (hm : mayB g n = true) (ha : (amtB net && amtB prot) = true) (hp : prot < 0) :
    Calls Tryd.prog 4 #[.int .i64 net, .int .i64 prot, .slice A n c] w fun e w' => e = .returned (.bool true) ∧ Below w.heap.size w w' := by
  go_enter Tryd.func4, Tryd.ntmps4
  go_wp2_with (fail)
  with_reducible refine (serves_any _ hT).mono ?_
  rintro e w1 ⟨rfl, B1⟩
  have h1 := h.below B1
  have hT1 := hT.below B1
  clear h hT
  go_wp2_with (fail)
  with_reducible refine (may_any A n c g w1 h1 hn true hm).mono ?_
  rintro e w2 ⟨rfl, NB⟩
  have h2 := h1.below NB
  have hT2 := hT1.below NB
  have B2 := below_step B1 NB B1.size
  clear h1 hT1 NB B1
  have cS := serve_range net prot A n c w2 ha hp
  clear ha hm
  go_wp2_with (fail)
  with_reducible refine cS.mono ?_
  rintro e w3 ⟨rfl, NB⟩
  have B3 := below_step B2 NB B2.size
  clear cS NB B2 h2 hT2
  go_wp2
  go_ret
  exact ⟨rfl, B3⟩
set_option maxRecDepth 100000 in
set_option maxHeartbeats 8000000 in
theorem apr_over (net prot : Int) (A : Option Addr) (n c : Nat) (g : Nat → Sta) (w : World) (hT : Tab w) (h : Ors w A n g) (hn : n ≤ 9223372036854775807) (hm : mayB g n = true) (ha : (amtB net && amtB prot) = true) (hp : 0 ≤ prot) (hs : svB g net n = false) :
    Calls Tryd.prog 4 #[.int .i64 net, .int .i64 prot, .slice A n c] w fun e w' => e = .returned (.bool true) ∧ Below w.heap.size w w' := by
  obtain ⟨h20, hok⟩ := mayB_ok hm
  go_enter Tryd.func4, Tryd.ntmps4
  go_wp2_with (fail)
  with_reducible refine (serves_any _ hT).mono ?_
  rintro e w1 ⟨rfl, B1⟩
  have h1 := h.below B1
  have hT1 := hT.below B1
  clear h hT
  go_wp2_with (fail)
  with_reducible refine (may_any A n c g w1 h1 hn true hm).mono ?_
  rintro e w2 ⟨rfl, NB⟩
  have h2 := h1.below NB
  have hT2 := hT1.below NB
  have B2 := below_step B1 NB B1.size
  clear h1 hT1 NB B1
  have cS := serve_any net prot A n c g w2 h2 hok ha hp (by omega)
  clear ha hm hok
  go_wp2_with (fail)
  with_reducible refine cS.mono ?_
  rintro e w3 ⟨_, hno, NB⟩
  obtain rfl := hno hs
  have B3 := below_step B2 NB B2.size
  clear cS NB B2 h2 hT2 hno hs
  go_wp2
  go_ret
  exact ⟨rfl, B3⟩
set_option maxRecDepth 100000 in
set_option maxHeartbeats 8000000 in
theorem apr_ok (net prot : Int) (A : Option Addr) (n c : Nat) (g : Nat → Sta) (w : World) (hT : Tab w) (h : Ors w A n g) (hn : n ≤ 9223372036854775807) (hm : mayB g n = true) (ha : (amtB net && amtB prot) = true) (hp : 0 ≤ prot) (hs : svB g net n = true) :
    Calls Tryd.prog 4 #[.int .i64 net, .int .i64 prot, .slice A n c] w fun e w' => e = .returned (.bool true) ∧ Below w.heap.size w w' := by
  obtain ⟨h20, hok⟩ := mayB_ok hm
  go_enter Tryd.func4, Tryd.ntmps4
  go_wp2_with (fail)
  with_reducible refine (serves_any _ hT).mono ?_
  rintro e w1 ⟨rfl, B1⟩
  have h1 := h.below B1
  have hT1 := hT.below B1
  clear h hT
  go_wp2_with (fail)
  with_reducible refine (may_any A n c g w1 h1 hn true hm).mono ?_
  rintro e w2 ⟨rfl, NB⟩
  have h2 := h1.below NB
  have hT2 := hT1.below NB
  have B2 := below_step B1 NB B1.size
  clear h1 hT1 NB B1
  have cS := serve_any net prot A n c g w2 h2 hok ha hp (by omega)
  obtain ⟨q1, q2⟩ := Bool.and_eq_true_iff.1 ha
  obtain ⟨n1, n2⟩ := amtB_yes q1
  obtain ⟨p1, p2⟩ := amtB_yes q2
  have hr0 : 0 ≤ max (net - prot) 0 ∧ max (net - prot) 0 ≤ 100000000000 := by omega
  have hrm := rm_bd (g := g) (n := net) hr0.1 hok hs
  have htk : ∀ i, i < n → amtB (svT g net (max (net - prot) 0) i).t = true := fun i hi => by
    have := tk_bd (g := g) (n := net) hr0.1 (k := i) (fun j hj => hok j (by omega)) (svB_mono (k := i + 1) (by omega) hs)
    exact amtB_mk (by show -100000000000 ≤ tkX g net _ i; omega) (by show tkX g net _ i ≤ 100000000000; omega)
  have hsm : ∀ i, i ≤ n → amtB (sumT (svT g net (max (net - prot) 0)) i) = true := fun i hi => by
    have := rm_bd (g := g) (n := net) hr0.1 (k := i) (fun j hj => hok j (by omega)) (svB_mono hi hs)
    rw [sum_served]
    exact amtB_mk (by omega) (by omega)
  have cM := fun v c w h => asum_any v n c (svT g net (max (net - prot) 0)) w h (by omega) htk hsm
  rw [sum_served] at cM
  clear ha hm hok htk hsm q1 q2
  go_wp2_with (fail)
  with_reducible refine cS.mono ?_
  rintro e w3 ⟨hyes, _, NB⟩
  obtain ⟨v, rfl, HO⟩ := hyes hs
  obtain ⟨A', c', rfl, _, _⟩ := own_len HO
  have HK := tks_own HO
  have B3 := below_step B2 NB B2.size
  have cN := cM A' c' w3 HK
  clear cS NB B2 h2 hT2 hyes hs cM HO HK
  generalize rmX g net (max (net - prot) 0) n = m at *
  have hlo : min net prot ≤ net - (max (net - prot) 0 - m) ∧ net - (max (net - prot) 0 - m) ≤ net ∧ net - (net - (max (net - prot) 0 - m)) = max (net - prot) 0 - m := by omega
  have hlf : -100000000000 ≤ net - (max (net - prot) 0 - m) ∧ net - (max (net - prot) 0 - m) ≤ 100000000000 := by omega
  have hsb : 0 ≤ max (net - prot) 0 - m ∧ max (net - prot) 0 - m ≤ 100000000000 := by omega
  generalize max (net - prot) 0 - m = sm at *
  generalize net - sm = lf at *
  obtain ⟨u1, u2, u3⟩ := hlo
  have t1 : decide (min net prot ≤ lf) = true := decide_eq_true u1
  have t2 : decide (lf ≤ net) = true := decide_eq_true u2
  have t3 : ((net - lf) == sm) = true := by simp [u3]
  clear u3 hr0 hrm
  go_wp2_with (fail)
  with_reducible refine cN.mono ?_
  rintro e w4 ⟨rfl, NB⟩
  have B4 := below_step B3 NB B3.size
  clear cN NB B3
  go_wp2
  go_ret
  exact ⟨rfl, B4⟩
theorem wAttachProtects (net prot : Int) (A : Option Addr) (n c : Nat) (g : Nat → Sta) (w : World) (hT : Tab w) (hx : -9223372036854775808 ≤ net ∧ net ≤ 9223372036854775807) (hy : -9223372036854775808 ≤ prot ∧ prot ≤ 9223372036854775807) (h : Ors w A n g) (hn : n ≤ 9223372036854775807) (hf : ∀ i, i < n → (g i).F) :
    Calls Tryd.prog 4 #[.int .i64 net, .int .i64 prot, .slice A n c] w fun e w' => e = .returned (.bool true) ∧ Below w.heap.size w w' := by
  cases hm : mayB g n
  · exact apr_no net prot A n c g w hT h hn hm
  · cases ha : amtB net && amtB prot
    · exact apr_amt net prot A n c g w hT h hn hm ha
    · by_cases hp : prot < 0
      · exact apr_range net prot A n c g w hT h hn hm ha hp
      · cases hs : svB g net n
        · exact apr_over net prot A n c g w hT h hn hm ha (by omega) hs
        · exact apr_ok net prot A n c g w hT h hn hm ha (by omega) hs
end Go.Proofs.YtgdalejccbhjcaaDoor
