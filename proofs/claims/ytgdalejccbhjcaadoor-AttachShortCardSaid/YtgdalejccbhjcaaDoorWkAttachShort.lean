/- The walk of the law AttachShort. -/
import Derived.Test.YtgdalejccbhjcaaDoorAttE
namespace Go.Proofs.YtgdalejccbhjcaaDoor
open Go.RowKit Go.Sort
set_option linter.unusedVariables false
set_option linter.unusedSimpArgs false

set_option maxRecDepth 100000 in
set_option maxHeartbeats 8000000 in
theorem ash_no (net prot : Int) (A : Option Addr) (n c : Nat) (g : Nat → Sta) (w : World) (hT : Tab w) (h : Ors w A n g) (hn : n ≤ 9223372036854775807) (hm : mayB g n = false) :
    Calls Tryd.prog 5 #[.int .i64 net, .int .i64 prot, .slice A n c] w fun e w' => e = .returned (.bool true) ∧ Below w.heap.size w w' := by
  go_enter Tryd.func5, Tryd.ntmps5
  go_wp2_with (fail)
  with_reducible refine (serves_any _ hT).mono ?_
  rintro e w1 ⟨rfl, B1⟩
  have h1 := h.below B1
  have hT1 := hT.below B1
  clear h hT
  go_wp2_with (fail)
  with_reducible refine (may_any A n c g w1 h1 hn false hm).mono ?_
  rintro e w2 ⟨rfl, NB⟩
  have h2 := h1.below NB
  have hT2 := hT1.below NB
  have B2 := below_step B1 NB B1.size
  clear h1 hT1 NB B1
  go_wp2
  go_ret
  exact ⟨rfl, B2⟩
set_option maxRecDepth 100000 in
set_option maxHeartbeats 8000000 in
theorem ash_amt (net prot : Int) (A : Option Addr) (n c : Nat) (g : Nat → Sta) (w : World) (hT : Tab w) (h : Ors w A n g) (hn : n ≤ 9223372036854775807) (hm : mayB g n = true) (ha : (amtB net && amtB prot) = false) :
    Calls Tryd.prog 5 #[.int .i64 net, .int .i64 prot, .slice A n c] w fun e w' => e = .returned (.bool true) ∧ Below w.heap.size w w' := by
  go_enter Tryd.func5, Tryd.ntmps5
  go_wp2_with (fail)
  with_reducible refine (serves_any _ hT).mono ?_
  rintro e w1 ⟨rfl, B1⟩
  have h1 := h.below B1
  have hT1 := hT.below B1
  clear h hT
  go_wp2_with (fail)
  with_reducible refine (may_any A n c g w1 h1 hn true hm).mono ?_
  rintro e w2 ⟨rfl, NB⟩
  have h2 := h1.below NB
  have hT2 := hT1.below NB
  have B2 := below_step B1 NB B1.size
  clear h1 hT1 NB B1
  have cS := serve_amt net prot A n c w2 ha
  clear ha hm
  go_wp2_with (fail)
  with_reducible refine cS.mono ?_
  rintro e w3 ⟨rfl, NB⟩
  have B3 := below_step B2 NB B2.size
  clear cS NB B2 h2 hT2
  go_wp2
  go_ret
  exact ⟨rfl, B3⟩
set_option maxRecDepth 100000 in
set_option maxHeartbeats 8000000 in
theorem ash_range (net prot : Int) (A : Option Addr) (n c : Nat) (g : Nat → Sta) (w : World) (hT : Tab w) (h : Ors w A n g) (hn : n ≤ 9223372036854775807) (hm : mayB g n = true) (ha : (amtB net && amtB prot) = true) (hp : prot < 0) :
    Calls Tryd.prog 5 #[.int .i64 net, .int .i64 prot, .slice A n c] w fun e w' => e = .returned (.bool true) ∧ Below w.heap.size w w' := by
  go_enter Tryd.func5, Tryd.ntmps5
  go_wp2_with (fail)
  with_reducible refine (serves_any _ hT).mono ?_
  rintro e w1 ⟨rfl, B1⟩
  have h1 := h.below B1
  have hT1 := hT.below B1
  clear h hT
  go_wp2_with (fail)
  with_reducible refine (may_any A n c g w1 h1 hn true hm).mono ?_
  rintro e w2 ⟨rfl, NB⟩
  have h2 := h1.below NB
  have hT2 := hT1.below NB
  have B2 := below_step B1 NB B1.size
  clear h1 hT1 NB B1
  have cS := serve_range net prot A n c w2 ha hp
  clear ha hm
  go_wp2_with (fail)
  with_reducible refine cS.mono ?_
  rintro e w3 ⟨rfl, NB⟩
  have B3 := below_step B2 NB B2.size
  clear cS NB B2 h2 hT2
  go_wp2
  go_ret
  exact ⟨rfl, B3⟩
set_option maxRecDepth 100000 in
set_option maxHeartbeats 8000000 in
theorem ash_over (net prot : Int) (A : Option Addr) (n c : Nat) (g : Nat → Sta) (w : World) (hT : Tab w) (h : Ors w A n g) (hn : n ≤ 9223372036854775807) (hm : mayB g n = true) (ha : (amtB net && amtB prot) = true) (hp : 0 ≤ prot) (hs : svB g net n = false) :
    Calls Tryd.prog 5 #[.int .i64 net, .int .i64 prot, .slice A n c] w fun e w' => e = .returned (.bool true) ∧ Below w.heap.size w w' := by
  obtain ⟨h20, hok⟩ := mayB_ok hm
  go_enter Tryd.func5, Tryd.ntmps5
  go_wp2_with (fail)
  with_reducible refine (serves_any _ hT).mono ?_
  rintro e w1 ⟨rfl, B1⟩
  have h1 := h.below B1
  have hT1 := hT.below B1
  clear h hT
  go_wp2_with (fail)
  with_reducible refine (may_any A n c g w1 h1 hn true hm).mono ?_
  rintro e w2 ⟨rfl, NB⟩
  have h2 := h1.below NB
  have hT2 := hT1.below NB
  have B2 := below_step B1 NB B1.size
  clear h1 hT1 NB B1
  have cS := serve_any net prot A n c g w2 h2 hok ha hp (by omega)
  clear ha hm hok
  go_wp2_with (fail)
  with_reducible refine cS.mono ?_
  rintro e w3 ⟨_, hno, NB⟩
  obtain rfl := hno hs
  have B3 := below_step B2 NB B2.size
  clear cS NB B2 h2 hT2 hno hs
  go_wp2
  go_ret
  exact ⟨rfl, B3⟩
/-- is one of the first ones short? -/
def shC (g : Nat → Sta) (net r0 : Int) : Nat → Bool
  | 0 => false
  | k + 1 => shC g net r0 k || decide (0 < (g k).dueX net - tkX g net r0 k)
theorem shC_eq (g : Nat → Sta) (net r0 : Int) : ∀ k, shC g net r0 k = shR (svT g net r0) k := by
  intro k
  induction k with
  | zero => rfl
  | succ k ih =>
    show (shC g net r0 k || _) = (shR _ k || _)
    rw [ih]
    congr 1
    show decide (0 < (g k).dueX net - tkX g net r0 k) = decide (tkX g net r0 k < (g k).dueX net)
    rw [decide_eq_decide]; omega
set_option maxRecDepth 100000 in
set_option maxHeartbeats 8000000 in
theorem ash_ok (net prot : Int) (A : Option Addr) (n c : Nat) (g : Nat → Sta) (w : World) (hT : Tab w) (h : Ors w A n g) (hn : n ≤ 9223372036854775807) (hm : mayB g n = true) (ha : (amtB net && amtB prot) = true) (hp : 0 ≤ prot) (hs : svB g net n = true) :
    Calls Tryd.prog 5 #[.int .i64 net, .int .i64 prot, .slice A n c] w fun e w' => e = .returned (.bool true) ∧ Below w.heap.size w w' := by
  obtain ⟨h20, hok⟩ := mayB_ok hm
  go_enter Tryd.func5, Tryd.ntmps5
  go_wp2_with (fail)
  with_reducible refine (serves_any _ hT).mono ?_
  rintro e w1 ⟨rfl, B1⟩
  have h1 := h.below B1
  have hT1 := hT.below B1
  clear h hT
  go_wp2_with (fail)
  with_reducible refine (may_any A n c g w1 h1 hn true hm).mono ?_
  rintro e w2 ⟨rfl, NB⟩
  have h2 := h1.below NB
  have hT2 := hT1.below NB
  have B2 := below_step B1 NB B1.size
  clear h1 hT1 NB B1
  have cS := serve_any net prot A n c g w2 h2 hok ha hp (by omega)
  obtain ⟨q1, q2⟩ := Bool.and_eq_true_iff.1 ha
  obtain ⟨n1, n2⟩ := amtB_yes q1
  obtain ⟨p1, p2⟩ := amtB_yes q2
  have hr0 : 0 ≤ max (net - prot) 0 ∧ max (net - prot) 0 ≤ 100000000000 := by omega
  have HOK := Lib.hid hok
  have HS := Lib.hid hs
  clear ha hm hok q1 q2
  go_wp2_with (fail)
  with_reducible refine cS.mono ?_
  rintro e w3 ⟨hyes, _, NB⟩
  obtain ⟨v, rfl, HO⟩ := hyes hs
  obtain ⟨A', c', rfl, _, _⟩ := own_len HO
  have HK := tks_own HO
  have B3 := below_step B2 NB B2.size
  have h3 := h2.below NB
  clear cS NB B2 h2 hT2 hyes hs HO
  generalize max (net - prot) 0 = r0 at *
  generalize net - (r0 - rmX g net r0 n) = lf at *
  go_wp2_with (fail)
  go_loopw [10, 30] (fun s k W => ∃ i : Nat, i ≤ n ∧ s = .bool (shC g net r0 i) ∧ k = .int .i64 i ∧ Below w3.heap.size w3 W) (fun _ k _ => n - (intOf k).toNat)
  case atStart => exact ⟨0, Nat.zero_le _, rfl, rfl, Below.refl _ _⟩
  case round =>
    obtain ⟨i, hi, rfl, rfl, hB⟩ := hrel
    by_cases hlt : i < n
    · obtain ⟨b, o, rfl, hc⟩ := id (h3 (by omega))
      obtain ⟨b2, o2, rfl, hc2⟩ := id (HK (by omega))
      obtain ⟨c0, _, _, _, _, _, c6⟩ := (hc i hlt).below hB
      obtain ⟨d0, d1, d2, d3, d4, d5⟩ := (hc2 i hlt).below hB
      replace d0 : wr.cell? ⟨b2, o2 + i * 6, none⟩ = some (.int .i64 (g i).id) := d0
      replace d1 : wr.cell? ⟨b2, o2 + i * 6 + 1, none⟩ = some (.int .i64 (g i).ar) := d1
      replace d2 : wr.cell? ⟨b2, o2 + i * 6 + 2, none⟩ = some (.int .i64 ((g i).ordX net)) := d2
      replace d3 : wr.cell? ⟨b2, o2 + i * 6 + 3, none⟩ = some (.int .i64 ((g i).dueX net)) := d3
      replace d4 : wr.cell? ⟨b2, o2 + i * 6 + 4, none⟩ = some (.int .i64 (tkX g net r0 i)) := d4
      replace d5 : wr.cell? ⟨b2, o2 + i * 6 + 5, none⟩ = some (.int .i64 ((g i).dueX net - tkX g net r0 i)) := d5
      have hil : (i : Int) < (n : Int) := by omega
      have hnum := (HOK.out i hlt).nums
      have hsv := svB_mono (k := i + 1) (by omega) HS.out
      have htk := tk_bd (g := g) (n := net) hr0.1 (k := i) (fun j hj => HOK.out j (by omega)) hsv
      have ho := (HOK.out i hlt).ord_bd n2
      have hX : (g i).dueX net = (g i).ordX net + (g i).ar := rfl
      have hsh : shC g net r0 i = true → tkX g net r0 i = 0 := fun h0 => by
        rw [shC_eq] at h0
        have := short_no (g := g) (n := net) hr0.1 (k := i) (fun j hj => HOK.out j (by omega)) (svB_mono (k := i) (by omega) HS.out) h0
        omega
      have HN : Hid (shC g net r0 (i + 1) = (shC g net r0 i || decide (0 < (g i).dueX net - tkX g net r0 i))) := Lib.hid rfl
      have HSH := Lib.hid hsh
      clear hc hc2 h3 HK HOK HS hsv hsh
      generalize hsi : shC g net r0 i = si at *
      clear hsi
      generalize (g i).dueX net = xd at *
      generalize (g i).ordX net = xr at *
      generalize tkX g net r0 i = xt at *
      generalize (g i).id = xo at *
      generalize (g i).ar = xb at *
      have e1 : xb + xr = xd := by omega
      have e2 : xt + (xd - xt) = xd := by omega
      have hc0 : 0 ≤ xd - xt ∧ xd - xt ≤ 100000000000 := by omega
      generalize xd - xt = xc at *
      have hx0 := htk.1
      have t3 : decide (xt < 0) = false := decide_eq_false (by omega)
      have t4 : decide (xc < 0) = false := decide_eq_false (by omega)
      clear hX htk
      have K := bx_new wr [.int .i64 xo, .int .i64 xb, .int .i64 xr, .int .i64 xd, .int .i64 xt, .int .i64 xc] 36
      have NB := below_new wr (.cells #[.int .i64 xo, .int .i64 xb, .int .i64 xr, .int .i64 xd, .int .i64 xt, .int .i64 xc] 36)
      have B4 := below_step hB NB hB.size
      have e0 := cell_later NB c0
      have e6 := cell_later NB c6
      have k0 := K.cell (i := 0) rfl
      have k1 := K.cell (i := 1) rfl
      have k2 := K.cell (i := 2) rfl
      have k3 := K.cell (i := 3) rfl
      have k4 := K.cell (i := 4) rfl
      have k5 := K.cell (i := 5) rfl
      have t0 : (xo != xo) = false := by simp
      have t1 : (xb != xb) = false := by simp
      have wl1 : IntKind.i64.wrap (xb + xr) = xd := by rw [e1]; exact IntWalk.i64_in _ (by omega)
      have wl2 : IntKind.i64.wrap (xt + xc) = xd := by rw [e2]; exact IntWalk.i64_in _ (by omega)
      have t2 : (xd != xd) = false := by simp
      have E1 := Lib.hid e1
      have E2 := Lib.hid e2
      clear NB K e1 e2
      go_wp2
      clear c0 c6 d0 d1 d2 d3 d4 d5
      go_quiet (fail)
      generalize wr.alloc (.cells #[.int .i64 xo, .int .i64 xb, .int .i64 xr, .int .i64 xd, .int .i64 xt, .int .i64 xc] 36) = W4 at *
      clear wl1 wl2 t3 t4
      cases si
      · by_cases h5 : 0 < xc
        · have HN2 : Hid (shC g net r0 (i + 1) = true) := Lib.hid (by rw [HN.out, decide_eq_true h5]; rfl)
          go_wp2
          refine ⟨⟨i + 1, by omega, by rw [HN2.out], by go_num, below_drewN B4 _⟩, ?_⟩
          simp [intOf]; omega
        · have HN2 : Hid (shC g net r0 (i + 1) = false) := Lib.hid (by rw [HN.out, decide_eq_false h5]; rfl)
          go_wp2
          refine ⟨⟨i + 1, by omega, by rw [HN2.out], by go_num, below_drewN B4 _⟩, ?_⟩
          simp [intOf]; omega
      · have HN2 : Hid (shC g net r0 (i + 1) = true) := Lib.hid (by rw [HN.out]; rfl)
        have hz := HSH.out rfl
        have h5 : ¬ 0 < xt := by omega
        go_wp2
        refine ⟨⟨i + 1, by omega, by rw [HN2.out], by go_num, below_drewN B4 _⟩, ?_⟩
        simp [intOf]; omega
    · obtain rfl : n = i := by omega
      have hnl : ¬ (n : Int) < (n : Int) := by omega
      have B9 := below_step B3 hB B3.size
      clear h3 HK
      go_wp2
      go_ret
      exact ⟨rfl, B9⟩
theorem wAttachShort (net prot : Int) (A : Option Addr) (n c : Nat) (g : Nat → Sta) (w : World) (hT : Tab w) (hx : -9223372036854775808 ≤ net ∧ net ≤ 9223372036854775807) (hy : -9223372036854775808 ≤ prot ∧ prot ≤ 9223372036854775807) (h : Ors w A n g) (hn : n ≤ 9223372036854775807) (hf : ∀ i, i < n → (g i).F) :
    Calls Tryd.prog 5 #[.int .i64 net, .int .i64 prot, .slice A n c] w fun e w' => e = .returned (.bool true) ∧ Below w.heap.size w w' := by
  cases hm : mayB g n
  · exact ash_no net prot A n c g w hT h hn hm
  · cases ha : amtB net && amtB prot
    · exact ash_amt net prot A n c g w hT h hn hm ha
    · by_cases hp : prot < 0
      · exact ash_range net prot A n c g w hT h hn hm ha hp
      · cases hs : svB g net n
        · exact ash_over net prot A n c g w hT h hn hm ha (by omega) hs
        · exact ash_ok net prot A n c g w hT h hn hm ha (by omega) hs
end Go.Proofs.YtgdalejccbhjcaaDoor
