/- What order.Check, Left, Over and Ordered answer. -/
import Derived.Test.YthknjpmhomjobaaGreatDoorOrdM
import Derived.Test.YthknjpmhomjobaaGreatDoorFracE
import Derived.Test.YthknjpmhomjobaaGreatDoorMoneyA
namespace Go.Proofs.YthknjpmhomjobaaGreatDoor
open Go.RowKit Go.Sort
set_option linter.unusedVariables false
set_option linter.unusedSimpArgs false

theorem right2n (x y : Int) (w : World) (t : TypeId) (b : Bool) (hb : (amtB x && amtB y) = b) (n : Nat) (hn : w.heap.size = n) :
    Calls Tryz.prog 26 #[.slice (some ⟨n, 0, none⟩) 2 2] (w.alloc (.cells #[.int .i64 x, .int .i64 y] t)) fun e w' => e = .returned (.bool b) ∧ w.alloc (.cells #[.int .i64 x, .int .i64 y] t) = w' := by
  subst hn
  exact right2 x y w t b hb
set_option maxHeartbeats 2000000 in
theorem ocheck_v (i p a r t : Int) (w : World) :
    Calls Tryz.prog 9 #[.agg #[.int .i64 i, .int .i64 p, .int .i64 a, .int .i64 r, .int .i64 t]] w fun e w' => e = .returned (.int .i64 (chkO i p a r t)) ∧ Below w.heap.size w w' := by
  have K := bx_new w [.int .i64 i, .int .i64 p, .int .i64 a, .int .i64 r, .int .i64 t] 23
  have B1 := below_new w (.cells #[.int .i64 i, .int .i64 p, .int .i64 a, .int .i64 r, .int .i64 t] 23)
  have k0 := K.cell (i := 0) rfl
  have k1 := K.cell (i := 1) rfl
  have k2 := K.cell (i := 2) rfl
  have k3 := K.cell (i := 3) rfl
  have k4 := K.cell (i := 4) rfl
  by_cases h1 : i < 1 ∨ 999999 < i ∨ p < 0 ∨ 999 < p
  · have HV : Hid (chkO i p a r t = 1) := Lib.hid (by unfold chkO; rw [if_pos h1])
    rcases (show i < 1 ∨ (1 ≤ i ∧ 999999 < i) ∨ (1 ≤ i ∧ i ≤ 999999 ∧ p < 0) ∨ (1 ≤ i ∧ i ≤ 999999 ∧ 0 ≤ p ∧ 999 < p) by omega) with h | ⟨h, h'⟩ | ⟨h, h', h''⟩ | ⟨h, h', h'', h'''⟩
    all_goals
      clear h1 K
      go_enter Tryz.func9, Tryz.ntmps9
      go_wp2
      go_ret
      exact ⟨ret_i HV.out.symm, B1⟩
  have hi1 : 1 ≤ i := by omega
  have hi2 : i ≤ 999999 := by omega
  have hp1 : 0 ≤ p := by omega
  have hp2 : p ≤ 999 := by omega
  have KK := bx_at (w.alloc (.cells #[.int .i64 i, .int .i64 p, .int .i64 a, .int .i64 r, .int .i64 t] 23)) [.int .i64 a, .int .i64 t] 2 (n := w.heap.size + 1) (by simp)
  have hsz : (w.alloc (.cells #[.int .i64 i, .int .i64 p, .int .i64 a, .int .i64 r, .int .i64 t] 23)).heap.size = w.heap.size + 1 := by simp
  have cR := fun b hb => right2n a t (w.alloc (.cells #[.int .i64 i, .int .i64 p, .int .i64 a, .int .i64 r, .int .i64 t] 23)) 2 b hb (w.heap.size + 1) hsz
  have B2 := B1.alloc B1.size (.cells #[.int .i64 a, .int .i64 t] 2)
  have K' := K.alloc (.cells #[.int .i64 a, .int .i64 t] 2)
  have j2 := K'.cell (i := 2) rfl
  have j3 := K'.cell (i := 3) rfl
  have j4 := K'.cell (i := 4) rfl
  clear K KK K' hsz
  cases h2 : amtB a && amtB t
  · have HV : Hid (chkO i p a r t = 10) := Lib.hid (by unfold chkO; rw [if_neg h1, if_pos h2])
    have cR := cR false h2
    clear h1 h2
    go_enter Tryz.func9, Tryz.ntmps9
    go_wp2_with (fail)
    with_reducible refine cR.mono ?_
    rintro e w1 ⟨rfl, rfl⟩
    go_wp2
    go_ret
    exact ⟨ret_i HV.out.symm, B2⟩
  have cR := cR true h2
  have h2' : ¬ (amtB a && amtB t) = false := by rw [h2]; simp
  by_cases h3 : a < 0 ∨ t < 0
  · have HV : Hid (chkO i p a r t = 1) := Lib.hid (by unfold chkO; rw [if_neg h1, if_neg h2', if_pos h3])
    rcases (show a < 0 ∨ (0 ≤ a ∧ t < 0) by omega) with h | ⟨h, h'⟩
    all_goals
      clear h1 h2 h2' h3
      go_enter Tryz.func9, Tryz.ntmps9
      go_wp2_with (fail)
      with_reducible refine cR.mono ?_
      rintro e w1 ⟨rfl, rfl⟩
      go_wp2
      go_ret
      exact ⟨ret_i HV.out.symm, B2⟩
  have ha : 0 ≤ a := by omega
  have ht : 0 ≤ t := by omega
  cases h4 : rateB r
  · have HV : Hid (chkO i p a r t = 50) := Lib.hid (by unfold chkO; rw [if_neg h1, if_neg h2', if_neg h3, if_pos h4])
    have cM := rate_b r false h4
    clear h1 h2 h2' h3 h4
    go_enter Tryz.func9, Tryz.ntmps9
    go_wp2_with (fail)
    with_reducible refine cR.mono ?_
    rintro e w1 ⟨rfl, rfl⟩
    go_wp2_with (fail)
    with_reducible refine (cM _).mono ?_
    rintro e w1 ⟨rfl, rfl⟩
    go_wp2
    go_ret
    exact ⟨ret_i HV.out.symm, B2⟩
  have h4' : ¬ rateB r = false := by rw [h4]; simp
  have cM := rate_b r true h4
  have hr := rateB_yes h4
  by_cases h5 : a = 0 ∧ r = 0
  · have HV : Hid (chkO i p a r t = 5) := Lib.hid (by unfold chkO; rw [if_neg h1, if_neg h2', if_neg h3, if_neg h4', if_pos h5])
    obtain ⟨rfl, rfl⟩ := h5
    clear h1 h2 h2' h3 h4 h4'
    go_enter Tryz.func9, Tryz.ntmps9
    go_wp2_with (fail)
    with_reducible refine cR.mono ?_
    rintro e w1 ⟨rfl, rfl⟩
    go_wp2_with (fail)
    with_reducible refine (cM _).mono ?_
    rintro e w1 ⟨rfl, rfl⟩
    go_wp2
    go_ret
    exact ⟨ret_i HV.out.symm, B2⟩
  · have HV : Hid (chkO i p a r t = 0) := Lib.hid (by unfold chkO; rw [if_neg h1, if_neg h2', if_neg h3, if_neg h4', if_neg h5])
    rcases (show (a == 0) = false ∨ ((a == 0) = true ∧ (r == 0) = false) by
      by_cases h : a = 0
      · exact .inr ⟨by simp [h], by simp; omega⟩
      · exact .inl (by simp [h])) with h | ⟨h, h'⟩
    all_goals
      clear h1 h2 h2' h3 h4 h4' h5
      go_enter Tryz.func9, Tryz.ntmps9
      go_wp2_with (fail)
      with_reducible refine cR.mono ?_
      rintro e w1 ⟨rfl, rfl⟩
      go_wp2_with (fail)
      with_reducible refine (cM _).mono ?_
      rintro e w1 ⟨rfl, rfl⟩
      go_wp2
      go_ret
      exact ⟨ret_i HV.out.symm, B2⟩
theorem ocheck_any (i p a r t : Int) (w : World) (v : Int) (hv : chkO i p a r t = v) :
    Calls Tryz.prog 9 #[.agg #[.int .i64 i, .int .i64 p, .int .i64 a, .int .i64 r, .int .i64 t]] w fun e w' => e = .returned (.int .i64 v) ∧ Below w.heap.size w w' := by
  subst hv
  exact ocheck_v i p a r t w
/-- an order with what it took, as a value -/
def Sta.v (s : Sta) : Value := .agg #[.int .i64 s.id, .int .i64 s.pr, .int .i64 s.am, .int .i64 s.rt, .int .i64 s.tot, .int .i64 s.tk, .int .i64 s.ar]
theorem left_any (i p a r t k q : Int) (w : World) (v : Int) (hv : (⟨i, p, a, r, t, k, q⟩ : Sta).lft = v) (ht : 0 ≤ t ∧ t ≤ 100000000000) (hk : -100000000000 ≤ k ∧ k ≤ 100000000000) (hq : -100000000000 ≤ q ∧ q ≤ 100000000000) :
    Calls Tryz.prog 23 #[.agg #[.int .i64 i, .int .i64 p, .int .i64 a, .int .i64 r, .int .i64 t, .int .i64 k, .int .i64 q]] w fun e w' => e = .returned (.int .i64 v) ∧ Below w.heap.size w w' := by
  have K := bx_new w [.int .i64 i, .int .i64 p, .int .i64 a, .int .i64 r, .int .i64 t, .int .i64 k, .int .i64 q] 50
  have B1 := below_new w (.cells #[.int .i64 i, .int .i64 p, .int .i64 a, .int .i64 r, .int .i64 t, .int .i64 k, .int .i64 q] 50)
  have k4 := K.cell (i := 4) rfl
  have k5 := K.cell (i := 5) rfl
  have k6 := K.cell (i := 6) rfl
  obtain ⟨t1, t2⟩ := ht
  obtain ⟨u1, u2⟩ := hk
  obtain ⟨q1, q2⟩ := hq
  clear K
  by_cases h0 : t = 0
  · have HV : Hid (v = 100000000000) := Lib.hid (by rw [← hv]; unfold Sta.lft; rw [if_pos h0])
    have g0 : (t == 0) = true := by simp [h0]
    clear h0 hv
    go_enter Tryz.func23, Tryz.ntmps23
    go_wp2
    go_ret
    exact ⟨ret_i HV.out.symm, B1⟩
  · have g0 : (t == 0) = false := by simp [h0]
    have HV : Hid (v = max (t - k - q) 0) := Lib.hid (by rw [← hv]; unfold Sta.lft; rw [if_neg h0]; show (if 0 < t - k - q then t - k - q else 0) = _; split <;> omega)
    clear h0 hv
    go_enter Tryz.func23, Tryz.ntmps23
    go_wp2
    go_ret
    exact ⟨ret_i HV.out.symm, B1⟩
theorem take_amt (x r : Int) (w : World) (h : amtB x = false) :
    Calls Tryz.prog 39 #[.int .i64 x, .int .i64 r, .int .i64 1] w fun e w' => e = .returned (.tuple #[.int .i64 0, .int .i64 10]) ∧ Below w.heap.size w w' := by
  have c := part_amt x r w h
  clear h
  go_enter Tryz.func39, Tryz.ntmps39
  go_wp2_with (fail)
  with_reducible refine c.mono ?_
  rintro e w1 ⟨rfl, hb⟩
  go_wp2
  go_ret2
  exact ⟨rfl, hb⟩
theorem take_ok (x r : Int) (w : World) (h : amtB x = true) (hr : rateB r = true) :
    Calls Tryz.prog 39 #[.int .i64 x, .int .i64 r, .int .i64 1] w fun e w' => e = .returned (.tuple #[.int .i64 (x * r / 10000), .int .i64 0]) ∧ Below w.heap.size w w' := by
  have c := part_ok x r w h hr
  have d := fun W => coins_ok (x * r) 1 W (ex_of_part h hr) rfl
  rw [show rnd (x * r) 10000 1 = x * r / 10000 by simp [rnd, rises]] at d
  have hb := exB_yes (ex_of_part h hr)
  obtain ⟨b1, b2⟩ := hb
  clear h hr
  generalize x * r / 10000 = y at *
  generalize x * r = z at *
  go_enter Tryz.func39, Tryz.ntmps39
  go_wp2_with (fail)
  with_reducible refine c.mono ?_
  rintro e w1 ⟨rfl, hb⟩
  go_wp2_with (fail)
  with_reducible refine (d _).mono ?_
  rintro e w2 ⟨rfl, k, rfl⟩
  go_wp2
  go_ret2
  exact ⟨rfl, below_drewN hb _⟩
theorem ordered_far (s : Sta) (n : Int) (w : World) (h : s.OK) (hn : 100000000000 < n) :
    Calls Tryz.prog 25 #[s.v, .int .i64 n] w fun e w' => e = .returned (.tuple #[.int .i64 0, .int .i64 10]) ∧ Below w.heap.size w w' := by
  obtain ⟨i, p, a, r, t, k, q⟩ := s
  have c := fun W => take_amt (max n 0) r W (amtB_mk_no (.inr (by omega)))
  have B1 := below_new w (.cells #[.int .i64 i, .int .i64 p, .int .i64 a, .int .i64 r, .int .i64 t, .int .i64 k, .int .i64 q] 50)
  have k3 := (bx_new w [.int .i64 i, .int .i64 p, .int .i64 a, .int .i64 r, .int .i64 t, .int .i64 k, .int .i64 q] 50).cell (i := 3) rfl
  clear h
  unfold Sta.v
  go_enter Tryz.func25, Tryz.ntmps25
  go_wp2_with (fail)
  with_reducible refine (c _).mono ?_
  rintro e w1 ⟨rfl, hb⟩
  go_wp2
  go_ret2
  exact ⟨rfl, below_step B1 hb B1.size⟩
theorem ordered_any (s : Sta) (n : Int) (w : World) (h : s.OK) (hn : n ≤ 100000000000) (b : Bool) (hb : s.ordB n = b) :
    Calls Tryz.prog 25 #[s.v, .int .i64 n] w fun e w' => e = .returned (.tuple #[.int .i64 (if b = true then s.ordX n else 0), .int .i64 (if b = true then 0 else 10)]) ∧ Below w.heap.size w w' := by
  have hnum := h.nums
  have hp := pos_bd hn
  have hpr := prt_bd hn (r := s.rt) (by omega) (by omega)
  have hl := h.lft_bd
  have hX : s.ordX n = if prt n s.rt + s.am ≤ s.lft then prt n s.rt + s.am else s.lft := rfl
  have hB : s.ordB n = (decide (n ≤ 100000000000) && decide (prt n s.rt + s.am ≤ 100000000000)) := rfl
  have hP : prt n s.rt = pos n * s.rt / 10000 := rfl
  have cT := fun W => take_ok (max n 0) s.rt W (amtB_mk (by unfold pos at hp; omega) (by unfold pos at hp; omega)) (rateB_mk (by omega) (by omega))
  rw [show max n 0 * s.rt / 10000 = prt n s.rt from rfl] at cT
  have B1 := below_new w (.cells #[.int .i64 s.id, .int .i64 s.pr, .int .i64 s.am, .int .i64 s.rt, .int .i64 s.tot, .int .i64 s.tk, .int .i64 s.ar] 50)
  have K := bx_new w [.int .i64 s.id, .int .i64 s.pr, .int .i64 s.am, .int .i64 s.rt, .int .i64 s.tot, .int .i64 s.tk, .int .i64 s.ar] 50
  have cL := fun W => left_any s.id s.pr s.am s.rt s.tot s.tk s.ar W s.lft rfl ⟨by omega, by omega⟩ ⟨by omega, by omega⟩ ⟨by omega, by omega⟩
  have k3 := K.cell (i := 3) rfl
  rw [decide_eq_true hn, Bool.true_and] at hB
  unfold Sta.v
  by_cases hs : prt n s.rt + s.am ≤ 100000000000
  · obtain rfl : b = true := by rw [← hb, hB]; exact decide_eq_true hs
    have cA := fun W => add_ok (prt n s.rt) s.am W (by rw [amtB_mk (by omega) (by omega), amtB_mk (by omega) (by omega)]; rfl) (amtB_mk (by omega) (by omega))
    simp only [if_true]
    have HX := Lib.hid hX
    clear hX hB hP hb hnum h
    generalize s.ordX n = X at *
    generalize prt n s.rt = P at *
    generalize s.lft = F at *
    generalize s.id = i at *
    generalize s.pr = p at *
    generalize s.am = a at *
    generalize s.rt = r at *
    generalize s.tot = t at *
    generalize s.tk = k at *
    generalize s.ar = q at *
    have HX : Hid (X = min (P + a) F) := Lib.hid (by have := HX.out; split at this <;> omega)
    clear hp
    go_enter Tryz.func25, Tryz.ntmps25
    go_wp2_with (fail)
    with_reducible refine (cT _).mono ?_
    rintro e w1 ⟨rfl, hb⟩
    have B2 := below_step B1 hb B1.size
    replace K := K.below hb
    have j2 := K.cell (i := 2) rfl
    clear hb B1 k3 cT
    go_wp2_with (fail)
    with_reducible refine (cA _).mono ?_
    rintro e w2 ⟨rfl, hb⟩
    have B3 := below_step B2 hb B2.size
    replace K := K.below hb
    have j0 := K.cell (i := 0) rfl
    have j1 := K.cell (i := 1) rfl
    have j22 := K.cell (i := 2) rfl
    have j3 := K.cell (i := 3) rfl
    have j4 := K.cell (i := 4) rfl
    have j5 := K.cell (i := 5) rfl
    have j6 := K.cell (i := 6) rfl
    clear hb B2 j2 cA K
    go_wp2_with (fail)
    with_reducible refine (cL _).mono ?_
    rintro e w3 ⟨rfl, hb⟩
    have B4 := below_step B3 hb B3.size
    clear hb B3 cL j0 j1 j22 j3 j4 j5 j6
    go_wp2
    go_ret2
    exact ⟨ret_ii HX.out.symm rfl, B4⟩
  · obtain rfl : b = false := by rw [← hb, hB]; exact decide_eq_false hs
    have cA := fun W => add_bad (prt n s.rt) s.am W (by rw [amtB_mk_no (x := prt n s.rt + s.am) (.inr (by omega))]; simp)
    simp only [if_neg Bool.false_ne_true]
    clear hX hB hP hb hnum h cL
    generalize s.ordX n = X at *
    generalize prt n s.rt = P at *
    generalize s.lft = F at *
    generalize s.id = i at *
    generalize s.pr = p at *
    generalize s.am = a at *
    generalize s.rt = r at *
    generalize s.tot = t at *
    generalize s.tk = k at *
    generalize s.ar = q at *
    clear hp
    go_enter Tryz.func25, Tryz.ntmps25
    go_wp2_with (fail)
    with_reducible refine (cT _).mono ?_
    rintro e w1 ⟨rfl, hb⟩
    have B2 := below_step B1 hb B1.size
    replace K := K.below hb
    have j2 := K.cell (i := 2) rfl
    clear hb B1 k3 cT
    go_wp2_with (fail)
    with_reducible refine (cA _).mono ?_
    rintro e w2 ⟨rfl, hb⟩
    have B3 := below_step B2 hb B2.size
    clear hb B2 j2 cA K
    go_wp2
    go_ret2
    exact ⟨rfl, B3⟩
end Go.Proofs.YthknjpmhomjobaaGreatDoor
