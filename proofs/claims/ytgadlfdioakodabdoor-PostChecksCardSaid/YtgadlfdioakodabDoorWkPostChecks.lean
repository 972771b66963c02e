/- The walk of the law PostChecks. -/
import Derived.Test.YtgadlfdioakodabDoorBks
import Derived.Test.YtgadlfdioakodabDoorOpenP
namespace Go.Proofs.YtgadlfdioakodabDoor
open Go.RowKit Go.Sort
set_option linter.unusedVariables false
set_option linter.unusedSimpArgs false

theorem acc_cut (s : ByteArray) : accB s = (nameB s.data.toList || (Lib.hasPrefix s.data.toList fundL && nameB (Lib.trimPrefix s.data.toList fundL))) := by
  unfold accB Lib.trimPrefix
  cases Lib.hasPrefix s.data.toList fundL <;> simp
theorem po_ten {M : List UInt8 → Int} {f : Nat → En} : ∀ n, firstE (poE M f) n = 0 ∨ firstE (poE M f) n = 10
  | 0 => .inl rfl
  | n + 1 => by
    show (if firstE (poE M f) n = 0 then poE M f n else firstE (poE M f) n) = 0 ∨ (if firstE (poE M f) n = 0 then poE M f n else firstE (poE M f) n) = 10
    rcases po_ten (M := M) (f := f) n with h | h
    · rw [if_pos h]
      unfold poE addV
      split
      · exact .inl rfl
      · exact .inr rfl
    · rw [if_neg (by omega)]
      exact .inr h
theorem full_none {f : Nat → En} {n : Nat} (h : Full (fun _ => 0) (fun _ => false) f n) : n = 0 := by
  by_cases h0 : n = 0
  · exact h0
  · have := h.1 (acc f 0)
    rw [inB_iff.2 ⟨0, by omega, rfl⟩] at this
    cases this
set_option maxRecDepth 100000 in
set_option maxHeartbeats 8000000 in
theorem wPostChecks (A : Option Addr) (n c : Nat) (f : Nat → En) (w : World) (hT : Tab w) (hE : EnM w A n f) (hn : n ≤ 9223372036854775807 ∧ n ≤ c) (hf : ∀ i, i < n → EnF (f i)) :
    Calls Tryd.prog 3 #[.slice A n c] w fun e w' => e = .returned (.bool true) ∧ Below w.heap.size w w' := by
  have HH := Lib.hid (And.intro hT (And.intro hE (And.intro hn hf)))
  have cB := books_any w hT
  clear hT hE hn hf
  go_enter Tryd.func3, Tryd.ntmps3
  go_wp2_with (fail)
  with_reducible refine cB.mono ?_
  rintro e w1 ⟨rfl, B1⟩
  clear cB
  have hE1 := HH.out.2.1.below B1
  by_cases h60 : n ≤ 60
  rotate_left
  · have hgt2 : decide ((60 : Int) < (n : Int)) = true := by simp; omega
    have hgt : ((60 : Int) < (n : Int)) := by omega
    clear hE1 h60
    go_wp2
    go_ret
    exact ⟨rfl, B1⟩
  have hle : decide ((60 : Int) < (n : Int)) = false := by simp; omega
  have HN := Lib.hid h60
  have HE1 := Lib.hid hE1
  have HB1 := Lib.hid B1
  have Bw := Below.refl w1.heap.size w1
  clear h60 hE1 B1
  go_wp2
  go_loopw [3, 4, 18] (fun a b j X => ∃ (i : Nat) (s : Int), i ≤ n ∧ j = .int .i64 i ∧ a = .int .i64 (firstE (enE f) i) ∧ b = .int .i64 s ∧ (firstE (enE f) i = 0 → s = enS f i) ∧ Below w1.heap.size w1 X) (fun _ _ j _ => n - (intOf j).toNat)
  case atStart => exact ⟨0, 0, Nat.zero_le _, rfl, rfl, rfl, fun _ => rfl, Bw⟩
  case round =>
    clear Bw
    obtain ⟨i, s, hi, rfl, rfl, rfl, hs, hbX⟩ := hrel
    by_cases hlt : i < n
    · have hil : (i : Int) < (n : Int) := by omega
      have hwi : wrap64 ((i : Int) + 1) = (i : Int) + 1 := IntWalk.wrap64_in _ (by have := HN.out; omega)
      obtain ⟨b, o, rfl, hc⟩ := HE1.out.below hbX (by omega)
      obtain ⟨x0, x1⟩ := hc i hlt
      have hfi := HH.out.2.2.2 i hlt
      have KX := bx_new wr [.string (f i).1, .int .i64 (f i).2] 26
      have NX := below_new wr (.cells #[.string (f i).1, .int .i64 (f i).2] 26)
      have HB4 := Lib.hid (below_step hbX NX hbX.size)
      have kx_0 := KX.cell (i := 0) rfl
      have kx_1 := KX.cell (i := 1) rfl
      have HL := Lib.hid hlt
      have HSN : Hid (enS f (i + 1) = enS f i + (f i).2) := Lib.hid rfl
      have HFN : Hid (firstE (enE f) (i + 1) = if firstE (enE f) i = 0 then enE f i else firstE (enE f) i) := Lib.hid rfl
      have HEI : Hid (enE f i = if amtB (f i).2 = false then 10 else if accB (f i).1 = false then 5 else 0) := Lib.hid rfl
      have HSB := Lib.hid (fun e => enS_bd (f := f) (n := i) e)
      have HS := Lib.hid hs
      have HV := Lib.hid hfi.2
      have cC : ∀ W, Calls Tryd.prog 9 #[.string (f i).1, .string ⟨#[102, 117, 110, 100, 45]⟩] W fun e w' => e = .returned (.tuple #[.string ⟨(Lib.trimPrefix (f i).1.data.toList fundL).toArray⟩, .bool (Lib.hasPrefix (f i).1.data.toList fundL)]) ∧ w' = W := fun W => Tryd.strings_CutPrefix (f i).1 ⟨#[102, 117, 110, 100, 45]⟩ W
      have cN := name_v (f i).1
      have cM := name_v ⟨(Lib.trimPrefix (f i).1.data.toList fundL).toArray⟩
      simp only [List.toList_toArray] at cM
      have HA : Hid (accB (f i).1 = _) := Lib.hid (acc_cut (f i).1)
      by_cases hlen : (f i).1.size ≤ 100
      rotate_left
      · have hl1 : decide ((100 : Int) < ((f i).1.size : Int)) = true := by simp; omega
        have hl2 : (100 : Int) < ((f i).1.size : Int) := by omega
        have HB := Lib.hid (below_step HB1.out HB4.out HB1.out.size)
        clear hc hs hfi NX KX cC cN cM hlt hi hlen hbX
        generalize (f i).1 = N at *
        generalize (f i).2 = v at *
        go_wp2
        go_ret
        exact ⟨rfl, HB.out⟩
      have hl1 : decide ((100 : Int) < ((f i).1.size : Int)) = false := by simp; omega
      have HLN := Lib.hid hlen
      generalize Lib.hasPrefix (f i).1.data.toList fundL = O at *
      generalize hR : nameB (Lib.trimPrefix (f i).1.data.toList fundL) = R at *
      generalize (⟨(Lib.trimPrefix (f i).1.data.toList fundL).toArray⟩ : ByteArray) = rest at *
      generalize nameB (f i).1.data.toList = P at *
      generalize accB (f i).1 = AC at *
      generalize enE f i = E at *
      generalize hF1 : firstE (enE f) (i + 1) = F1 at *
      have HG := Lib.hid hF1
      clear hF1
      generalize firstE (enE f) i = F0 at *
      clear hR hc hs hfi NX KX hlt hi hlen hbX
      generalize (f i).1 = N at *
      generalize (f i).2 = v at *
      go_wp2_with (fail)
      with_reducible refine (cC _).mono ?_
      rintro e w5 ⟨rfl, hw5⟩
      subst hw5
      clear cC
      by_cases hF0 : F0 = 0
      rotate_left
      · have e1 : (F0 != 0) = true := by simp [hF0]
        have HF0 := Lib.hid hF0
        have HF1 : Hid (F1 = F0) := Lib.hid (by rw [HFN.out, if_neg hF0])
        clear hF0 cN cM
        go_wp2
        exact ⟨⟨i + 1, s, Nat.succ_le_of_lt HL.out, by go_num, by rw [HG.out, HF1.out], rfl, fun e => absurd ((HG.out.trans HF1.out).symm.trans e) HF0.out, HB4.out⟩, by first | exact meas_step HL.out | (rw [hwi]; exact meas_step HL.out)⟩
      subst hF0
      have hF1 : F1 = E := by rw [HFN.out, if_pos rfl]
      subst hF1
      by_cases hgt : 100000000000 < v
      · have g1 : decide ((100000000000 : Int) < v) = true := by simpa using hgt
        have HE : Hid (F1 = 10) := Lib.hid (by rw [HEI.out, if_pos (by unfold amtB; simp; omega)])
        clear cN cM hgt
        go_wp2
        exact ⟨⟨i + 1, s, Nat.succ_le_of_lt HL.out, by go_num, by rw [HG.out, HE.out], rfl, (fun e => by rw [HG.out, HE.out] at e; cases e), HB4.out⟩, by first | exact meas_step HL.out | (rw [hwi]; exact meas_step HL.out)⟩
      have g1 : decide ((100000000000 : Int) < v) = false := by simpa using hgt
      by_cases hlo : v < -100000000000
      · have g2 : decide (v < (-100000000000 : Int)) = true := by simpa using hlo
        have HE : Hid (F1 = 10) := Lib.hid (by rw [HEI.out, if_pos (by unfold amtB; simp; omega)])
        clear cN cM hgt hlo
        go_wp2
        exact ⟨⟨i + 1, s, Nat.succ_le_of_lt HL.out, by go_num, by rw [HG.out, HE.out], rfl, (fun e => by rw [HG.out, HE.out] at e; cases e), HB4.out⟩, by first | exact meas_step HL.out | (rw [hwi]; exact meas_step HL.out)⟩
      have g2 : decide (v < (-100000000000 : Int)) = false := by simpa using hlo
      have HAM : Hid (amtB v = true) := Lib.hid (by unfold amtB; simp; omega)
      have HSS := Lib.hid (HS.out rfl)
      have HB0 := Lib.hid (HSB.out rfl)
      have hsw : wrap64 (s + v) = s + v := by
        have a := HB0.out
        have d := HN.out
        have l := HL.out
        rw [HSS.out]
        exact IntWalk.wrap64_in _ (by omega)
      have HSW := Lib.hid hsw
      clear hgt hlo hsw
      cases P
      rotate_left
      · clear cM
        go_wp2_with (fail)
        with_reducible refine (cN _).mono ?_
        rintro e w6 ⟨rfl, rfl⟩
        clear cN
        go_wp2
        have HE : Hid (F1 = 0) := Lib.hid (by rw [HEI.out, HAM.out, HA.out]; rfl)
        exact ⟨⟨i + 1, s + v, Nat.succ_le_of_lt HL.out, by go_num, by rw [HG.out, HE.out], by first | rfl | rw [HSW.out], fun _ => by rw [HSN.out, HSS.out], HB4.out⟩, by first | exact meas_step HL.out | (rw [hwi]; exact meas_step HL.out)⟩
      cases O
      · clear cM
        go_wp2_with (fail)
        with_reducible refine (cN _).mono ?_
        rintro e w6 ⟨rfl, rfl⟩
        clear cN
        go_wp2
        have HE : Hid (F1 = 5) := Lib.hid (by rw [HEI.out, HAM.out, HA.out]; rfl)
        exact ⟨⟨i + 1, s, Nat.succ_le_of_lt HL.out, by go_num, by rw [HG.out, HE.out], rfl, (fun e => by rw [HG.out, HE.out] at e; cases e), HB4.out⟩, by first | exact meas_step HL.out | (rw [hwi]; exact meas_step HL.out)⟩
      cases R
      · go_wp2_with (fail)
        with_reducible refine (cN _).mono ?_
        rintro e w6 ⟨rfl, rfl⟩
        clear cN
        go_wp2_with (fail)
        with_reducible refine (cM _).mono ?_
        rintro e w6 ⟨rfl, rfl⟩
        clear cM
        go_wp2
        have HE : Hid (F1 = 5) := Lib.hid (by rw [HEI.out, HAM.out, HA.out]; rfl)
        exact ⟨⟨i + 1, s, Nat.succ_le_of_lt HL.out, by go_num, by rw [HG.out, HE.out], rfl, (fun e => by rw [HG.out, HE.out] at e; cases e), HB4.out⟩, by first | exact meas_step HL.out | (rw [hwi]; exact meas_step HL.out)⟩
      · go_wp2_with (fail)
        with_reducible refine (cN _).mono ?_
        rintro e w6 ⟨rfl, rfl⟩
        clear cN
        go_wp2_with (fail)
        with_reducible refine (cM _).mono ?_
        rintro e w6 ⟨rfl, rfl⟩
        clear cM
        go_wp2
        have HE : Hid (F1 = 0) := Lib.hid (by rw [HEI.out, HAM.out, HA.out]; rfl)
        exact ⟨⟨i + 1, s + v, Nat.succ_le_of_lt HL.out, by go_num, by rw [HG.out, HE.out], by first | rfl | rw [HSW.out], fun _ => by rw [HSN.out, HSS.out], HB4.out⟩, by first | exact meas_step HL.out | (rw [hwi]; exact meas_step HL.out)⟩
    · obtain rfl : i = n := by omega
      have hnl : ¬ (i : Int) < (i : Int) := by omega
      have HX := Lib.hid hbX
      have hck : chkP f i = if firstE (enE f) i ≠ 0 then firstE (enE f) i else if enS f i ≠ 0 then 6 else 0 := rfl
      have HCK := Lib.hid hck
      have HS := Lib.hid hs
      have HZ := Lib.hid (fun j hj => show (f j).1.size ≤ 281474976710656 by have := (HH.out.2.2.2 j hj).1; omega)
      clear hck hs hlt hi hbX
      by_cases hF : firstE (enE f) i = 0
      · have HSS := Lib.hid (HS.out hF)
        have HF := Lib.hid hF
        rw [hF]
        by_cases hE0 : enS f i = 0
        · have hs0 : s = 0 := HSS.out.trans hE0
          have HC : Hid (chkP f i = 0) := Lib.hid (by rw [HCK.out, if_neg (by rw [HF.out]; simp), if_neg (by simp [hE0])])
          subst hs0
          clear hF hE0
          go_wp2_with (fail)
          have cN := pnew_any wr
          with_reducible refine cN.mono ?_
          rintro e w5 ⟨p, b, rfl, hBk, hbl, hpl, hb5⟩
          have hX5 := below_step HX.out hb5 HX.out.size
          have hE5 := HE1.out.below hX5
          have cC := pcheck_any A i c f w5 hE5 (by have := HN.out; omega)
          have B5 := below_step HB1.out hX5 HB1.out.size
          have HB5 := Lib.hid (And.intro hBk (And.intro hE5 B5))
          have HBL := Lib.hid (And.intro hbl (And.intro hpl hb5))
          clear cN hBk hX5 hE5 B5 hbl hpl hb5
          rw [HC.out] at cC
          go_wp2_with (fail)
          with_reducible refine cC.mono ?_
          rintro e w6 ⟨rfl, hb6⟩
          clear cC
          have hBk6 := HB5.out.1.below hb6
          have hE6 := HB5.out.2.1.below hb6
          have B6 := below_step HB5.out.2.2 hb6 HB5.out.2.2.size
          have cP := ppost_any hBk6 A i c f hE6 (by have := HN.out; omega) HZ.out (fun _ => rfl) (fun _ => rfl) (by omega) (by omega)
          have HB6 := Lib.hid (And.intro hBk6 (And.intro hb6 B6))
          clear hb6 hBk6 hE6 B6
          go_wp2_with (fail)
          refine Calls.mono cP ?_
          rintro e w7 ⟨-, h2, h3⟩
          replace h2 := h2 HC.out
          replace h3 := h3 HC.out
          rcases po_ten (M := fun _ => 0) (f := f) i with hp | hp
          · obtain ⟨rfl, hBk7, hsz7, hcm7, hrr7⟩ := h3 hp
            have HB7 := Lib.hid (below_step HB1.out (below_step HX.out (Calm.new (w := wr) (below_step HBL.out.2.2 HB6.out.2.1 HBL.out.2.2.size) hcm7 hsz7 hrr7 HBL.out.2.1 HBL.out.1) HX.out.size) HB1.out.size)
            clear cP h2 h3 hp hBk7 hsz7 hcm7 hrr7
            go_wp2
            go_ret
            exact ⟨rfl, HB7.out⟩
          · obtain ⟨h4, hb7⟩ := h2 (by rw [hp]; decide)
            rw [hp] at h4
            subst h4
            have hBk7 := HB6.out.1.below hb7
            have cEn := entries_any hBk7
            have HB7 := Lib.hid (And.intro hBk7 (below_step HB6.out.2.2 hb7 HB6.out.2.2.size))
            clear cP h2 h3 hp hb7 hBk7
            go_wp2_with (fail)
            with_reducible refine cEn.mono ?_
            rintro e w8 ⟨rfl, rfl⟩
            clear cEn
            go_wp2
            go_ret
            exact ⟨rfl, HB7.out.2⟩
        · have hs0 : (s != 0) = true := by rw [HSS.out]; simp [hE0]
          have HC : Hid (chkP f i = 6) := Lib.hid (by rw [HCK.out, if_neg (by rw [HF.out]; simp), if_pos (by simp [hE0])])
          have HC0 : Hid ((6 : Int) ≠ 0) := Lib.hid (by decide)
          clear hF hE0
          go_wp2_with (fail)
          have cN := pnew_any wr
          with_reducible refine cN.mono ?_
          rintro e w5 ⟨p, b, rfl, hBk, hbl, hpl, hb5⟩
          have hX5 := below_step HX.out hb5 HX.out.size
          have hE5 := HE1.out.below hX5
          have cC := pcheck_any A i c f w5 hE5 (by have := HN.out; omega)
          have B5 := below_step HB1.out hX5 HB1.out.size
          have HB5 := Lib.hid (And.intro hBk (And.intro hE5 B5))
          have HBL := Lib.hid (And.intro hbl (And.intro hpl hb5))
          clear cN hBk hX5 hE5 B5 hbl hpl hb5
          rw [HC.out] at cC
          go_wp2_with (fail)
          with_reducible refine cC.mono ?_
          rintro e w6 ⟨rfl, hb6⟩
          clear cC
          have hBk6 := HB5.out.1.below hb6
          have hE6 := HB5.out.2.1.below hb6
          have B6 := below_step HB5.out.2.2 hb6 HB5.out.2.2.size
          have cP := ppost_any hBk6 A i c f hE6 (by have := HN.out; omega) HZ.out (fun _ => rfl) (fun _ => rfl) (by omega) (by omega)
          have HB6 := Lib.hid (And.intro hBk6 (And.intro hb6 B6))
          clear hb6 hBk6 hE6 B6
          go_wp2_with (fail)
          refine Calls.mono cP ?_
          rintro e w7 ⟨h1, -, -⟩
          obtain ⟨h2, hb7⟩ := h1 (by rw [HC.out]; exact HC0.out)
          rw [HC.out] at h2
          subst h2
          have hBk7 := HB6.out.1.below hb7
          have cEn := entries_any hBk7
          have HB7 := Lib.hid (And.intro hBk7 (below_step HB6.out.2.2 hb7 HB6.out.2.2.size))
          clear cP h1 hb7 hBk7
          go_wp2_with (fail)
          with_reducible refine cEn.mono ?_
          rintro e w8 ⟨rfl, rfl⟩
          have cBal := bal_any HB7.out.1 (by omega) (fun l hl => by cases hl)
          clear cEn
          go_wp2_with (fail)
          with_reducible refine cBal.mono ?_
          rintro e w9 ⟨v9, n9, f9, rfl, hown9, hb9, hn9, hF9⟩
          obtain rfl : n9 = 0 := full_none hF9
          obtain ⟨A9, c9, rfl, -, -⟩ := own_len hown9
          have HB9 := Lib.hid (below_step HB7.out.2 hb9 HB7.out.2.size)
          clear cBal hown9 hb9 hF9 hn9
          go_wp2
          go_ret
          exact ⟨rfl, HB9.out⟩
      · have HC : Hid (chkP f i = firstE (enE f) i) := Lib.hid (by rw [HCK.out, if_pos hF])
        have HC0 := Lib.hid hF
        have e0 : (firstE (enE f) i != 0) = true := by simp [hF]
        have e1 : (firstE (enE f) i == 0) = false := by simp [hF]
        have e2 : (firstE (enE f) i == firstE (enE f) i) = true := by simp
        have e3 : (firstE (enE f) i != firstE (enE f) i) = false := by simp
        clear hF
        generalize hC : firstE (enE f) i = C at *
        clear hC
        go_wp2_with (fail)
        have cN := pnew_any wr
        with_reducible refine cN.mono ?_
        rintro e w5 ⟨p, b, rfl, hBk, hbl, hpl, hb5⟩
        have hX5 := below_step HX.out hb5 HX.out.size
        have hE5 := HE1.out.below hX5
        have cC := pcheck_any A i c f w5 hE5 (by have := HN.out; omega)
        have B5 := below_step HB1.out hX5 HB1.out.size
        have HB5 := Lib.hid (And.intro hBk (And.intro hE5 B5))
        have HBL := Lib.hid (And.intro hbl (And.intro hpl hb5))
        clear cN hBk hX5 hE5 B5 hbl hpl hb5
        rw [HC.out] at cC
        go_wp2_with (fail)
        with_reducible refine cC.mono ?_
        rintro e w6 ⟨rfl, hb6⟩
        clear cC
        have hBk6 := HB5.out.1.below hb6
        have hE6 := HB5.out.2.1.below hb6
        have B6 := below_step HB5.out.2.2 hb6 HB5.out.2.2.size
        have cP := ppost_any hBk6 A i c f hE6 (by have := HN.out; omega) HZ.out (fun _ => rfl) (fun _ => rfl) (by omega) (by omega)
        have HB6 := Lib.hid (And.intro hBk6 (And.intro hb6 B6))
        clear hb6 hBk6 hE6 B6
        go_wp2_with (fail)
        refine Calls.mono cP ?_
        rintro e w7 ⟨h1, -, -⟩
        obtain ⟨h2, hb7⟩ := h1 (by rw [HC.out]; exact HC0.out)
        rw [HC.out] at h2
        subst h2
        have hBk7 := HB6.out.1.below hb7
        have cEn := entries_any hBk7
        have HB7 := Lib.hid (And.intro hBk7 (below_step HB6.out.2.2 hb7 HB6.out.2.2.size))
        clear cP h1 hb7 hBk7
        go_wp2_with (fail)
        with_reducible refine cEn.mono ?_
        rintro e w8 ⟨rfl, rfl⟩
        have cBal := bal_any HB7.out.1 (by omega) (fun l hl => by cases hl)
        clear cEn
        go_wp2_with (fail)
        with_reducible refine cBal.mono ?_
        rintro e w9 ⟨v9, n9, f9, rfl, hown9, hb9, hn9, hF9⟩
        obtain rfl : n9 = 0 := full_none hF9
        obtain ⟨A9, c9, rfl, -, -⟩ := own_len hown9
        have HB9 := Lib.hid (below_step HB7.out.2 hb9 HB7.out.2.size)
        clear cBal hown9 hb9 hF9 hn9
        go_wp2
        go_ret
        exact ⟨rfl, HB9.out⟩
end Go.Proofs.YtgadlfdioakodabDoor
