/- The walk of the law PostLines. -/
import Derived.Test.YtgadlfdioakodabDoorPlS
import Derived.Test.YtgadlfdioakodabDoorOpenP
import Derived.Lib.QuietBelow
import Derived.BigQuiet
namespace Go.Proofs.YtgadlfdioakodabDoor
open Go.RowKit Go.Sort Go.Maps
set_option linter.unusedVariables false
set_option linter.unusedSimpArgs false

/-- the law's book -/
def LB (w1 X : World) (p b c : Nat) (k : Int) (i : Nat) (M : List UInt8 → Int) : Prop :=
  BkA X p b c k M (fun l => M l != 0) ∧ BInv M ∧ (p ≠ b ∧ w1.heap.size ≤ p ∧ w1.heap.size ≤ b) ∧ (c ≤ 30 * i ∧ 0 ≤ k ∧ k ≤ 30 * (i : Int)) ∧ Below w1.heap.size w1 X
theorem LB.below {w1 X Y : World} {p b c : Nat} {k : Int} {i : Nat} {M : List UInt8 → Int} (h : LB w1 X p b c k i M) (hb : Below X.heap.size X Y) : LB w1 Y p b c k i M := by
  obtain ⟨h1, h3, h4, h5, h6⟩ := h
  exact ⟨h1.below hb, h3, h4, h5, below_step h6 hb h6.size⟩
/-- a list booked, or refused -/
theorem lb_post {w1 W : World} {p b c : Nat} {k : Int} {i : Nat} {M : List UInt8 → Int} (h : LB w1 W p b c k i M) (hi : i ≤ 100) (A : Option Addr) (n q : Nat) (f : Nat → En) (hE : EnM W A n f) (hn : n ≤ 30) (hsz : ∀ i, i < n → (f i).1.size ≤ 281474976710656) :
    Calls Tryd.prog 13 #[.pointer (some ⟨p, 0, none⟩), .slice A n q] W fun e w' => ∃ r, e = .returned (.int .i64 r) ∧ ∃ c' k' M', LB w1 w' p b c' k' (i + 1) M' := by
  have cP := ppost_any h.1 A n q f hE (by omega) hsz h.2.1.1 (fun _ => rfl) (by have := h.2.2.2.1.1; omega) (by have := h.2.2.2.1; omega)
  refine cP.mono ?_
  rintro e wx ⟨h1, h2, h3⟩
  have stay : Below W.heap.size W wx → ∃ c' k' M', LB w1 wx p b c' k' (i + 1) M' := fun hb => by
    obtain ⟨q1, q2, q3, q4, q5⟩ := h.below hb
    exact ⟨c, k, M, q1, q2, q3, ⟨by omega, by omega, by omega⟩, q5⟩
  by_cases hc : chkP f n = 0
  · by_cases hp : firstE (poE M f) n = 0
    · obtain ⟨rfl, hBk, hsz, hcm, hrr⟩ := h3 hc hp
      obtain ⟨q1, q2, q3, q4, q5⟩ := h
      exact ⟨_, rfl, c + n, k + n, _, hBk, q2.tot hc hp, q3, ⟨by omega, by omega, by omega⟩, Calm.new q5 hcm hsz hrr q3.2.1 q3.2.2⟩
    · obtain ⟨rfl, hb⟩ := h2 hc hp
      exact ⟨_, rfl, stay hb⟩
  · obtain ⟨rfl, hb⟩ := h1 hc
    exact ⟨_, rfl, stay hb⟩
set_option maxRecDepth 100000 in
set_option maxHeartbeats 16000000 in
theorem wPostLines (A : Option Addr) (n c : Nat) (g : Nat → EL) (w : World) (hT : Tab w) (hE : ElsM w A n g) (hn : n ≤ 9223372036854775807 ∧ n ≤ c) (hf : ∀ i, i < n → ElF (g i)) :
    Calls Tryd.prog 5 #[.slice A n c] w fun e w' => e = .returned (.bool true) ∧ Below w.heap.size w w' := by
  have HH := Lib.hid (And.intro hT (And.intro hE (And.intro hn hf)))
  have cB := books_any w hT
  clear hT hE hn hf
  go_enter Tryd.func5, Tryd.ntmps5
  go_wp2_with (fail)
  with_reducible refine cB.mono ?_
  rintro e w1 ⟨rfl, B1⟩
  clear cB
  by_cases h30 : n ≤ 30
  rotate_left
  · have hgt2 : decide ((30 : Int) < (n : Int)) = true := by simp; omega
    have hgt : ((30 : Int) < (n : Int)) := by omega
    clear h30
    go_wp2
    go_ret
    exact ⟨rfl, B1⟩
  have hle : decide ((30 : Int) < (n : Int)) = false := by simp; omega
  have HN := Lib.hid h30
  have HB1 := Lib.hid B1
  have cN := pnew_any w1
  clear h30 B1
  go_wp2_with (fail)
  with_reducible refine cN.mono ?_
  rintro e w2 ⟨p, b, rfl, hBk, hbl, hpl, hb2⟩
  have hLB : LB w1 w2 p b 0 0 0 (fun _ => 0) := ⟨hBk, BInv.none, ⟨hBk.2.far (hBk.1.cell (i := 0) rfl), hpl, hbl⟩, ⟨by omega, by omega, by omega⟩, hb2⟩
  clear cN hBk hbl hpl hb2
  go_wp2
  go_loopw [24] (fun j X => ∃ (i c : Nat) (k : Int) (M : List UInt8 → Int), i ≤ n ∧ j = .int .i64 i ∧ LB w1 X p b c k i M) (fun j _ => n - (intOf j).toNat)
  case atStart => exact ⟨0, 0, 0, _, Nat.zero_le _, rfl, hLB⟩
  case round =>
    clear hLB
    obtain ⟨i, cb, k, M, hi, rfl, hP⟩ := hrel
    by_cases hlt : i < n
    · have hil : (i : Int) < (n : Int) := by omega
      have hwi : wrap64 ((i : Int) + 1) = (i : Int) + 1 := IntWalk.wrap64_in _ (by have := HN.out; omega)
      have hbw := below_step HB1.out hP.2.2.2.2 HB1.out.size
      obtain ⟨bl, o, rfl, hc⟩ := HH.out.2.1 (by omega)
      obtain ⟨x0, hL⟩ := hc i hlt
      have x0 := cell_later hbw x0
      have HEW := Lib.hid (And.intro hL (HH.out.2.2.2 i hlt).2)
      have HL := Lib.hid (And.intro hlt HN.out)
      have HP := Lib.hid hP
      have HBW := Lib.hid hbw
      obtain ⟨wv, hwv⟩ : ∃ wv, wv = wr := ⟨_, rfl⟩
      subst hwv
      have Bv := Below.refl wv.heap.size wv
      clear hc hL hP hbw hlt hi
      generalize (g i).f = f at *
      generalize (g i).A = LA at *
      generalize (g i).n = m at *
      generalize (g i).c = lc at *
      by_cases h30 : m ≤ 30
      rotate_left
      · have hgt2 : decide ((30 : Int) < (m : Int)) = true := by simp; omega
        have hgt : ((30 : Int) < (m : Int)) := by omega
        clear h30
        go_wp2
        go_ret
        exact ⟨rfl, HBW.out⟩
      have hle2 : decide ((30 : Int) < (m : Int)) = false := by simp; omega
      have HM := Lib.hid h30
      clear h30
      go_wp2
      go_loopw [33] (fun j X => ∃ q : Nat, q ≤ m ∧ j = .int .i64 q ∧ Below wv.heap.size wv X) (fun j _ => m - (intOf j).toNat)
      case atStart => exact ⟨0, Nat.zero_le _, rfl, Bv⟩
      case round =>
        clear Bv
        obtain ⟨q, hq, rfl, hbX⟩ := hrel
        by_cases hlt : q < m
        · have hql : (q : Int) < (m : Int) := by omega
          have hwq : wrap64 ((q : Int) + 1) = (q : Int) + 1 := IntWalk.wrap64_in _ (by have := HM.out; omega)
          obtain ⟨bb, ob, rfl, hc⟩ := (HEW.out.1.below HBW.out).below hbX (by omega)
          obtain ⟨y0, y1⟩ := hc q hlt
          have KX := bx_new wr [.string (f q).1, .int .i64 (f q).2] 26
          have NX := below_new wr (.cells #[.string (f q).1, .int .i64 (f q).2] 26)
          have HX := Lib.hid (below_step hbX NX hbX.size)
          have kx_0 := KX.cell (i := 0) rfl
          have HQ := Lib.hid hlt
          by_cases h60 : (f q).1.size ≤ 60
          · have hl1 : decide ((60 : Int) < ((f q).1.size : Int)) = false := by simp; omega
            clear hc hbX NX KX hlt hq h60
            generalize (f q).1 = N at *
            generalize (f q).2 = v at *
            go_wp2
            exact ⟨⟨q + 1, Nat.succ_le_of_lt HQ.out, by go_num, HX.out⟩, by first | exact meas_step HQ.out | (rw [hwq]; exact meas_step HQ.out)⟩
          · have hl1 : decide ((60 : Int) < ((f q).1.size : Int)) = true := by simp; omega
            have hl2 : (60 : Int) < ((f q).1.size : Int) := by omega
            have HB := Lib.hid (below_step HBW.out HX.out HBW.out.size)
            clear hc hbX NX KX hlt hq h60
            generalize (f q).1 = N at *
            generalize (f q).2 = v at *
            go_wp2
            go_ret
            exact ⟨rfl, HB.out⟩
        · obtain rfl : q = m := by omega
          have hnl : ¬ (q : Int) < (q : Int) := by omega
          have cP := lb_post (HP.out.below hbX) (by have := HL.out; omega) LA q lc f ((HEW.out.1.below HBW.out).below hbX) HM.out (fun j hj => by have := (HEW.out.2 j hj).1; omega)
          clear hbX hlt hq
          go_wp2_with (fail)
          with_reducible refine cP.mono ?_
          rintro e wx ⟨r, rfl, c', k', M', hP'⟩
          have HP' := Lib.hid hP'
          clear cP hP'
          go_wp2
          exact ⟨⟨i + 1, c', k', M', Nat.succ_le_of_lt HL.out.1, by go_num, HP'.out⟩, by first | exact meas_step HL.out.1 | (rw [hwi]; exact meas_step HL.out.1)⟩
    · obtain rfl : i = n := by omega
      have hnl : ¬ (i : Int) < (i : Int) := by omega
      have hsz : ∀ l, (M l != 0) = true → l.length ≤ 281474976710656 := fun l hl => by have := (acc_len (hP.2.1.2.1 l (by simpa using hl))).2; omega
      have hcb : cb ≤ 100000 := by have := hP.2.2.2.1.1; have := HN.out; omega
      have cBal := bal_any hP.1 hcb hsz
      have HP := Lib.hid hP
      have HSZ := Lib.hid (And.intro hcb hsz)
      have HBW := Lib.hid (below_step HB1.out hP.2.2.2.2 HB1.out.size)
      clear hsz hcb hP hlt hi
      go_wp2_with (fail)
      with_reducible refine cBal.mono ?_
      rintro e w5 ⟨v5, n5, f5, rfl, hown5, hb5, hn5, hF5⟩
      obtain ⟨A5, c5, rfl, -, -⟩ := own_len hown5
      have hB5 := below_step HBW.out hb5 HBW.out.size
      have cL := blines_any (HP.out.1.below hb5) (HH.out.1.below hB5) HSZ.out.1 HSZ.out.2 HP.out.2.1.1
      have HE5 := Lib.hid (en_own hown5)
      have HF5 := Lib.hid hF5
      have HN5 : Hid (n5 ≤ 100000) := Lib.hid (Nat.le_trans hn5 HSZ.out.1)
      have HB5 := Lib.hid hB5
      clear cBal hown5 hb5 hn5 hF5 hB5
      go_wp2_with (fail)
      with_reducible refine cL.mono ?_
      rintro e w6 ⟨v6, n6, f6, rfl, hown6, hb6, hn6, hF6⟩
      obtain ⟨A6, c6, rfl, hA6, hg6⟩ := own_len hown6
      obtain ⟨rfl, hfe⟩ := hF6.same HF5.out
      have HE6 := Lib.hid (HE5.out.below hb6)
      have HO6 := Lib.hid hown6
      have HG6 := Lib.hid hg6
      have HFE := Lib.hid hfe
      have HB6 := Lib.hid (below_step HB5.out hb6 HB5.out.size)
      have Bw := Below.refl w6.heap.size w6
      have hqq : ((n6 : Int) != (n6 : Int)) = false := by simp
      clear cL hown6 hb6 hn6 hF6 hA6 hg6 hfe
      go_wp2
      go_loopw [57] (fun j X => ∃ q : Nat, q ≤ n6 ∧ j = .int .i64 q ∧ Below w6.heap.size w6 X) (fun j _ => n6 - (intOf j).toNat)
      case atStart => exact ⟨0, Nat.zero_le _, rfl, Bw⟩
      case round =>
        clear Bw
        obtain ⟨q, hq, rfl, hbX⟩ := hrel
        by_cases hlt : q < n6
        · have hql : (q : Int) < (n6 : Int) := by omega
          have hwq : wrap64 ((q : Int) + 1) = (q : Int) + 1 := IntWalk.wrap64_in _ (by have := HN5.out; omega)
          obtain ⟨g6, rfl⟩ := HG6.out (by omega)
          have x0 : wr.cell? ⟨g6, q, none⟩ = some (.string (lineE (f5 q))) := cell_later hbX (own_cells HO6.out (by
            unfold linE
            rw [List.getElem?_map, List.getElem?_range hlt, ← HFE.out q hlt]
            rfl))
          obtain ⟨b5, o5, rfl, hc⟩ := HE6.out.below hbX (by omega)
          obtain ⟨y0, y1⟩ := hc q hlt
          have hM1 := HP.out.2.1.pos HF5.out hlt
          have hM2 := HP.out.2.1.2.1 _ hM1.1
          have hM3 := HP.out.2.1.1 (acc f5 q)
          rw [← HF5.out.2.1 q hlt] at hM3
          have hv := amtB_yes hM3
          have hcv := cut_line (x := (f5 q).2) hM2 (by omega) (by omega)
          have hln : (lineE (f5 q)).data.toList = acc f5 q ++ [32] ++ txt (f5 q).2 := by
            unfold lineE acc
            simp
          have hls : (lineE (f5 q)).size ≤ 4611686018427387904 := by
            have h1 : (lineE (f5 q)).size = (lineE (f5 q)).data.toList.length := by simp
            have h2 := (acc_len hM2).2
            have h3 := txt_len (f5 q).2 (by omega) (by omega)
            rw [h1, hln]
            simp only [List.length_append, List.length_cons, List.length_nil]
            omega
          have cC := cut_any (lineE (f5 q)) wr hls
          unfold CuP at cC
          rw [hln, hcv] at cC
          have cP := fun W => parse_any ⟨(txt (f5 q).2).toArray⟩ W (by
            have h3 := txt_len (f5 q).2 (by omega) (by omega)
            simp only [ByteArray.size, List.size_toArray]; omega)
          simp only [List.toList_toArray] at cP
          rw [parse_txt (f5 q).2 (by omega) (by omega), hM3, if_pos rfl] at cP
          have hac : (⟨(acc f5 q).toArray⟩ : ByteArray) = (f5 q).1 := by unfold acc; simp
          have HAC := Lib.hid hac
          have HX := Lib.hid hbX
          have HQ := Lib.hid hlt
          clear hc hM1 hM2 hM3 hv hcv hln hls hac hbX hlt hq
          generalize lineE (f5 q) = ln at *
          have HTX : Hid (sv (txt (f5 q).2) = .string ⟨(txt (f5 q).2).toArray⟩) := Lib.hid rfl
          generalize (⟨(txt (f5 q).2).toArray⟩ : ByteArray) = tx at *
          go_wp2_with (fail)
          with_reducible refine cC.mono ?_
          rintro e w7 ⟨v7, rfl, hr7, hb7⟩
          unfold Rs at hr7
          obtain ⟨A7, c7, rfl, -, hg7⟩ := own_len hr7
          obtain ⟨g7, rfl⟩ := hg7 (Nat.succ_pos _)
          have z0 : w7.cell? ⟨g7, 0, none⟩ = some (.string (f5 q).1) := by
            have h := own_cells hr7 (j := 0) (u := sv (acc f5 q)) rfl
            unfold sv at h
            rwa [HAC.out] at h
          have z1 : w7.cell? ⟨g7, 1, none⟩ = some (.string tx) := by
            have h := own_cells hr7 (j := 1) (u := sv (txt (f5 q).2)) rfl
            rwa [HTX.out] at h
          replace y0 := cell_later hb7 y0
          replace y1 := cell_later hb7 y1
          have hB7 := below_step HX.out hb7 HX.out.size
          have HB7 := Lib.hid hB7
          rw [show [acc f5 q, txt (f5 q).2].length = 2 from rfl] at *
          clear cC hr7 hb7 x0 hg7 hB7
          generalize (f5 q).1 = N at *
          generalize (f5 q).2 = v at *
          go_wp2
          go_quiet (fail)
          have HB8 := Lib.hid (below_drewN HB7.out nq)
          go_wp2_with (fail)
          with_reducible refine (cP _).mono ?_
          rintro e w9 ⟨rfl, hb9⟩
          replace y1 := cell_later (show Below w7.heap.size w7 w9 from (below_drewN (Below.refl w7.heap.size w7) nq).trans hb9) y1
          have HB9 := Lib.hid (below_step HB8.out hb9 HB8.out.size)
          clear cP hb9 z0 z1 y0
          go_wp2
          exact ⟨⟨q + 1, Nat.succ_le_of_lt HQ.out, by go_num, HB9.out⟩, by first | exact meas_step HQ.out | (rw [hwq]; exact meas_step HQ.out)⟩
        · obtain rfl : q = n6 := by omega
          have hnl : ¬ (q : Int) < (q : Int) := by omega
          have HX := Lib.hid (below_step HB6.out hbX HB6.out.size)
          clear hbX hlt hq
          go_wp2
          go_ret
          exact ⟨rfl, HX.out⟩
end Go.Proofs.YtgadlfdioakodabDoor
