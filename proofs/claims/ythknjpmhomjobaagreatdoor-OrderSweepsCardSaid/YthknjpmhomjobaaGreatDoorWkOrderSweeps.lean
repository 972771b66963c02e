/- The walk of the law OrderSweeps. -/
import Derived.Test.YthknjpmhomjobaaGreatDoorWds
import Derived.Test.YthknjpmhomjobaaGreatDoorBkX
namespace Go.Proofs.YthknjpmhomjobaaGreatDoor
open Go.RowKit Go.Sort
set_option linter.unusedVariables false
set_option linter.unusedSimpArgs false

/-- what holds of a book, whatever was taken -/
def InvW (f : Nat → Sta) (n : Nat) : Prop := (∀ i, i < n → (f i).chk = 0 ∧ amtB (f i).tk = true) ∧ ∀ i k, i < n → k < n → (f i).id = (f k).id → i = k
theorem InvB.w {f : Nat → Sta} {n : Nat} (h : InvB f n) : InvW f n := ⟨fun i hi => ⟨(h.ok i hi).1, amtB_mk (by have := (h.ok i hi).2.1; omega) (by have := (h.ok i hi).2.1; omega)⟩, h.2⟩
theorem twF_chk (f : Nat → Sta) (n : Nat) (t : Nat → Tkn) : ∀ k j, (twF f n t k j).chk = (f j).chk
  | 0, _ => rfl
  | k + 1, j => by
    show (upF (twF f n t k) (plc f (t k).o n).toNat (t k) j).chk = _
    unfold upF
    split
    · exact twF_chk f n t k j
    · exact twF_chk f n t k j
theorem InvW.took {f : Nat → Sta} {n : Nat} {t : Nat → Tkn} {m : Nat} (h : InvW f n) (he : fsE (twE f n t) m = 0) : InvW (twF f n t m) n :=
  ⟨fun i hi => ⟨(twF_chk f n t m i).trans (h.1 i hi).1, twF_amt (fun j hj => (h.1 j hj).2) m he i hi⟩, fun i k hi hk e => h.2 i k hi hk (by rw [twF_id, twF_id] at e; exact e)⟩
theorem InvW.tot {f : Nat → Sta} {n : Nat} (h : InvW f n) : ∀ i, i < n → (0 ≤ (f i).tot ∧ (f i).tot ≤ 100000000000) ∧ amtB (f i).tk = true := fun i hi => ⟨(chkO_zero (h.1 i hi).1).2.2.2.2.1, (h.1 i hi).2⟩
/-- what Add leaves, whatever is put in -/
def AnQ (p : Nat) (i0 p0 a0 r0 t0 : Int) (w : World) (e : Ending) (w' : World) : Prop := ∃ (v : Int) (n : Nat) (f : Nat → Sta), e = .returned (.int .i64 v) ∧ (v = 0 → chkO i0 p0 a0 r0 t0 = 0) ∧ n ≤ 8 ∧ InvB f n ∧ Bk w' p n f ∧ RelP p w w'
theorem add_invQ (p n : Nat) (f : Nat → Sta) (i0 p0 a0 r0 t0 : Int) (w : World) (h : Bk w p n f) (hn : n ≤ 8) (hi : InvB f n) :
    Calls Tryz.prog 14 #[.pointer (some ⟨p, 0, none⟩), .agg #[.int .i64 i0, .int .i64 p0, .int .i64 a0, .int .i64 r0, .int .i64 t0]] w (AnQ p i0 p0 a0 r0 t0 w) := by
  by_cases hc : chkO i0 p0 a0 r0 t0 = 0
  · exact (add_inv p n f i0 p0 a0 r0 t0 w h hn hi).mono fun e w' ⟨v, n', f', he, h1, h2, h3, h4⟩ => ⟨v, n', f', he, fun _ => hc, h1, h2, h3, h4⟩
  · exact (add_no p n f i0 p0 a0 r0 t0 w h hn hc).mono fun e w' ⟨he, hb⟩ => ⟨_, n, f, he, fun e => e, hn, hi, h.below hb, RelP.of hb⟩
set_option maxRecDepth 100000 in
set_option maxHeartbeats 4000000 in
theorem osw_long (A : Option Addr) (N c : Nat) (A2 : Option Addr) (m c2 : Nat) (w : World) (h : 20 < N ∨ (N ≤ 20 ∧ 20 < m)) :
    Calls Tryz.prog 6 #[.slice A N c, .slice A2 m c2] w fun e w' => e = .returned (.bool true) ∧ Below w.heap.size w w' := by
  rcases h with h | ⟨h, h2⟩
  · have q0 : decide (20 < (N : Int)) = true := decide_eq_true (by omega)
    go_enter Tryz.func6, Tryz.ntmps6
    go_wp2_with (fail)
    with_reducible refine (obooks_any _).mono ?_
    rintro e w1 ⟨rfl, B1⟩
    go_wp2
    go_ret
    exact ⟨rfl, B1⟩
  · have q0 : decide (20 < (N : Int)) = false := decide_eq_false (by omega)
    have q1 : decide (20 < (m : Int)) = true := decide_eq_true (by omega)
    have q2 : ¬ 20 < N := by omega
    go_enter Tryz.func6, Tryz.ntmps6
    go_wp2_with (fail)
    with_reducible refine (obooks_any _).mono ?_
    rintro e w1 ⟨rfl, B1⟩
    go_wp2
    go_ret
    exact ⟨rfl, B1⟩
set_option maxRecDepth 100000 in
set_option maxHeartbeats 16000000 in
theorem osw_any (A : Option Addr) (N c : Nat) (g : Nat → Sta) (A2 : Option Addr) (m c2 : Nat) (t : Nat → Tkn) (w : World) (hT : Tab w) (hA : Ods w A N g) (hP : Tks w A2 m t) (hN : N ≤ 20) (hm : m ≤ 20) :
    Calls Tryz.prog 6 #[.slice A N c, .slice A2 m c2] w fun e w' => e = .returned (.bool true) ∧ Below w.heap.size w w' := by
  have q0 : decide (20 < (N : Int)) = false := decide_eq_false (by omega)
  have q1 : decide (20 < (m : Int)) = false := decide_eq_false (by omega)
  have q2 : ¬ 20 < N := by omega
  have q3 : ¬ 20 < m := by omega
  have HA := Lib.hid hA
  have HPP := Lib.hid hP
  have HTT := Lib.hid hT
  clear hA hP hT
  go_enter Tryz.func6, Tryz.ntmps6
  go_wp2_with (fail)
  with_reducible refine (obooks_any _).mono ?_
  rintro e w1 ⟨rfl, B1⟩
  have NB := below_new w1 (.cells #[.slice none 0 0] 35)
  have K := bx_new w1 [.slice none 0 0] 35
  have B2 := below_step B1 NB B1.size
  have hbk : Bk (w1.alloc (.cells #[.slice none 0 0] 35)) w1.heap.size 0 g := ⟨none, 0, K, fun h0 => absurd h0 (Nat.lt_irrefl 0), fun _ => rfl, fun _ _ e => (nomatch e)⟩
  have hinv : InvB g 0 := ⟨fun i hi => absurd hi (Nat.not_lt_zero i), fun i _ hi => absurd hi (Nat.not_lt_zero i)⟩
  have hwp : w.heap.size ≤ w1.heap.size := B1.size
  clear NB K B1
  go_wp2
  generalize w1.alloc (.cells #[.slice none 0 0] 35) = w2 at *
  generalize w1.heap.size = p at *
  go_loopw [40] (fun k W => ∃ (i n : Nat) (f : Nat → Sta), i ≤ N ∧ k = .int .i64 i ∧ n ≤ 8 ∧ InvB f n ∧ Bk W p n f ∧ Below w.heap.size w W) (fun k _ => N - (intOf k).toNat)
  case atStart => exact ⟨0, 0, g, Nat.zero_le _, rfl, by omega, hinv, hbk, B2⟩
  case round =>
    clear hinv hbk B2
    obtain ⟨i, n, f, hi, rfl, hn, hinv, hbk, hB⟩ := hrel
    by_cases hlt : i < N
    · obtain ⟨b, o, rfl, hc⟩ := (HA.out.below hB) (by omega)
      obtain ⟨c0, c1, c2', c3, c4⟩ := hc i hlt
      have hil : (i : Int) < (N : Int) := by omega
      have hi1 : i + 1 ≤ N := hlt
      have cA := fun W hb => add_invQ p n f (g i).id (g i).pr (g i).am (g i).rt (g i).tot W hb hn hinv
      clear hc
      generalize (g i).id = x0 at *
      generalize (g i).pr = x1 at *
      generalize (g i).am = x2 at *
      generalize (g i).rt = x3 at *
      generalize (g i).tot = x4 at *
      have K := bx_new wr [.int .i64 x0, .int .i64 x1, .int .i64 x2, .int .i64 x3, .int .i64 x4] 23
      have NB := below_new wr (.cells (List.toArray [.int .i64 x0, .int .i64 x1, .int .i64 x2, .int .i64 x3, .int .i64 x4]) 23)
      have B4 := below_step hB NB hB.size
      have hb4 := hbk.below NB
      have k_0 := K.cell (i := 0) rfl
      have k_1 := K.cell (i := 1) rfl
      have k_2 := K.cell (i := 2) rfl
      have k_3 := K.cell (i := 3) rfl
      have k_4 := K.cell (i := 4) rfl
      have hz := B4.size
      have hqp : wr.heap.size ≠ p := by have := hbk.lt; omega
      have HK := Lib.hid K
      clear NB K hB hbk hinv hn
      go_wp2_with (fail)
      with_reducible refine (cA _ hb4).mono ?_
      rintro e w5 ⟨v, n', f', rfl, hv0, hn', hinv', hbk', hr⟩
      have B5 := hr.below B4 hz hwp
      have K5 := hr.bx HK.out hqp
      clear cA hb4 c0 c1 c2' c3 c4 hr B4 HK
      clear k_0 k_1 k_2 k_3 k_4
      by_cases hv : v = 0
      · have hchk := hv0 hv
        have hz5 := chkO_zero hchk
        have cW := owords_any x0 x1 x2 x3 x4 (by omega) (by omega) (by omega) (by omega) (by omega) w5 (HTT.out.below B5)
        obtain ⟨z0, z1, z2, z3, z4, hzz, aP⟩ := parse_od x0 x1 x2 x3 x4 (by omega) (by omega) (by omega) (by omega) (by omega) 0 hchk
        obtain ⟨_, rfl, rfl, rfl, rfl, rfl⟩ : 0 = (0 : Int) ∧ z0 = x0 ∧ z1 = x1 ∧ z2 = x2 ∧ z3 = x3 ∧ z4 = x4 := by
          rcases hzz with h | h
          · exact h
          · exact absurd rfl h.1
        have tv : (v == 0) = true := by simp [hv]
        have HB5 := Lib.hid B5
        have HIN := Lib.hid hinv'
        have HBK := Lib.hid hbk'
        clear hv hv0 hchk hz5 hzz B5 hinv' hbk'
        have q_0 := K5.cell (i := 0) rfl
        have q_1 := K5.cell (i := 1) rfl
        have q_2 := K5.cell (i := 2) rfl
        have q_3 := K5.cell (i := 3) rfl
        have q_4 := K5.cell (i := 4) rfl
        have HK5 := Lib.hid K5
        clear K5
        go_wp2_with (fail)
        with_reducible refine cW.mono ?_
        rintro e w6 ⟨gw, rfl, hrow, C6⟩
        have cP := aP gw w6 hrow
        have HK6 := Lib.hid (HK5.out.below C6)
        have HB6 := Lib.hid (below_step HB5.out C6 HB5.out.size)
        have HBK6 := Lib.hid (HBK.out.below C6)
        clear cW hrow C6 HK5 HB5 HBK aP
        clear q_0 q_1 q_2 q_3 q_4
        go_wp2_with (fail)
        with_reducible refine cP.mono ?_
        rintro e w7 ⟨rfl, C7⟩
        have HK7 := HK6.out.below C7
        have HB7 := Lib.hid (below_step HB6.out C7 HB6.out.size)
        have HBK7 := Lib.hid (HBK6.out.below C7)
        have KN := bx_new w7 [.int .i64 z0, .int .i64 z1, .int .i64 z2, .int .i64 z3, .int .i64 z4] 23
        have NB := below_new w7 (.cells (List.toArray [.int .i64 z0, .int .i64 z1, .int .i64 z2, .int .i64 z3, .int .i64 z4]) 23)
        have HK8 := HK7.below NB
        have HB8 := Lib.hid (below_step HB7.out NB HB7.out.size)
        have HBK8 := Lib.hid (HBK7.out.below NB)
        have r_0 := KN.cell (i := 0) rfl
        have r_1 := KN.cell (i := 1) rfl
        have r_2 := KN.cell (i := 2) rfl
        have r_3 := KN.cell (i := 3) rfl
        have r_4 := KN.cell (i := 4) rfl
        have q_0 := HK8.cell (i := 0) rfl
        have q_1 := HK8.cell (i := 1) rfl
        have q_2 := HK8.cell (i := 2) rfl
        have q_3 := HK8.cell (i := 3) rfl
        have q_4 := HK8.cell (i := 4) rfl
        clear cP C7 HK6 HB6 HBK6 HB7 HBK7 NB KN HK8 HK7
        go_wp2
        refine ⟨⟨i + 1, n', f', hi1, by go_num, hn', HIN.out, HBK8.out, HB8.out⟩, meas_step hlt⟩
      · have tv : (v == 0) = false := by simp [hv]
        clear hv hv0
        go_wp2
        refine ⟨⟨i + 1, n', f', hi1, by go_num, hn', hinv', hbk', B5⟩, meas_step hlt⟩
    · obtain rfl : N = i := by omega
      have hnl : ¬ (N : Int) < (N : Int) := by omega
      have HIW := Lib.hid hinv.w
      clear HA hinv hlt hi
      go_wp2
      go_loopw [63] (fun s W => ∃ (k n : Nat) (f : Nat → Sta), k ≤ m ∧ s = .int .i64 k ∧ n ≤ 8 ∧ InvW f n ∧ Bk W p n f ∧ Below w.heap.size w W) (fun s _ => m - (intOf s).toNat)
      case atStart => exact ⟨0, n, f, Nat.zero_le _, rfl, hn, HIW.out, hbk, hB⟩
      case round =>
        clear hbk hB hn HIW
        clear n f
        obtain ⟨k, n, f, hk, rfl, hn, hinv, hbk, hB⟩ := hrel
        by_cases hlk : k < m
        · obtain ⟨b, o, rfl, hc⟩ := (HPP.out.below hB) (by omega)
          obtain ⟨d0, d1, d2, d3, d4, d5⟩ := hc k hlk
          have hkl : (k : Int) < (m : Int) := by omega
          have hkm : k + 1 ≤ m := hlk
          obtain ⟨xx, hxx⟩ : ∃ x, t k = x := ⟨_, rfl⟩
          rw [hxx] at d0 d1 d2 d3 d4 d5
          have HI := Lib.hid hinv
          clear hc hxx hinv
          obtain ⟨x0, x1, x2, x3, x4, x5⟩ := xx
          replace d0 : wr.cell? ⟨b, o + k * 6, none⟩ = some (.int .i64 x0) := d0
          replace d1 : wr.cell? ⟨b, o + k * 6 + 1, none⟩ = some (.int .i64 x1) := d1
          replace d2 : wr.cell? ⟨b, o + k * 6 + 2, none⟩ = some (.int .i64 x2) := d2
          replace d3 : wr.cell? ⟨b, o + k * 6 + 3, none⟩ = some (.int .i64 x3) := d3
          replace d4 : wr.cell? ⟨b, o + k * 6 + 4, none⟩ = some (.int .i64 x4) := d4
          replace d5 : wr.cell? ⟨b, o + k * 6 + 5, none⟩ = some (.int .i64 x5) := d5
          have K := bx_new wr [.int .i64 x0, .int .i64 x1, .int .i64 x2, .int .i64 x3, .int .i64 x4, .int .i64 x5] 48
          have NB := below_new wr (.cells (List.toArray [.int .i64 x0, .int .i64 x1, .int .i64 x2, .int .i64 x3, .int .i64 x4, .int .i64 x5]) 48)
          have B1 := below_step hB NB hB.size
          have HB1 := Lib.hid (hbk.below NB)
          have z_0 := K.cell (i := 0) rfl
          have z_1 := K.cell (i := 1) rfl
          have z_2 := K.cell (i := 2) rfl
          have z_3 := K.cell (i := 3) rfl
          have z_4 := K.cell (i := 4) rfl
          have z_5 := K.cell (i := 5) rfl
          have hsz : (wr.alloc (.cells (List.toArray [.int .i64 x0, .int .i64 x1, .int .i64 x2, .int .i64 x3, .int .i64 x4, .int .i64 x5]) 48)).heap.size = wr.heap.size + 1 := by simp
          have K2 := bx_at (wr.alloc (.cells (List.toArray [.int .i64 x0, .int .i64 x1, .int .i64 x2, .int .i64 x3, .int .i64 x4, .int .i64 x5]) 48)) [.int .i64 x0, .int .i64 x1, .int .i64 x2, .int .i64 x3, .int .i64 x4, .int .i64 x5] 48 hsz
          have NB2 := below_new (wr.alloc (.cells (List.toArray [.int .i64 x0, .int .i64 x1, .int .i64 x2, .int .i64 x3, .int .i64 x4, .int .i64 x5]) 48)) (.cells (List.toArray [.int .i64 x0, .int .i64 x1, .int .i64 x2, .int .i64 x3, .int .i64 x4, .int .i64 x5]) 48)
          have HB2 := Lib.hid (below_step B1 NB2 B1.size)
          have cT := took_all p n 1 1 f (fun _ => ⟨x0, x1, x2, x3, x4, x5⟩) (some ⟨wr.heap.size + 1, 0, none⟩) _ (HB1.out.below NB2) (by omega) (fun _ => ⟨wr.heap.size + 1, 0, rfl, fun i hi => by
            obtain rfl : i = 0 := by omega
            exact ⟨K2.cell (i := 0) rfl, K2.cell (i := 1) rfl, K2.cell (i := 2) rfl, K2.cell (i := 3) rfl, K2.cell (i := 4) rfl, K2.cell (i := 5) rfl⟩⟩) (by omega)
          have HBN := Lib.hid (HB1.out.below NB2)
          clear K NB B1 hB hbk HB1 hsz K2 NB2
          go_wp2_with (fail)
          with_reducible refine cT.mono ?_
          rintro e w5 ⟨rfl, hr, hgood, hbad⟩
          have B5 := hr.below HB2.out HB2.out.size hwp
          obtain ⟨eT, heT⟩ : ∃ eT, fsE (twE f n fun _ => ⟨x0, x1, x2, x3, x4, x5⟩) 1 = eT := ⟨_, rfl⟩
          rw [heT] at hgood hbad ⊢
          have HET := Lib.hid heT
          have HG := Lib.hid (And.intro hgood hbad)
          clear cT hr hgood hbad heT HB2 z_0 z_1 z_2 z_3 z_4 z_5 d0 d1 d2 d3 d4 d5
          go_wp2
          by_cases he : eT = 0
          · exact ⟨⟨k + 1, n, _, hkm, by go_num, hn, HI.out.took (HET.out.trans he), HG.out.1 he, B5⟩, meas_step hlk⟩
          · exact ⟨⟨k + 1, n, f, hkm, by go_num, hn, HI.out, HBN.out.below (HG.out.2 he), B5⟩, meas_step hlk⟩
        · obtain rfl : m = k := by omega
          have hnl2 : ¬ (m : Int) < (m : Int) := by omega
          have HI := Lib.hid hinv
          have cL := list_any p n f wr hbk (by omega)
          have hpw := hbk.lt
          have HBK := Lib.hid hbk
          have HB0 := Lib.hid hB
          clear hinv hbk hB HPP
          go_wp2_with (fail)
          with_reducible refine cL.mono ?_
          rintro e wa ⟨va, rfl, hown, Ca⟩
          obtain ⟨Aw, cw, rfl, _, _⟩ := own_len hown
          have HBa := Lib.hid (HBK.out.below Ca)
          have HLa := Lib.hid (below_step HB0.out Ca HB0.out.size)
          have HOa := Lib.hid hown
          have cO := owed_any p n f wa HBa.out (by omega) HI.out.tot
          clear cL hown Ca HBK HB0
          go_wp2_with (fail)
          with_reducible refine cO.mono ?_
          rintro e wb ⟨a, b, cc, rfl, hy, hno, Cb⟩
          have HBb := Lib.hid (HBa.out.below Cb)
          have HLb := Lib.hid (below_step HLa.out Cb HLa.out.size)
          have HOb := Lib.hid (own_below HOa.out Cb)
          have HYN := Lib.hid (And.intro hy hno)
          clear cO hy hno Cb HBa HLa HOa
          go_wp2
          go_loopw [16, 17, 18, 79] (fun s16 s17 s18 s79 W => ∃ j : Nat, j ≤ n ∧ s16 = .int .i64 (owS f j) ∧ s17 = .int .i64 (owN f j : Nat) ∧ s18 = .bool (owB f j) ∧ s79 = .int .i64 j ∧ Below wb.heap.size wb W) (fun _ _ _ s79 _ => n - (intOf s79).toNat)
          case atStart => exact ⟨0, Nat.zero_le _, rfl, rfl, rfl, rfl, Below.refl _ _⟩
          case round =>
            obtain ⟨j, hj, rfl, rfl, rfl, rfl, hBj⟩ := hrel
            by_cases hjn : j < n
            · obtain ⟨gx, rfl, d0, d1, d2, d3, d4, d5, d6⟩ := own7_at (own_below HOb.out hBj) hjn
              have hjl : (j : Int) < (n : Int) := by omega
              have hj1 : j + 1 ≤ n := hjn
              obtain ⟨ht, hka⟩ := HI.out.tot j hjn
              have hk5 := amtB_yes hka
              have hraw := owS_raw (f := f) j
              have hN := owN_le f j
              have eB : owB f (j + 1) = (owB f j && decide ((f j).tot = 0 ∨ (lfX (f j) = false ∧ ((f j).tot - (f j).tk ≤ 0 ∨ owS f j + ((f j).tot - (f j).tk) ≤ 100000000000)))) := rfl
              have eS : owS f (j + 1) = if (f j).tot = 0 ∨ lfX (f j) = true ∨ (f j).tot - (f j).tk ≤ 0 then owS f j else owS f j + ((f j).tot - (f j).tk) := rfl
              have eN : owN f (j + 1) = if (f j).tot = 0 then owN f j + 1 else owN f j := rfl
              have eX : lfX (f j) = (decide (100000000000 < (f j).tot - (f j).tk) || decide ((f j).tot - (f j).tk < -100000000000)) := rfl
              rw [eX] at eB eS
              clear eX hka
              generalize (f j).id = x0 at *
              generalize (f j).pr = x1 at *
              generalize (f j).am = x2 at *
              generalize (f j).rt = x3 at *
              generalize (f j).tot = x4 at *
              generalize (f j).tk = x5 at *
              generalize (f j).ar = x6 at *
              obtain ⟨S, hS⟩ : ∃ S, owS f j = S := ⟨_, rfl⟩
              obtain ⟨M, hM⟩ : ∃ M, owN f j = M := ⟨_, rfl⟩
              obtain ⟨bb, hbb⟩ : ∃ bb, owB f j = bb := ⟨_, rfl⟩
              rw [hS] at hraw eB eS ⊢
              rw [hM] at hN eN ⊢
              rw [hbb] at eB ⊢
              have HEB := Lib.hid eB
              have HES := Lib.hid eS
              have HEN := Lib.hid eN
              have hSb : 0 ≤ S ∧ S ≤ 800000000000 := by omega
              clear eB eS eN hS hM hbb hraw
              have K := bx_new wr [.int .i64 x0, .int .i64 x1, .int .i64 x2, .int .i64 x3, .int .i64 x4, .int .i64 x5, .int .i64 x6] 50
              have NB := below_new wr (.cells (List.toArray [.int .i64 x0, .int .i64 x1, .int .i64 x2, .int .i64 x3, .int .i64 x4, .int .i64 x5, .int .i64 x6]) 50)
              have z_0 := K.cell (i := 0) rfl
              have z_1 := K.cell (i := 1) rfl
              have z_2 := K.cell (i := 2) rfl
              have z_3 := K.cell (i := 3) rfl
              have z_4 := K.cell (i := 4) rfl
              have z_5 := K.cell (i := 5) rfl
              have z_6 := K.cell (i := 6) rfl
              have HBE := Lib.hid (below_step hBj NB hBj.size)
              obtain ⟨l, hl⟩ : ∃ l, l = x4 - x5 := ⟨_, rfl⟩
              have hw1 : wrap64 (x4 - x5) = l := by rw [hl]; exact IntWalk.wrap64_in _ (by omega)
              have hlb : -200000000000 ≤ l ∧ l ≤ 200000000000 := by omega
              have HEB2 := HEB.out
              have HES2 := HES.out
              rw [← hl] at HEB2 HES2
              have HEB := Lib.hid HEB2
              have HES := Lib.hid HES2
              clear K NB hBj HEB2 HES2 hl HOb HI HBb HLb HYN ht hk5
              have hn1 : wrap64 ((M : Int) + 1) = (M : Int) + 1 := IntWalk.wrap64_in _ (by omega)
              by_cases h0 : x4 = 0
              · have t0 : (x4 == 0) = true := by simp [h0]
                have H0 := Lib.hid h0
                clear h0 hw1 hlb hSb
                go_wp2
                refine ⟨⟨j + 1, hj1, by rw [HES.out, if_pos (.inl H0.out)], by rw [HEN.out, if_pos H0.out]; go_num, by rw [HEB.out, decide_eq_true (.inl H0.out), Bool.and_true], by go_num, HBE.out⟩, meas_step hjn⟩
              · have t0 : (x4 == 0) = false := by simp [h0]
                have H0 := Lib.hid h0
                clear h0
                by_cases h1 : 100000000000 < l
                · have t1 : decide (100000000000 < l) = true := decide_eq_true h1
                  have HX : Hid ((decide (100000000000 < l) || decide (l < -100000000000)) = true) := Lib.hid (by rw [t1]; rfl)
                  go_wp2
                  refine ⟨⟨j + 1, hj1, by rw [HES.out, if_pos (.inr (.inl HX.out))], by rw [HEN.out, if_neg H0.out], ?_, by go_num, HBE.out⟩, meas_step hjn⟩
                  rw [HEB.out, HX.out, decide_eq_false (by rintro (h | ⟨h, _⟩); exact H0.out h; cases h), Bool.and_false]
                · have t1 : decide (100000000000 < l) = false := decide_eq_false h1
                  by_cases h2 : l < -100000000000
                  · have t2 : decide (l < -100000000000) = true := decide_eq_true h2
                    have HX : Hid ((decide (100000000000 < l) || decide (l < -100000000000)) = true) := Lib.hid (by rw [t2, Bool.or_true])
                    go_wp2
                    refine ⟨⟨j + 1, hj1, by rw [HES.out, if_pos (.inr (.inl HX.out))], by rw [HEN.out, if_neg H0.out], ?_, by go_num, HBE.out⟩, meas_step hjn⟩
                    rw [HEB.out, HX.out, decide_eq_false (by rintro (h | ⟨h, _⟩); exact H0.out h; cases h), Bool.and_false]
                  · have t2 : decide (l < -100000000000) = false := decide_eq_false h2
                    have HX : Hid ((decide (100000000000 < l) || decide (l < -100000000000)) = false) := Lib.hid (by rw [t1, t2]; rfl)
                    by_cases h3 : 0 < l
                    · have t3 : decide (0 < l) = true := decide_eq_true h3
                      have HL := Lib.hid h3
                      obtain ⟨sl, hsl⟩ : ∃ sl, sl = S + l := ⟨_, rfl⟩
                      have hn2 : wrap64 (S + l) = sl := by rw [hsl]; exact IntWalk.wrap64_in _ (by omega)
                      have HSL := Lib.hid hsl
                      obtain ⟨q, hq⟩ : ∃ q, decide (sl ≤ 100000000000) = q := ⟨_, rfl⟩
                      have HQ := Lib.hid hq
                      have HREL : Hid (owS f (j + 1) = sl ∧ owN f (j + 1) = M ∧ owB f (j + 1) = (bb && q)) := Lib.hid (by
                        refine ⟨?_, ?_, ?_⟩
                        · rw [HES.out, if_neg (by rintro (h | h | h); exact H0.out h; rw [HX.out] at h; cases h; omega), hsl]
                        · rw [HEN.out, if_neg H0.out]
                        · rw [HEB.out, ← hq, HX.out, hsl]
                          congr 1
                          exact decide_eq_decide.2 ⟨fun h => by rcases h with h | ⟨_, h | h⟩; exact absurd h H0.out; omega; exact h, fun h => .inr ⟨rfl, .inr h⟩⟩)
                      clear hsl
                      cases bb
                      · go_wp2
                        refine ⟨⟨j + 1, hj1, by rw [HREL.out.1, HSL.out], by rw [HREL.out.2.1], by rw [HREL.out.2.2]; rfl, by go_num, HBE.out⟩, meas_step hjn⟩
                      · go_wp2
                        refine ⟨⟨j + 1, hj1, by rw [HREL.out.1, HSL.out], by rw [HREL.out.2.1], by rw [HREL.out.2.2, ← HQ.out, HSL.out]; rfl, by go_num, HBE.out⟩, meas_step hjn⟩
                    · have t3 : decide (0 < l) = false := decide_eq_false h3
                      have HL : Hid (l ≤ 0) := Lib.hid (by omega)
                      go_wp2
                      refine ⟨⟨j + 1, hj1, by rw [HES.out, if_pos (.inr (.inr HL.out))], by rw [HEN.out, if_neg H0.out], ?_, by go_num, HBE.out⟩, meas_step hjn⟩
                      rw [HEB.out, decide_eq_true (.inr ⟨HX.out, .inl HL.out⟩), Bool.and_true]
            · obtain rfl : n = j := by omega
              have hnl3 : ¬ (n : Int) < (n : Int) := by omega
              have HBw := Lib.hid (HBb.out.below hBj)
              have HOw := Lib.hid (own_below HOb.out hBj)
              have HLw := Lib.hid (below_step HLb.out hBj HLb.out.size)
              obtain ⟨bo, hbo⟩ : ∃ bo, owB f n = bo := ⟨_, rfl⟩
              have HYM := HYN.out
              rw [hbo] at HYM ⊢
              have HYN2 := Lib.hid HYM
              clear hBj HBb HOb HLb HYN HYM hbo
              go_upto_if 116 with fail
              go_cut [117] from 115 to 138 (fun s117 wx => wx = wr)
              case first =>
                cases bo
                · obtain ⟨ha, hb, hc⟩ := HYN2.out.2 rfl
                  have t1 : (cc != 10) = false := by simp [hc]
                  have t2 : (a != 0) = false := by simp [ha]
                  have t3 : (b != 0) = false := by simp [hb]
                  clear ha hb hc
                  go_wp2
                  go_meet
                  case rel => rfl
                · obtain ⟨ha, hb, hc⟩ := HYN2.out.1 rfl
                  have t1 : (cc != 0) = false := by simp [hc]
                  have t2 : (a != owS f n) = false := by simp [ha]
                  have t3 : (b != (owN f n : Nat)) = false := by simp [hb]
                  clear ha hb hc
                  go_wp2
                  go_meet
                  case rel => rfl
              case rest =>
                subst hcut
                have cS := sweep_any p n f _ HBw.out (by omega)
                have HPW := Lib.hid hpw
                clear HYN2
                go_wp2_with (fail)
                with_reducible refine cS.mono ?_
                rintro e we ⟨vg, rfl, hog, hbk2, hr⟩
                obtain ⟨Ag, cg, rfl, _, _⟩ := own_len hog
                have HGe := Lib.hid hog
                have HWe := Lib.hid (own_rel HOw.out hr hpw)
                have HBe := Lib.hid hbk2
                have HLe := Lib.hid (hr.below HLw.out HLw.out.size hwp)
                have hkn := kC_le f n
                have cL := list_any p (kC f n) (kF f n) we HBe.out (by omega)
                clear cS hog hbk2 hr HBw HOw HLw
                go_wp2_with (fail)
                with_reducible refine cL.mono ?_
                rintro e wn ⟨vn, rfl, hon, Cn⟩
                obtain ⟨An, cn, rfl, _, _⟩ := own_len hon
                have HNn := Lib.hid hon
                have HGn := Lib.hid (own_below HGe.out Cn)
                have HWn := Lib.hid (own_below HWe.out Cn)
                have HBn := Lib.hid (HBe.out.below Cn)
                have HLn := Lib.hid (below_step HLe.out Cn HLe.out.size)
                clear cL hon Cn HGe HWe HBe HLe
                go_wp2
                go_loopw [24, 25, 143] (fun s24 s25 s143 W => ∃ j : Nat, j ≤ n ∧ s24 = .int .i64 (gC f j : Nat) ∧ s25 = .int .i64 (kC f j : Nat) ∧ s143 = .int .i64 j ∧ Below wn.heap.size wn W) (fun _ _ s143 _ => n - (intOf s143).toNat)
                case atStart => exact ⟨0, Nat.zero_le _, rfl, rfl, rfl, Below.refl _ _⟩
                case round =>
                  obtain ⟨j, hj, rfl, rfl, rfl, hBj⟩ := hrel
                  by_cases hjn : j < n
                  · obtain ⟨gx, rfl, d0, d1, d2, d3, d4, d5, d6⟩ := own7_at (own_below HWn.out hBj) hjn
                    have hjl : (j : Int) < (n : Int) := by omega
                    have hj1 : j + 1 ≤ n := hjn
                    have ht := (HI.out.tot j hjn).1.1
                    have hov : ovB (f j) = ((!((f j).tot == 0) && decide ((f j).tot ≤ (f j).tk)) && ((f j).ar == 0)) := rfl
                    have HKA := fun h => kF_at f hjn h
                    have HGA := fun h => gF_at f hjn h
                    obtain ⟨s, hs⟩ : ∃ s, f j = s := ⟨_, rfl⟩
                    rw [hs] at d0 d1 d2 d3 d4 d5 d6 ht hov HKA HGA
                    have HNr := Lib.hid (own_below HNn.out hBj)
                    have HGr := Lib.hid (own_below HGn.out hBj)
                    clear hs HWn HNn HGn HBn HLn HI
                    obtain ⟨x0, x1, x2, x3, x4, x5, x6⟩ := s
                    replace d0 : wr.cell? ⟨gx, j * 7, none⟩ = some (.int .i64 x0) := d0
                    replace d1 : wr.cell? ⟨gx, j * 7 + 1, none⟩ = some (.int .i64 x1) := d1
                    replace d2 : wr.cell? ⟨gx, j * 7 + 2, none⟩ = some (.int .i64 x2) := d2
                    replace d3 : wr.cell? ⟨gx, j * 7 + 3, none⟩ = some (.int .i64 x3) := d3
                    replace d4 : wr.cell? ⟨gx, j * 7 + 4, none⟩ = some (.int .i64 x4) := d4
                    replace d5 : wr.cell? ⟨gx, j * 7 + 5, none⟩ = some (.int .i64 x5) := d5
                    replace d6 : wr.cell? ⟨gx, j * 7 + 6, none⟩ = some (.int .i64 x6) := d6
                    replace ht : 0 ≤ x4 := ht
                    replace hov : ovB ⟨x0, x1, x2, x3, x4, x5, x6⟩ = ((!(x4 == 0) && decide (x4 ≤ x5)) && (x6 == 0)) := hov
                    have K := bx_new wr [.int .i64 x0, .int .i64 x1, .int .i64 x2, .int .i64 x3, .int .i64 x4, .int .i64 x5, .int .i64 x6] 50
                    have NB := below_new wr (.cells (List.toArray [.int .i64 x0, .int .i64 x1, .int .i64 x2, .int .i64 x3, .int .i64 x4, .int .i64 x5, .int .i64 x6]) 50)
                    have z_0 := K.cell (i := 0) rfl
                    have z_1 := K.cell (i := 1) rfl
                    have z_2 := K.cell (i := 2) rfl
                    have z_3 := K.cell (i := 3) rfl
                    have z_4 := K.cell (i := 4) rfl
                    have z_5 := K.cell (i := 5) rfl
                    have z_6 := K.cell (i := 6) rfl
                    have HBE := Lib.hid (below_step hBj NB hBj.size)
                    have HNB := Lib.hid NB
                    clear K NB hBj
                    by_cases c1 : 0 < x4
                    · have t1 : decide (0 < x4) = true := decide_eq_true c1
                      have t0 : (x4 == 0) = false := by simp; omega
                      by_cases c2' : x4 ≤ x5
                      · have t2 : decide (x4 ≤ x5) = true := decide_eq_true c2'
                        by_cases c3 : x6 = 0
                        · have t3 : (x6 == 0) = true := by simp [c3]
                          have C3 := Lib.hid c3
                          clear c3
                          obtain ⟨e1, hlt, e2, eF⟩ := HGA (by rw [hov, t0, t2, t3]; rfl)
                          obtain ⟨gg, rfl, hgc⟩ := own1_at HGr.out hlt
                          rw [eF] at hgc
                          replace hgc : wr.cell? ⟨gg, gC f j, none⟩ = some (.int .i64 x0) := hgc
                          have hgc2 := cell_later HNB.out hgc
                          have HE := Lib.hid (And.intro e1 e2)
                          have hgn := gC_le f j
                          clear HKA HGA hov e1 e2 eF hgc HNr HGr
                          generalize gC f j = G at *
                          generalize gC f n = GN at *
                          have g1 : decide ((GN : Int) ≤ (G : Int)) = false := decide_eq_false (by omega)
                          have g2 : (G : Int) < (GN : Int) := by omega
                          have g3 : (0 : Int) ≤ (G : Int) := by omega
                          have g4 : decide (GN ≤ G) = false := decide_eq_false (by omega)
                          go_wp2
                          go_quiet (fail)
                          go_wp2
                          refine ⟨⟨j + 1, hj1, by rw [HE.out.1]; go_num, by rw [HE.out.2], by go_num, below_drewN HBE.out _⟩, meas_step hjn⟩
                        · have t3 : (x6 == 0) = false := by simp [c3]
                          have hno : ovB ⟨x0, x1, x2, x3, x4, x5, x6⟩ = false := by rw [hov, t3, Bool.and_false]
                          obtain ⟨e1, hlt, e2, eF⟩ := HKA hno
                          obtain ⟨gg, rfl, n0, n1, n2, n3, n4, n5, n6⟩ := own7_at HNr.out hlt
                          rw [eF] at n0 n1 n2 n3 n4 n5 n6
                          replace n0 : wr.cell? ⟨gg, kC f j * 7, none⟩ = some (.int .i64 x0) := n0
                          replace n1 : wr.cell? ⟨gg, kC f j * 7 + 1, none⟩ = some (.int .i64 x1) := n1
                          replace n2 : wr.cell? ⟨gg, kC f j * 7 + 2, none⟩ = some (.int .i64 x2) := n2
                          replace n3 : wr.cell? ⟨gg, kC f j * 7 + 3, none⟩ = some (.int .i64 x3) := n3
                          replace n4 : wr.cell? ⟨gg, kC f j * 7 + 4, none⟩ = some (.int .i64 x4) := n4
                          replace n5 : wr.cell? ⟨gg, kC f j * 7 + 5, none⟩ = some (.int .i64 x5) := n5
                          replace n6 : wr.cell? ⟨gg, kC f j * 7 + 6, none⟩ = some (.int .i64 x6) := n6
                          have y0 := cell_later HNB.out n0
                          have y1 := cell_later HNB.out n1
                          have y2 := cell_later HNB.out n2
                          have y3 := cell_later HNB.out n3
                          have y4 := cell_later HNB.out n4
                          have y5 := cell_later HNB.out n5
                          have y6 := cell_later HNB.out n6
                          have HE := Lib.hid (And.intro e1 e2)
                          have hgn := kC_le f j
                          clear HKA HGA hov hno e1 e2 eF n0 n1 n2 n3 n4 n5 n6 HNr HGr hkn
                          generalize kC f j = G at *
                          generalize kC f n = GN at *
                          have g1 : decide ((GN : Int) ≤ (G : Int)) = false := decide_eq_false (by omega)
                          have g2 : (G : Int) < (GN : Int) := by omega
                          have g3 : (0 : Int) ≤ (G : Int) := by omega
                          have g4 : decide (GN ≤ G) = false := decide_eq_false (by omega)
                          go_wp2
                          go_quiet (fail)
                          go_wp2
                          refine ⟨⟨j + 1, hj1, by rw [HE.out.2], by rw [HE.out.1]; go_num, by go_num, below_drewN HBE.out _⟩, meas_step hjn⟩
                      · have t2 : decide (x4 ≤ x5) = false := decide_eq_false c2'
                        have hno : ovB ⟨x0, x1, x2, x3, x4, x5, x6⟩ = false := by rw [hov, t2, Bool.and_false]; rfl
                        have c3 := c2'
                        obtain ⟨e1, hlt, e2, eF⟩ := HKA hno
                        obtain ⟨gg, rfl, n0, n1, n2, n3, n4, n5, n6⟩ := own7_at HNr.out hlt
                        rw [eF] at n0 n1 n2 n3 n4 n5 n6
                        replace n0 : wr.cell? ⟨gg, kC f j * 7, none⟩ = some (.int .i64 x0) := n0
                        replace n1 : wr.cell? ⟨gg, kC f j * 7 + 1, none⟩ = some (.int .i64 x1) := n1
                        replace n2 : wr.cell? ⟨gg, kC f j * 7 + 2, none⟩ = some (.int .i64 x2) := n2
                        replace n3 : wr.cell? ⟨gg, kC f j * 7 + 3, none⟩ = some (.int .i64 x3) := n3
                        replace n4 : wr.cell? ⟨gg, kC f j * 7 + 4, none⟩ = some (.int .i64 x4) := n4
                        replace n5 : wr.cell? ⟨gg, kC f j * 7 + 5, none⟩ = some (.int .i64 x5) := n5
                        replace n6 : wr.cell? ⟨gg, kC f j * 7 + 6, none⟩ = some (.int .i64 x6) := n6
                        have y0 := cell_later HNB.out n0
                        have y1 := cell_later HNB.out n1
                        have y2 := cell_later HNB.out n2
                        have y3 := cell_later HNB.out n3
                        have y4 := cell_later HNB.out n4
                        have y5 := cell_later HNB.out n5
                        have y6 := cell_later HNB.out n6
                        have HE := Lib.hid (And.intro e1 e2)
                        have hgn := kC_le f j
                        clear HKA HGA hov hno e1 e2 eF n0 n1 n2 n3 n4 n5 n6 HNr HGr hkn
                        generalize kC f j = G at *
                        generalize kC f n = GN at *
                        have g1 : decide ((GN : Int) ≤ (G : Int)) = false := decide_eq_false (by omega)
                        have g2 : (G : Int) < (GN : Int) := by omega
                        have g3 : (0 : Int) ≤ (G : Int) := by omega
                        have g4 : decide (GN ≤ G) = false := decide_eq_false (by omega)
                        go_wp2
                        go_quiet (fail)
                        go_wp2
                        refine ⟨⟨j + 1, hj1, by rw [HE.out.2], by rw [HE.out.1]; go_num, by go_num, below_drewN HBE.out _⟩, meas_step hjn⟩
                    · have t1 : decide (0 < x4) = false := decide_eq_false c1
                      have t0 : (x4 == 0) = true := by simp; omega
                      have hno : ovB ⟨x0, x1, x2, x3, x4, x5, x6⟩ = false := by rw [hov, t0]; rfl
                      have c3 := c1
                      obtain ⟨e1, hlt, e2, eF⟩ := HKA hno
                      obtain ⟨gg, rfl, n0, n1, n2, n3, n4, n5, n6⟩ := own7_at HNr.out hlt
                      rw [eF] at n0 n1 n2 n3 n4 n5 n6
                      replace n0 : wr.cell? ⟨gg, kC f j * 7, none⟩ = some (.int .i64 x0) := n0
                      replace n1 : wr.cell? ⟨gg, kC f j * 7 + 1, none⟩ = some (.int .i64 x1) := n1
                      replace n2 : wr.cell? ⟨gg, kC f j * 7 + 2, none⟩ = some (.int .i64 x2) := n2
                      replace n3 : wr.cell? ⟨gg, kC f j * 7 + 3, none⟩ = some (.int .i64 x3) := n3
                      replace n4 : wr.cell? ⟨gg, kC f j * 7 + 4, none⟩ = some (.int .i64 x4) := n4
                      replace n5 : wr.cell? ⟨gg, kC f j * 7 + 5, none⟩ = some (.int .i64 x5) := n5
                      replace n6 : wr.cell? ⟨gg, kC f j * 7 + 6, none⟩ = some (.int .i64 x6) := n6
                      have y0 := cell_later HNB.out n0
                      have y1 := cell_later HNB.out n1
                      have y2 := cell_later HNB.out n2
                      have y3 := cell_later HNB.out n3
                      have y4 := cell_later HNB.out n4
                      have y5 := cell_later HNB.out n5
                      have y6 := cell_later HNB.out n6
                      have HE := Lib.hid (And.intro e1 e2)
                      have hgn := kC_le f j
                      clear HKA HGA hov hno e1 e2 eF n0 n1 n2 n3 n4 n5 n6 HNr HGr hkn
                      generalize kC f j = G at *
                      generalize kC f n = GN at *
                      have g1 : decide ((GN : Int) ≤ (G : Int)) = false := decide_eq_false (by omega)
                      have g2 : (G : Int) < (GN : Int) := by omega
                      have g3 : (0 : Int) ≤ (G : Int) := by omega
                      have g4 : decide (GN ≤ G) = false := decide_eq_false (by omega)
                      go_wp2
                      go_quiet (fail)
                      go_wp2
                      refine ⟨⟨j + 1, hj1, by rw [HE.out.2], by rw [HE.out.1]; go_num, by go_num, below_drewN HBE.out _⟩, meas_step hjn⟩
                  · obtain rfl : n = j := by omega
                    have hnl4 : ¬ (n : Int) < (n : Int) := by omega
                    have cS2 := sweep_any p (kC f n) (kF f n) wr (HBn.out.below hBj) (by omega)
                    have hgz : gC (kF f n) (kC f n) = 0 := gC_none _ _ fun j hj => kF_not f n j hj
                    unfold SwP at cS2
                    rw [hgz] at cS2
                    have HZ := Lib.hid (below_step HLn.out hBj HLn.out.size)
                    clear hBj HNn HGn HWn HBn HLn HI hgz
                    go_wp2_with (fail)
                    with_reducible refine cS2.mono ?_
                    rintro e wz ⟨vz, rfl, hoz, _, hr⟩
                    obtain ⟨Az, cz, rfl, _, _⟩ := own_len hoz
                    have HZZ := Lib.hid (hr.below HZ.out HZ.out.size hwp)
                    clear cS2 hoz hr HZ
                    go_wp2
                    go_ret
                    exact ⟨rfl, HZZ.out⟩
theorem wOrderSweeps (A : Option Addr) (N c : Nat) (g : Nat → Sta) (A2 : Option Addr) (m c2 : Nat) (t : Nat → Tkn) (w : World) (hT : Tab w) (hA : Ods w A N g) (hN : N ≤ 9223372036854775807) (hf : ∀ i, i < N → (g i).F) (hP : Tks w A2 m t) (hm : m ≤ 9223372036854775807) (hpf : ∀ i, i < m → (t i).F) :
    Calls Tryz.prog 6 #[.slice A N c, .slice A2 m c2] w fun e w' => e = .returned (.bool true) ∧ Below w.heap.size w w' := by
  by_cases h1 : 20 < N
  · exact osw_long A N c A2 m c2 w (.inl h1)
  · by_cases h2 : 20 < m
    · exact osw_long A N c A2 m c2 w (.inr ⟨by omega, h2⟩)
    · exact osw_any A N c g A2 m c2 t w hT hA hP (by omega) (by omega)
end Go.Proofs.YthknjpmhomjobaaGreatDoor
