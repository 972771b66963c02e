/- The walk of the law AttachBooks. -/
import Derived.Test.YtgdalejccbhjcaaDoorBkG
import Derived.Test.YtgdalejccbhjcaaDoorAttD
namespace Go.Proofs.YtgdalejccbhjcaaDoor
open Go.RowKit Go.Sort
set_option linter.unusedVariables false
set_option linter.unusedSimpArgs false

/-- an own row of orders, by its cells -/
theorem own7_at {w : World} {B n c : Nat} {A : Option Addr} {f : Nat → Sta} (h : w.ownsRow B 32 7 (.slice A n c) n (stc7 f n)) {j : Nat} (hj : j < n) : ∃ g, A = some ⟨g, 0, none⟩ ∧ SAt w g (j * 7) (f j) := by
  obtain ⟨b, o, e, hc⟩ := (ors_own h) (by omega)
  obtain ⟨A', c', e', hA, hg⟩ := own_len h
  obtain ⟨rfl, _, rfl⟩ := Value.slice.inj e'
  obtain ⟨g, rfl⟩ := hg (by omega)
  obtain ⟨rfl, rfl⟩ : g = b ∧ 0 = o := by simpa using e
  have := hc j hj
  rw [Nat.zero_add] at this
  exact ⟨g, rfl, this⟩
theorem own6_at {w : World} {B n c : Nat} {A : Option Addr} {f : Nat → Tkn} (h : w.ownsRow B 36 6 (.slice A n c) n (tkc f n)) {j : Nat} (hj : j < n) : ∃ g, A = some ⟨g, 0, none⟩ ∧ TAt w g (j * 6) (f j) := by
  obtain ⟨b, o, e, hc⟩ := (tks_own h) (by omega)
  obtain ⟨A', c', e', hA, hg⟩ := own_len h
  obtain ⟨rfl, _, rfl⟩ := Value.slice.inj e'
  obtain ⟨g, rfl⟩ := hg (by omega)
  obtain ⟨rfl, rfl⟩ : g = b ∧ 0 = o := by simpa using e
  have := hc j hj
  rw [Nat.zero_add] at this
  exact ⟨g, rfl, this⟩
set_option maxRecDepth 100000 in
set_option maxHeartbeats 4000000 in
theorem abk_long (A : Option Addr) (N c : Nat) (g : Nat → Sta) (A2 : Option Addr) (m c2 : Nat) (pay : Nat → Int) (prot : Int) (w : World) (hT : Tab w) (h : 20 < N ∨ (N ≤ 20 ∧ 40 < m)) :
    Calls Tryd.prog 6 #[.slice A N c, .slice A2 m c2, .int .i64 prot] w fun e w' => e = .returned (.bool true) ∧ Below w.heap.size w w' := by
  rcases h with h | ⟨h, h2⟩
  · have q0 : decide (20 < (N : Int)) = true := decide_eq_true (by omega)
    go_enter Tryd.func6, Tryd.ntmps6
    go_wp2_with (fail)
    with_reducible refine (serves_any _ hT).mono ?_
    rintro e w1 ⟨rfl, B1⟩
    go_wp2
    go_ret
    exact ⟨rfl, B1⟩
  · have q0 : decide (20 < (N : Int)) = false := decide_eq_false (by omega)
    have q1 : decide (40 < (m : Int)) = true := decide_eq_true (by omega)
    have q2 : ¬ 20 < N := by omega
    go_enter Tryd.func6, Tryd.ntmps6
    go_wp2_with (fail)
    with_reducible refine (serves_any _ hT).mono ?_
    rintro e w1 ⟨rfl, B1⟩
    go_wp2
    go_ret
    exact ⟨rfl, B1⟩
set_option maxRecDepth 100000 in
set_option maxHeartbeats 16000000 in
theorem abk_any (A : Option Addr) (N c : Nat) (g : Nat → Sta) (A2 : Option Addr) (m c2 : Nat) (pay : Nat → Int) (prot : Int) (w : World) (hT : Tab w) (hA : Ods w A N g) (hP : rowAt w A2 m fun i => .int .i64 (pay i)) (hN : N ≤ 20) (hm : m ≤ 40) :
    Calls Tryd.prog 6 #[.slice A N c, .slice A2 m c2, .int .i64 prot] w fun e w' => e = .returned (.bool true) ∧ Below w.heap.size w w' := by
  have q0 : decide (20 < (N : Int)) = false := decide_eq_false (by omega)
  have q1 : decide (40 < (m : Int)) = false := decide_eq_false (by omega)
  have q2 : ¬ 20 < N := by omega
  have q3 : ¬ 40 < m := by omega
  go_enter Tryd.func6, Tryd.ntmps6
  go_wp2_with (fail)
  with_reducible refine (serves_any _ hT).mono ?_
  rintro e w1 ⟨rfl, B1⟩
  have NB := below_new w1 (.cells #[.slice none 0 0] 43)
  have K := bx_new w1 [.slice none 0 0] 43
  have B2 := below_step B1 NB B1.size
  have hbk : Bk (w1.alloc (.cells #[.slice none 0 0] 43)) w1.heap.size 0 g := ⟨none, 0, K, fun h0 => absurd h0 (Nat.lt_irrefl 0), fun _ => rfl, fun _ _ e => (nomatch e)⟩
  have hinv : InvB g 0 := ⟨fun i hi => absurd hi (Nat.not_lt_zero i), fun i _ hi => absurd hi (Nat.not_lt_zero i)⟩
  have hwp : w.heap.size ≤ w1.heap.size := B1.size
  clear hT NB K B1
  go_wp2
  generalize w1.alloc (.cells #[.slice none 0 0] 43) = w2 at *
  generalize w1.heap.size = p at *
  go_loopw [34] (fun k W => ∃ (i n : Nat) (f : Nat → Sta), i ≤ N ∧ k = .int .i64 i ∧ n ≤ 8 ∧ InvB f n ∧ Bk W p n f ∧ Below w.heap.size w W) (fun k _ => N - (intOf k).toNat)
  case atStart => exact ⟨0, 0, g, Nat.zero_le _, rfl, by omega, hinv, hbk, B2⟩
  case round =>
    clear hinv hbk B2
    obtain ⟨i, n, f, hi, rfl, hn, hinv, hbk, hB⟩ := hrel
    by_cases hlt : i < N
    · obtain ⟨b, o, rfl, hc⟩ := id (hA (by omega))
      obtain ⟨c0, c1, c2', c3, c4⟩ := (hc i hlt).below hB
      have hil : (i : Int) < (N : Int) := by omega
      have cA := fun W hb => add_inv p n f (g i).id (g i).pr (g i).am (g i).rt (g i).tot W hb hn hinv
      clear hc hA
      generalize (g i).id = x0 at *
      generalize (g i).pr = x1 at *
      generalize (g i).am = x2 at *
      generalize (g i).rt = x3 at *
      generalize (g i).tot = x4 at *
      have K := bx_new wr [.int .i64 x0, .int .i64 x1, .int .i64 x2, .int .i64 x3, .int .i64 x4] 30
      have NB := below_new wr (.cells #[.int .i64 x0, .int .i64 x1, .int .i64 x2, .int .i64 x3, .int .i64 x4] 30)
      have B4 := below_step hB NB hB.size
      have hb4 := hbk.below NB
      have k0 := K.cell (i := 0) rfl
      have k1 := K.cell (i := 1) rfl
      have k2 := K.cell (i := 2) rfl
      have k3 := K.cell (i := 3) rfl
      have k4 := K.cell (i := 4) rfl
      have hz := B4.size
      clear NB K hB hbk hinv hn
      go_wp2_with (fail)
      with_reducible refine (cA _ hb4).mono ?_
      rintro e w5 ⟨v, n', f', rfl, hn', hinv', hbk', hr⟩
      have B5 := hr.below B4 hz hwp
      clear cA hb4 k0 k1 k2 k3 k4 c0 c1 c2' c3 c4 hr B4
      go_wp2
      refine ⟨⟨i + 1, n', f', by omega, by go_num, hn', hinv', hbk', B5⟩, ?_⟩
      simp [intOf]; omega
    · obtain rfl : N = i := by omega
      have hnl : ¬ (N : Int) < (N : Int) := by omega
      clear hA
      go_wp2
      go_loopw [43] (fun k W => ∃ (i n : Nat) (f : Nat → Sta), i ≤ m ∧ k = .int .i64 i ∧ n ≤ 8 ∧ InvB f n ∧ Bk W p n f ∧ Below w.heap.size w W) (fun k _ => m - (intOf k).toNat)
      case atStart => exact ⟨0, n, f, Nat.zero_le _, rfl, hn, hinv, hbk, hB⟩
      case round =>
        clear hinv hbk hB hn
        clear f n
        obtain ⟨i, n, f, hi, rfl, hn, hinv, hbk, hB⟩ := hrel
        by_cases hlt : i < m
        · obtain ⟨b, o, rfl, hc⟩ := id (hP (by omega))
          have c0 : wr.cell? ⟨b, o + i, none⟩ = some (.int .i64 (pay i)) := cell_later hB (hc i hlt)
          have hil : (i : Int) < (m : Int) := by omega
          have cLa := list_any p n f wr hbk (by omega)
          have hcase := srv_cases (pay i) prot n f (by omega) hinv.ok
          have hpw := hbk.lt
          have HBK := Lib.hid hbk
          have HINV := Lib.hid hinv
          clear hc hP hbk hinv
          generalize pay i = net at *
          go_wp2_with (fail)
          with_reducible refine cLa.mono ?_
          rintro e wa ⟨va, rfl, hown, NBa⟩
          have Ba := below_step hB NBa hB.size
          have hba := Lib.hid (HBK.out.below NBa)
          obtain ⟨Aa, ca, rfl, _, _⟩ := own_len hown
          have HOa := Lib.hid hown
          have HSZ := Lib.hid NBa.size
          clear cLa HBK hB hown NBa c0
          rcases hcase with ⟨v, hv0, hS⟩ | ⟨ha, hp0, hs⟩
          · have cS := hS Aa ca wa (ors_own HOa.out)
            have t1 : (v != 0) = true := by simp [hv0]
            have t2 : (v != v) = false := by simp
            have cB := fun W hb => abook_bad net prot p n f W hb (by omega) v hv0 hS
            clear hS hv0
            go_wp2_with (fail)
            with_reducible refine cS.mono ?_
            rintro e wb ⟨rfl, NBb⟩
            have Bb := below_step Ba NBb Ba.size
            have hbb := hba.out.below NBb
            have HOb := Lib.hid (own_below HOa.out NBb)
            clear cS hba HOa Ba NBb
            go_wp2_with (fail)
            with_reducible refine (cB _ hbb).mono ?_
            rintro e wc ⟨rfl, NBc⟩
            have Bc := below_step Bb NBc Bb.size
            have hbc := hbb.below NBc
            have HOc := Lib.hid (own_below HOb.out NBc)
            have cLd := list_any p n f wc hbc (by omega)
            clear cB hbb HOb Bb NBc
            go_wp2_with (fail)
            with_reducible refine cLd.mono ?_
            rintro e wd ⟨vd, rfl, hownd, NBd⟩
            obtain ⟨Ad, cd, rfl, _, _⟩ := own_len hownd
            have Bd := below_step Bc NBd Bc.size
            have HBd := Lib.hid (hbc.below NBd)
            have HOd := Lib.hid (own_below HOc.out NBd)
            have HOO := Lib.hid hownd
            clear cLd hbc HOc Bc NBd hownd
            go_wp2
            go_loopw [103] (fun k W => ∃ j : Nat, j ≤ n ∧ k = .int .i64 j ∧ Below wd.heap.size wd W) (fun k _ => n - (intOf k).toNat)
            case atStart => exact ⟨0, Nat.zero_le _, rfl, Below.refl _ _⟩
            case round =>
              obtain ⟨j, hj, rfl, hBB⟩ := hrel
              by_cases hjn : j < n
              · have hjl : (j : Int) < (n : Int) := by omega
                obtain ⟨g1, rfl, d0, d1, d2, d3, d4, d5, d6⟩ := own7_at (own_below HOd.out hBB) hjn
                obtain ⟨g2, rfl, e0, e1, e2, e3, e4, e5, e6⟩ := own7_at (own_below HOO.out hBB) hjn
                clear HOd HOO HBd HINV
                generalize (f j).id = y0 at *
                generalize (f j).pr = y1 at *
                generalize (f j).am = y2 at *
                generalize (f j).rt = y3 at *
                generalize (f j).tot = y4 at *
                generalize (f j).tk = y5 at *
                generalize (f j).ar = y6 at *
                go_wp2
                go_quiet (fail)
                go_wp2
                refine ⟨⟨j + 1, by omega, by go_num, below_drewN hBB _⟩, ?_⟩
                simp [intOf]; omega
              · obtain rfl : n = j := by omega
                have hjl : ¬ (n : Int) < (n : Int) := by omega
                have BE := below_step Bd hBB Bd.size
                have HBE := Lib.hid (HBd.out.below hBB)
                clear HOd HOO HBd
                go_wp2
                refine ⟨⟨i + 1, n, f, by omega, by go_num, hn, HINV.out, HBE.out, BE⟩, ?_⟩
                simp [intOf]; omega
          · have cS := serve_any net prot Aa n ca f wa (ors_own HOa.out) (HINV.out.ok) ha hp0 (by omega)
            have cB := fun W hb => abook_any net prot p n f W hb (by omega) (HINV.out.ok) ha hp0 hs
            obtain ⟨q1, q2⟩ := Bool.and_eq_true_iff.1 ha
            obtain ⟨n1, n2⟩ := amtB_yes q1
            obtain ⟨p1, p2⟩ := amtB_yes q2
            have hr0 : 0 ≤ max (net - prot) 0 ∧ max (net - prot) 0 ≤ 100000000000 := by omega
            have HS := Lib.hid hs
            clear ha q1 q2
            generalize max (net - prot) 0 = r0 at *
            have hten := twE_ten (t := svT f net r0) HINV.out.2 (fun i _ => rfl)
            unfold BoP at cB
            go_wp2_with (fail)
            with_reducible refine cS.mono ?_
            rintro e wb ⟨hyes, _, NBb⟩
            obtain ⟨vb, rfl, hownb⟩ := hyes hs
            obtain ⟨Ab, cb, rfl, _, _⟩ := own_len hownb
            have Bb := below_step Ba NBb Ba.size
            have hbb := hba.out.below NBb
            have HOb := Lib.hid (own_below HOa.out NBb)
            have HWb := Lib.hid hownb
            have hsza : wr.heap.size ≤ wa.heap.size := HSZ.out
            have hpa : p < wa.heap.size := by omega
            clear cS hba HOa NBb hownb hyes hs
            generalize hlf : net - (r0 - rmX f net r0 n) = lf at *
            clear hlf
            go_wp2_with (fail)
            rcases hten with her | her
            · with_reducible refine (cB _ hbb).mono ?_
              rintro e wc ⟨hgood, _, hr⟩
              obtain ⟨vc, rfl, hownc, hbc⟩ := hgood her
              obtain ⟨Ac, cc, rfl, _, _⟩ := own_len hownc
              have hszb := Bb.size
              have Bc := hr.below Bb hszb hwp
              have HOc := Lib.hid (own_rel HOb.out hr hpw)
              have HWc := Lib.hid (own_rel HWb.out hr hpa)
              have cLd := list_any p n _ wc hbc (by omega)
              have HGc := Lib.hid hownc
              have HER := Lib.hid her
              clear cB hbb HOb HWb Bb hr hownc hgood her
              go_wp2_with (fail)
              with_reducible refine cLd.mono ?_
              rintro e wd ⟨vd, rfl, hownd, NBd⟩
              obtain ⟨Ad, cd, rfl, _, _⟩ := own_len hownd
              have Bd := below_step Bc NBd Bc.size
              have HBd := Lib.hid (hbc.below NBd)
              have HOd := Lib.hid (own_below HOc.out NBd)
              have HWd := Lib.hid (own_below HWc.out NBd)
              have HGd := Lib.hid (own_below HGc.out NBd)
              have HOO := Lib.hid hownd
              clear cLd hbc HOc HWc HGc Bc NBd hownd
              go_wp2
              go_loopw [103] (fun k W => ∃ j : Nat, j ≤ n ∧ k = .int .i64 j ∧ Below wd.heap.size wd W) (fun k _ => n - (intOf k).toNat)
              case atStart => exact ⟨0, Nat.zero_le _, rfl, Below.refl _ _⟩
              case round =>
                obtain ⟨j, hj, rfl, hBB⟩ := hrel
                by_cases hjn : j < n
                · have hjl : (j : Int) < (n : Int) := by omega
                  obtain ⟨g1, rfl, d0, d1, d2, d3, d4, d5, d6⟩ := own7_at (own_below HOd.out hBB) hjn
                  obtain ⟨g2, rfl, hat⟩ := own7_at (own_below HOO.out hBB) hjn
                  obtain ⟨g3, rfl, w0, w1', w2', w3, w4, w5⟩ := own6_at (own_below HWd.out hBB) hjn
                  obtain ⟨g4, rfl, v0, v1, v2, v3, v4, v5⟩ := own6_at (own_below HGd.out hBB) hjn
                  rw [tw_at HINV.out hjn] at hat
                  obtain ⟨e0, e1, e2, e3, e4, e5, e6⟩ := hat
                  have hbd := tw_bd HINV.out hr0.1 HS.out HER.out hjn
                  have hnm := (HINV.out.ok j hjn).nums
                  replace e0 : wr.cell? ⟨g2, j * 7, none⟩ = some (.int .i64 (f j).id) := e0
                  replace e1 : wr.cell? ⟨g2, j * 7 + 1, none⟩ = some (.int .i64 (f j).pr) := e1
                  replace e2 : wr.cell? ⟨g2, j * 7 + 2, none⟩ = some (.int .i64 (f j).am) := e2
                  replace e3 : wr.cell? ⟨g2, j * 7 + 3, none⟩ = some (.int .i64 (f j).rt) := e3
                  replace e4 : wr.cell? ⟨g2, j * 7 + 4, none⟩ = some (.int .i64 (f j).tot) := e4
                  replace e5 : wr.cell? ⟨g2, j * 7 + 5, none⟩ = some (.int .i64 ((f j).tk + tkX f net r0 j)) := e5
                  replace e6 : wr.cell? ⟨g2, j * 7 + 6, none⟩ = some (.int .i64 ((f j).dueX net - tkX f net r0 j)) := e6
                  replace w0 : wr.cell? ⟨g3, j * 6, none⟩ = some (.int .i64 (f j).id) := w0
                  replace v0 : wr.cell? ⟨g4, j * 6, none⟩ = some (.int .i64 (f j).id) := v0
                  replace w1' : wr.cell? ⟨g3, j * 6 + 1, none⟩ = some (.int .i64 (f j).ar) := w1'
                  replace v1 : wr.cell? ⟨g4, j * 6 + 1, none⟩ = some (.int .i64 (f j).ar) := v1
                  replace w2' : wr.cell? ⟨g3, j * 6 + 2, none⟩ = some (.int .i64 ((f j).ordX net)) := w2'
                  replace v2 : wr.cell? ⟨g4, j * 6 + 2, none⟩ = some (.int .i64 ((f j).ordX net)) := v2
                  replace w3 : wr.cell? ⟨g3, j * 6 + 3, none⟩ = some (.int .i64 ((f j).dueX net)) := w3
                  replace v3 : wr.cell? ⟨g4, j * 6 + 3, none⟩ = some (.int .i64 ((f j).dueX net)) := v3
                  replace w4 : wr.cell? ⟨g3, j * 6 + 4, none⟩ = some (.int .i64 (tkX f net r0 j)) := w4
                  replace v4 : wr.cell? ⟨g4, j * 6 + 4, none⟩ = some (.int .i64 (tkX f net r0 j)) := v4
                  replace w5 : wr.cell? ⟨g3, j * 6 + 5, none⟩ = some (.int .i64 ((f j).dueX net - tkX f net r0 j)) := w5
                  replace v5 : wr.cell? ⟨g4, j * 6 + 5, none⟩ = some (.int .i64 ((f j).dueX net - tkX f net r0 j)) := v5
                  clear HOd HOO HBd HWd HGd HINV HS HER
                  generalize (f j).dueX net = D at *
                  generalize (f j).ordX net = X at *
                  generalize tkX f net r0 j = L at *
                  generalize (f j).id = y0 at *
                  generalize (f j).pr = y1 at *
                  generalize (f j).am = y2 at *
                  generalize (f j).rt = y3 at *
                  generalize (f j).tot = y4 at *
                  generalize (f j).tk = y5 at *
                  generalize (f j).ar = y6 at *
                  obtain ⟨⟨l1, l2⟩, l3, l4, ⟨l5, l6⟩, l7⟩ := hbd
                  have hnc : 0 ≤ D - L ∧ D - L ≤ 100000000000 := by omega
                  have hsum : y5 + L + (D - L) = y5 + D := by omega
                  have hy5 : 0 ≤ y5 ∧ y5 ≤ 100000000000 := by omega
                  have hy4 : 0 ≤ y4 := by omega
                  obtain ⟨nt, hnt⟩ : ∃ nt, nt = y5 + L := ⟨_, rfl⟩
                  rw [← hnt] at e5 hsum l5 l6
                  have wl : IntKind.i64.wrap (y5 + L) = nt := by rw [hnt]; exact IntWalk.i64_in _ (by omega)
                  have HNT := Lib.hid hnt
                  have hyl : -300000000000 ≤ y5 + L ∧ y5 + L ≤ 300000000000 := by omega
                  clear hnt
                  generalize D - L = nc at *
                  have hin0 : ((0 : Int) != 0) = false := by simp
                  have HWL := Lib.hid wl
                  clear wl
                  by_cases h4 : 0 < y4
                  · have t4 : decide (0 < y4) = true := decide_eq_true h4
                    have hle : nt + nc ≤ y4 := by have := HNT.out; omega
                    have t5 : decide (y4 < nt + nc) = false := decide_eq_false (by omega)
                    have t6 : ¬ y4 < nt + nc := by omega
                    have wl2 : IntKind.i64.wrap (nt + nc) = nt + nc := IntWalk.i64_in _ (by omega)
                    have wl := HWL.out
                    clear l7 hsum l4 hnm
                    go_wp2
                    go_quiet (fail)
                    go_wp2
                    go_quiet (fail)
                    go_wp2
                    refine ⟨⟨j + 1, by omega, by go_num, below_drewN hBB _⟩, ?_⟩
                    simp [intOf]; omega
                  · have t4 : decide (0 < y4) = false := decide_eq_false h4
                    have wl := HWL.out
                    clear l7 hsum l4 hnm
                    go_wp2
                    go_quiet (fail)
                    go_wp2
                    go_quiet (fail)
                    go_wp2
                    refine ⟨⟨j + 1, by omega, by go_num, below_drewN hBB _⟩, ?_⟩
                    simp [intOf]; omega
                · obtain rfl : n = j := by omega
                  have hjl : ¬ (n : Int) < (n : Int) := by omega
                  have BE := below_step Bd hBB Bd.size
                  have HBE := Lib.hid (HBd.out.below hBB)
                  have HI2 := Lib.hid (invB_step HINV.out hr0.1 HS.out HER.out)
                  clear HOd HOO HBd HWd HGd
                  go_wp2
                  refine ⟨⟨i + 1, n, _, by omega, by go_num, hn, HI2.out, HBE.out, BE⟩, ?_⟩
                  simp [intOf]; omega
            · with_reducible refine (cB _ hbb).mono ?_
              rintro e wc ⟨_, hbad, hr⟩
              obtain ⟨rfl, NBc⟩ := hbad (by rw [her]; omega)
              rw [her]
              have Bc := below_step Bb NBc Bb.size
              have hbc := hbb.below NBc
              have cLd := list_any p n f wc hbc (by omega)
              clear cB hbb HOb HWb Bb hr her hbad NBc
              go_wp2_with (fail)
              with_reducible refine cLd.mono ?_
              rintro e wd ⟨vd, rfl, hownd, NBd⟩
              obtain ⟨Ad, cd, rfl, _, _⟩ := own_len hownd
              have Bd := below_step Bc NBd Bc.size
              clear cLd hbc Bc NBd hownd
              go_wp2
              go_ret
              exact ⟨rfl, Bd⟩
        · obtain rfl : m = i := by omega
          have hnl2 : ¬ (m : Int) < (m : Int) := by omega
          clear hP hbk hinv
          go_wp2
          go_ret
          exact ⟨rfl, hB⟩
theorem wAttachBooks (A : Option Addr) (N c : Nat) (g : Nat → Sta) (A2 : Option Addr) (m c2 : Nat) (pay : Nat → Int) (prot : Int) (w : World) (hT : Tab w) (hA : Ods w A N g) (hN : N ≤ 9223372036854775807) (hf : ∀ i, i < N → (g i).F) (hP : rowAt w A2 m fun i => .int .i64 (pay i)) (hm : m ≤ 9223372036854775807) (hpf : ∀ i, -9223372036854775808 ≤ pay i ∧ pay i ≤ 9223372036854775807) (hpr : -9223372036854775808 ≤ prot ∧ prot ≤ 9223372036854775807) :
    Calls Tryd.prog 6 #[.slice A N c, .slice A2 m c2, .int .i64 prot] w fun e w' => e = .returned (.bool true) ∧ Below w.heap.size w w' := by
  by_cases h1 : 20 < N
  · exact abk_long A N c g A2 m c2 pay prot w hT (.inl h1)
  · by_cases h2 : 40 < m
    · exact abk_long A N c g A2 m c2 pay prot w hT (.inr ⟨by omega, h2⟩)
    · exact abk_any A N c g A2 m c2 pay prot w hT hA hP (by omega) (by omega)
end Go.Proofs.YtgdalejccbhjcaaDoor
