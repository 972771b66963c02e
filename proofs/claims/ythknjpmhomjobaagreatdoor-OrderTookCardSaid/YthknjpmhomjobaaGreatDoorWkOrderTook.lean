/- The walk of the law OrderTook. -/
import Derived.Test.YthknjpmhomjobaaGreatDoorBkS
import Derived.Test.YthknjpmhomjobaaGreatDoorBkT
import Derived.Deep.RegionHeld3
namespace Go.Proofs.YthknjpmhomjobaaGreatDoor
open Go.RowKit Go.Sort
set_option linter.unusedVariables false
set_option linter.unusedSimpArgs false

set_option maxRecDepth 100000 in
set_option maxHeartbeats 4000000 in
theorem otk_long (A : Option Addr) (N c : Nat) (A2 : Option Addr) (m c2 : Nat) (w : World) (h : 20 < N ∨ (N ≤ 20 ∧ 20 < m)) :
    Calls Tryz.prog 5 #[.slice A N c, .slice A2 m c2] w fun e w' => e = .returned (.bool true) ∧ Below w.heap.size w w' := by
  rcases h with h | ⟨h, h2⟩
  · have q0 : decide (20 < (N : Int)) = true := decide_eq_true (by omega)
    go_enter Tryz.func5, Tryz.ntmps5
    go_wp2_with (fail)
    with_reducible refine (obooks_any _).mono ?_
    rintro e w1 ⟨rfl, B1⟩
    go_wp2
    go_ret
    exact ⟨rfl, B1⟩
  · have q0 : decide (20 < (N : Int)) = false := decide_eq_false (by omega)
    have q1 : decide (20 < (m : Int)) = true := decide_eq_true (by omega)
    have q2 : ¬ 20 < N := by omega
    go_enter Tryz.func5, Tryz.ntmps5
    go_wp2_with (fail)
    with_reducible refine (obooks_any _).mono ?_
    rintro e w1 ⟨rfl, B1⟩
    go_wp2
    go_ret
    exact ⟨rfl, B1⟩
set_option maxRecDepth 100000 in
set_option maxHeartbeats 16000000 in
theorem otk_any (A : Option Addr) (N c : Nat) (g : Nat → Sta) (A2 : Option Addr) (m c2 : Nat) (t : Nat → Tkn) (w : World) (hA : Ods w A N g) (hP : Tks w A2 m t) (hN : N ≤ 20) (hm : m ≤ 20) :
    Calls Tryz.prog 5 #[.slice A N c, .slice A2 m c2] w fun e w' => e = .returned (.bool true) ∧ Below w.heap.size w w' := by
  have q0 : decide (20 < (N : Int)) = false := decide_eq_false (by omega)
  have q1 : decide (20 < (m : Int)) = false := decide_eq_false (by omega)
  have q2 : ¬ 20 < N := by omega
  have q3 : ¬ 20 < m := by omega
  go_enter Tryz.func5, Tryz.ntmps5
  go_wp2_with (fail)
  with_reducible refine (obooks_any _).mono ?_
  rintro e w1 ⟨rfl, B1⟩
  have NB := below_new w1 (.cells #[.slice none 0 0] 35)
  have K := bx_new w1 [.slice none 0 0] 35
  have B2 := below_step B1 NB B1.size
  have hbk : Bk (w1.alloc (.cells #[.slice none 0 0] 35)) w1.heap.size 0 g := ⟨none, 0, K, fun h0 => absurd h0 (Nat.lt_irrefl 0), fun _ => rfl, fun _ _ e => (nomatch e)⟩
  have hinv : InvB g 0 := ⟨fun i hi => absurd hi (Nat.not_lt_zero i), fun i _ hi => absurd hi (Nat.not_lt_zero i)⟩
  have hwp : w.heap.size ≤ w1.heap.size := B1.size
  clear NB K B1
  go_wp2
  generalize w1.alloc (.cells #[.slice none 0 0] 35) = w2 at *
  generalize w1.heap.size = p at *
  go_loopw [35] (fun k W => ∃ (i n : Nat) (f : Nat → Sta), i ≤ N ∧ k = .int .i64 i ∧ n ≤ 8 ∧ InvB f n ∧ Bk W p n f ∧ Below w.heap.size w W) (fun k _ => N - (intOf k).toNat)
  case atStart => exact ⟨0, 0, g, Nat.zero_le _, rfl, by omega, hinv, hbk, B2⟩
  case round =>
    clear hinv hbk B2
    obtain ⟨i, n, f, hi, rfl, hn, hinv, hbk, hB⟩ := hrel
    by_cases hlt : i < N
    · obtain ⟨b, o, rfl, hc⟩ := id (hA (by omega))
      obtain ⟨c0, c1, c2', c3, c4⟩ := (hc i hlt).below hB
      have hil : (i : Int) < (N : Int) := by omega
      have cA := fun W hb => add_inv p n f (g i).id (g i).pr (g i).am (g i).rt (g i).tot W hb hn hinv
      clear hc hA hP
      generalize (g i).id = x0 at *
      generalize (g i).pr = x1 at *
      generalize (g i).am = x2 at *
      generalize (g i).rt = x3 at *
      generalize (g i).tot = x4 at *
      have K := bx_new wr [.int .i64 x0, .int .i64 x1, .int .i64 x2, .int .i64 x3, .int .i64 x4] 23
      have NB := below_new wr (.cells #[.int .i64 x0, .int .i64 x1, .int .i64 x2, .int .i64 x3, .int .i64 x4] 23)
      have B4 := below_step hB NB hB.size
      have hb4 := hbk.below NB
      have k_0 := K.cell (i := 0) rfl
      have k_1 := K.cell (i := 1) rfl
      have k_2 := K.cell (i := 2) rfl
      have k_3 := K.cell (i := 3) rfl
      have k_4 := K.cell (i := 4) rfl
      have hz := B4.size
      clear NB K hB hbk hinv hn
      go_wp2_with (fail)
      with_reducible refine (cA _ hb4).mono ?_
      rintro e w5 ⟨v, n', f', rfl, hn', hinv', hbk', hr⟩
      have B5 := hr.below B4 hz hwp
      clear cA hb4 c0 c1 c2' c3 c4 hr B4
      clear k_0 k_1 k_2 k_3 k_4
      go_wp2
      refine ⟨⟨i + 1, n', f', by omega, by go_num, hn', hinv', hbk', B5⟩, ?_⟩
      simp [intOf]; omega
    · obtain rfl : N = i := by omega
      have hnl : ¬ (N : Int) < (N : Int) := by omega
      have cL := list_any p n f wr hbk (by omega)
      have hpw := hbk.lt
      clear hA
      go_wp2_with (fail)
      with_reducible refine cL.mono ?_
      rintro e wa ⟨va, rfl, hown, Ca⟩
      obtain ⟨Aw, cw, rfl, _, _⟩ := own_len hown
      have cC := bclone_any p n f wa (hbk.below Ca) (by omega)
      have hpa : p < wa.heap.size := Nat.lt_of_lt_of_le hpw Ca.size
      have HBa := Lib.hid (hbk.below Ca)
      have Ba := below_step hB Ca hB.size
      clear cL hbk Ca hB
      go_wp2_with (fail)
      with_reducible refine cC.mono ?_
      rintro e wb ⟨q, rfl, hbq, hq, Cb⟩
      have hpb : p < wb.heap.size := Nat.lt_of_lt_of_le hpa Cb.size
      have cT := took_all p n m c2 f t A2 wb (HBa.out.below Cb) (by omega) (hP.below (below_step Ba Cb Ba.size)) (by omega)
      have HOw := Lib.hid (own_below hown Cb)
      have HBb := Lib.hid (HBa.out.below Cb)
      have Bb := below_step Ba Cb Ba.size
      have HQ := Lib.hid hbq
      have HQQ := Lib.hid hq
      have HP := Lib.hid hP
      clear cC HBa hbq hq hown Cb Ba hP
      unfold TwP at cT
      obtain ⟨eT, heT⟩ : ∃ eT, fsE (twE f n t) m = eT := ⟨_, rfl⟩
      rw [heT] at cT
      have HET := Lib.hid heT
      clear heT
      go_wp2_with (fail)
      with_reducible refine cT.mono ?_
      rintro e w9 ⟨rfl, hr, hgood, hbad⟩
      have Bc := hr.below Bb Bb.size hwp
      have HOc := Lib.hid (own_rel HOw.out hr hpw)
      have HQc := Lib.hid (HQ.out.rel hr hpa HQQ.out)
      have HPc : Hid (Tks w9 A2 m t) := Lib.hid (HP.out.below Bc)
      have HBc : Hid ((eT = 0 → Bk w9 p n (twF f n t m)) ∧ (eT ≠ 0 → Bk w9 p n f)) := Lib.hid ⟨hgood, fun h => HBb.out.below (hbad h)⟩
      clear cT hr hgood hbad HOw HQ Bb HBb HP
      go_upto_region 14 with fail
      go_cut [11] from 46 to 48 (fun s11 wx => ∃ Ax cx, s11 = .slice Ax n cx ∧ (0 < n → ∃ gx, Ax = some ⟨gx, 0, none⟩ ∧ w9.heap.size ≤ gx ∧ SB wx gx n f) ∧ Below w9.heap.size w9 wx)
      case first =>
        cases Aw with
        | none =>
          have hown := HOc.out
          have h0 : n = 0 := by
            rcases hown.2 with ⟨hv, _⟩ | ⟨g', cap, cur, hv, _⟩
            · simp at hv; exact hv.1
            · simp at hv
          have hc0 : cw = 0 := by
            rcases hown.2 with ⟨hv, _⟩ | ⟨g', cap, cur, hv, _⟩
            · simp at hv; exact hv.2
            · simp at hv
          clear hown
          subst h0 hc0
          have NB := below_new w9 (.cells #[] 50)
          go_wp2
          go_meet
          case rel => exact ⟨_, _, rfl, fun h0 => absurd h0 (Nat.lt_irrefl 0), NB⟩
        | some ad =>
          obtain ⟨i0, hi0, hz0, hz1, hz2⟩ := info_parts infoSt
          have Hi := Lib.hid hi0
          have Hz := Lib.hid hz0
          have hb0 : Below w9.heap.size w9 (w9.alloc (.cells #[] 50)) := below_new _ _
          have hr := (ors_own HOc.out).below hb0
          have hnews : ∀ q u, (stc7 f n)[q]? = some u → (w9.alloc (.cells #[] 50)).cell? (ad.add q) = some u := by
            intro q u hu
            have hq := (List.getElem?_eq_some_iff.1 hu).1
            rw [stc7_len] at hq
            have hn0 : 0 < n := by omega
            obtain ⟨b, o, e, hc⟩ := hr hn0
            have hA' : ad = ⟨b, o, none⟩ := by simpa using e
            subst hA'
            exact stc7_news hc q u hu
          have hown : (w9.alloc (.cells #[] 50)).ownsRow w9.heap.size 50 7 (.slice (some ⟨w9.heap.size, 0, none⟩) 0 0) 0 [] := World.ownsRow_lit w9 #[] 0 (Nat.le_refl _) (by unfold maxLen; omega) (by simp)
          have hl := stc7_len f n
          have hone := stc7_one f n
          have hc3 : 0 + n ≤ maxLen := by unfold maxLen; omega
          have hc4 : (0 + n) * 56 ≤ 140737488355328 := by omega
          have hc5 := hb0.size
          clear hi0 hz0 hr
          go_wp2_with (at_builtin; refine wpList_append_own _ rfl _ _ 33 rfl w9.heap.size 50 i0 (.agg #[.int .i64 0, .int .i64 0, .int .i64 0, .int .i64 0, .int .i64 0, .int .i64 0, .int .i64 0]) 7 56 Tryz.underlying33 Hi.out Hz.out hz1 hz2 rfl (by decide) _ _ _ rfl hown ad n cw _ rfl hl hnews hone hc3 hc4 hc5 ?_; intro v' w3 hown2 hg2 _)
          go_meet
          case rel =>
            have hown3 : w3.ownsRow w9.heap.size 50 7 v' n (stc7 f n) := by simpa using hown2
            obtain ⟨Ax, cx, rfl, _, hgx⟩ := own_len hown3
            refine ⟨Ax, cx, rfl, fun h0 => ?_, hb0.grown hg2 hc5 (fun k hk => (hown.lt k hk).1)⟩
            obtain ⟨gx, rfl⟩ := hgx h0
            have hs := SB.of_own hown3 h0
            exact ⟨gx, rfl, hs.2, hs.1⟩
      case rest =>
        obtain ⟨Ax, cx, rfl, hx, hB9⟩ := hcut
        have HD := Lib.hid hinv
        have HX0 := Lib.hid hx
        clear hx hinv hi hlt
        go_wp2
        go_loopw [12, 51] (fun s12 s51 W => ∃ (k : Nat) (F : Nat → Sta), k ≤ m ∧ s12 = .int .i64 (fsE (twE f n t) k) ∧ s51 = .int .i64 k ∧ (∀ j, (F j).id = (f j).id) ∧ (fsE (twE f n t) k = 0 → ∀ j, j < n → F j = twF f n t k j) ∧ (0 < n → ∃ gx, Ax = some ⟨gx, 0, none⟩ ∧ w9.heap.size ≤ gx ∧ SB W gx n F) ∧ Below w9.heap.size w9 W) (fun _ s51 _ => m - (intOf s51).toNat)
        case atStart => exact ⟨0, f, Nat.zero_le _, rfl, rfl, fun _ => rfl, fun _ _ _ => rfl, HX0.out, hB9⟩
        case round =>
          clear hB9 HX0
          obtain ⟨k, F, hk, rfl, rfl, hid, hF, hx, hBB⟩ := hrel
          by_cases hlk : k < m
          · obtain ⟨b, o, rfl, hc⟩ := (HPc.out.below hBB) (by omega)
            obtain ⟨d0, d1, d2, d3, d4, d5⟩ := hc k hlk
            have hkl : (k : Int) < (m : Int) := by omega
            have hkm : k + 1 ≤ m := hlk
            obtain ⟨y0, hy0⟩ : ∃ y, (t k).o = y := ⟨_, rfl⟩
            obtain ⟨y4, hy4⟩ : ∃ y, (t k).t = y := ⟨_, rfl⟩
            obtain ⟨y5, hy5⟩ : ∃ y, (t k).c = y := ⟨_, rfl⟩
            rw [hy0] at d0
            rw [hy4] at d4
            rw [hy5] at d5
            have HY := Lib.hid (And.intro hy0 (And.intro hy4 hy5))
            have HID := Lib.hid hid
            have HF := Lib.hid hF
            have HX := Lib.hid hx
            have hE1 : ∃ v, fsE (twE f n t) k = v := ⟨_, rfl⟩
            obtain ⟨ek, hek⟩ := hE1
            have HEK := Lib.hid hek
            rw [hek]
            clear hc hy0 hy4 hy5 hid hF hx hek HPc
            generalize (t k).b = y1 at *
            generalize (t k).r = y2 at *
            generalize (t k).d = y3 at *
            have K := bx_new wr [.int .i64 y0, .int .i64 y1, .int .i64 y2, .int .i64 y3, .int .i64 y4, .int .i64 y5] 48
            have NB := below_new wr (.cells #[.int .i64 y0, .int .i64 y1, .int .i64 y2, .int .i64 y3, .int .i64 y4, .int .i64 y5] 48)
            have Bi := below_step hBB NB hBB.size
            have HX2 : Hid (0 < n → ∃ gx, Ax = some ⟨gx, 0, none⟩ ∧ (w9.heap.size ≤ gx ∧ gx < wr.heap.size) ∧ SB (wr.alloc (.cells #[.int .i64 y0, .int .i64 y1, .int .i64 y2, .int .i64 y3, .int .i64 y4, .int .i64 y5] 48)) gx n F) := Lib.hid fun h0 => by
              obtain ⟨gx, e, h1, h2⟩ := HX.out h0
              exact ⟨gx, e, ⟨h1, h2.1⟩, h2.below NB⟩
            have HK := Lib.hid K
            clear hBB NB HX K
            go_wp2
            generalize wr.alloc (.cells #[.int .i64 y0, .int .i64 y1, .int .i64 y2, .int .i64 y3, .int .i64 y4, .int .i64 y5] 48) = wi at *
            generalize wr.heap.size = qx at *
            go_loopw [15, 57] (fun s15 s57 W => ∃ j : Nat, j ≤ n ∧ s15 = .int .i64 (lst F y0 j) ∧ s57 = .int .i64 j ∧ Below wi.heap.size wi W) (fun _ s57 _ => n - (intOf s57).toNat)
            case atStart => exact ⟨0, Nat.zero_le _, rfl, rfl, Below.refl _ _⟩
            case round =>
              obtain ⟨j, hj, rfl, rfl, hBj⟩ := hrel
              by_cases hjn : j < n
              · obtain ⟨gx, rfl, hgx, hsb⟩ := HX2.out (by omega)
                obtain ⟨e0, e1, e2, e3, e4, e5, e6⟩ := (hsb.below hBj).2.2 j hjn
                have hjl : (j : Int) < (n : Int) := by omega
                have hls : lst F y0 (j + 1) = if (F j).id = y0 then (j : Int) else lst F y0 j := rfl
                obtain ⟨lj, hlj⟩ : ∃ v, lst F y0 j = v := ⟨_, rfl⟩
                have HKj := HK.out.below hBj
                rw [hlj] at hls ⊢
                have hj1 : j + 1 ≤ n := hjn
                clear hsb hgx hlj HX2 HEK HID HF HD HY
                generalize (F j).id = x0 at *
                generalize (F j).pr = x1 at *
                generalize (F j).am = x2 at *
                generalize (F j).rt = x3 at *
                generalize (F j).tot = x4 at *
                generalize (F j).tk = x5 at *
                generalize (F j).ar = x6 at *
                have K2 := bx_new wr [.int .i64 x0, .int .i64 x1, .int .i64 x2, .int .i64 x3, .int .i64 x4, .int .i64 x5, .int .i64 x6] 50
                have NB := below_new wr (.cells #[.int .i64 x0, .int .i64 x1, .int .i64 x2, .int .i64 x3, .int .i64 x4, .int .i64 x5, .int .i64 x6] 50)
                have z0 := K2.cell (i := 0) rfl
                have z1 := (HKj.below NB).cell (i := 0) rfl
                have BE := below_step hBj NB hBj.size
                have HLS := Lib.hid hls
                clear K2 NB HKj hls
                by_cases hxy : x0 = y0
                · have tt : (x0 == y0) = true := by simp [hxy]
                  have HXY := Lib.hid hxy
                  clear hxy
                  go_wp2
                  refine ⟨⟨j + 1, hj1, by rw [HLS.out, if_pos HXY.out], by go_num, BE⟩, meas_step hjn⟩
                · have tt : (x0 == y0) = false := by simp [hxy]
                  have HXY := Lib.hid hxy
                  clear hxy
                  go_wp2
                  refine ⟨⟨j + 1, hj1, by rw [HLS.out, if_neg HXY.out], by go_num, BE⟩, meas_step hjn⟩
              · obtain rfl : n = j := by omega
                have hnl3 : ¬ (n : Int) < (n : Int) := by omega
                have HBj := Lib.hid hBj
                have hpl : lst F y0 n = plc f y0 n := (lst_id HID.out y0 n).trans (lst_plc HD.out.2)
                rw [hpl]
                have HB1 := Lib.hid (below_step Bi hBj Bi.size)
                have HX3 : Hid (0 < n → ∃ gx, Ax = some ⟨gx, 0, none⟩ ∧ (w9.heap.size ≤ gx ∧ gx < qx) ∧ SB wr gx n F) := Lib.hid fun h0 => by
                  obtain ⟨gx, e, h1, h2⟩ := HX2.out h0
                  exact ⟨gx, e, h1, h2.below hBj⟩
                have HKj := Lib.hid (HK.out.below hBj)
                clear hBj Bi HX2 HK hpl
                by_cases hek0 : ek = 0
                · rcases plc_cases f y0 n with hp | ⟨i, hin, hp, _⟩
                  · have HPN := Lib.hid hp
                    rw [hp]
                    clear hp
                    have hek1 : (ek != 0) = false := by simp [hek0]
                    have HE0 : Hid (fsE (twE f n t) k = 0) := Lib.hid (HEK.out.trans hek0)
                    clear hek0
                    go_wp2
                    have hE : fsE (twE f n t) (k + 1) = 3 := by rw [fsE_next HE0.out]; exact twE_nil (by rw [HY.out.1]; exact HPN.out)
                    refine ⟨⟨k + 1, F, hkm, by rw [hE], by go_num, HID.out, fun h => ?_, fun h0 => (by obtain ⟨gx, e, h1, h2⟩ := HX3.out h0; exact ⟨gx, e, h1.1, h2⟩), HB1.out⟩, meas_step hlk⟩
                    rw [hE] at h
                    omega
                  · have HPI := Lib.hid hp
                    rw [hp]
                    clear hp
                    have hek1 : (ek != 0) = false := by simp [hek0]
                    have HE0 : Hid (fsE (twE f n t) k = 0) := Lib.hid (HEK.out.trans hek0)
                    have hFi : F i = twF f n t k i := HF.out HE0.out i hin
                    have hamt : amtB (F i).tk = true := by rw [hFi]; exact twF_amt (fun j hj => amtB_mk (by have := (HD.out.ok j hj).2.1; omega) (by have := (HD.out.ok j hj).2.1; omega)) k HE0.out i hin
                    have hin0 : ¬ (i : Int) < 0 := by omega
                    have hinI : (i : Int) < (n : Int) := by omega
                    have hin1 : (0 : Int) ≤ (i : Int) := by omega
                    obtain ⟨gx, rfl, hgx, hsb⟩ := HX3.out (by omega)
                    obtain ⟨e0, e1, e2, e3, e4, e5, e6⟩ := hsb.2.2 i hin
                    have HKF := Lib.hid hFi
                    have HAM := Lib.hid hamt
                    obtain ⟨xt, hxt⟩ : ∃ x, (F i).tk = x := ⟨_, rfl⟩
                    obtain ⟨xa, hxa⟩ : ∃ x, (F i).ar = x := ⟨_, rfl⟩
                    rw [hxt] at e5
                    rw [hxa] at e6
                    rw [hxt] at hamt
                    have hxb := amtB_yes hamt
                    have HXT := Lib.hid hxt
                    have z4 := HKj.out.cell (i := 4) rfl
                    have z5 := HKj.out.cell (i := 5) rfl
                    have HSB := Lib.hid hsb
                    have HGX := Lib.hid hgx
                    clear hek0 hFi hamt hxt hxa hsb hgx HX3 e0 e1 e2 e3 e4
                    go_upto_region 31 with fail
                    obtain ⟨bad, hbad⟩ : ∃ b : Bool, b = decide (100000000000 < y4 ∨ y4 < -100000000000 ∨ 100000000000 < xt + y4 ∨ xt + y4 < -100000000000 ∨ 100000000000 < y5 ∨ y5 < -100000000000) := ⟨_, rfl⟩
                    have HBAD := Lib.hid hbad
                    clear hbad
                    go_cut [51, 92] from 51 to 133 (fun s51 s92 wx => s51 = .int .i64 k ∧ s92 = .bool bad ∧ Below wr.heap.size wr wx)
                    case first =>
                      by_cases hc0 : 100000000000 < y4
                      · have d0 : decide (100000000000 < y4) = true := decide_eq_true hc0
                        have HEN : Hid (bad = true) := Lib.hid (by rw [HBAD.out]; exact decide_eq_true (by omega))
                        go_quiet (fail)
                        go_wp2_with fail
                        go_meet
                        case rel => exact ⟨rfl, by rw [HEN.out], below_drewN (Below.refl _ _) _⟩
                      have d0 : decide (100000000000 < y4) = false := decide_eq_false hc0
                      by_cases hc1 : y4 < -100000000000
                      · have d1 : decide (y4 < -100000000000) = true := decide_eq_true hc1
                        have HEN : Hid (bad = true) := Lib.hid (by rw [HBAD.out]; exact decide_eq_true (by omega))
                        go_quiet (fail)
                        go_wp2_with fail
                        go_meet
                        case rel => exact ⟨rfl, by rw [HEN.out], below_drewN (Below.refl _ _) _⟩
                      have d1 : decide (y4 < -100000000000) = false := decide_eq_false hc1
                      have hy4 : -100000000000 ≤ y4 ∧ y4 ≤ 100000000000 := by omega
                      obtain ⟨nt, hnt⟩ : ∃ nt, nt = xt + y4 := ⟨_, rfl⟩
                      have wl : IntKind.i64.wrap (xt + y4) = nt := by rw [hnt]; exact IntWalk.i64_in _ (by omega)
                      have wl2 : wrap64 (xt + y4) = nt := by rw [hnt]; exact IntWalk.wrap64_in _ (by omega)
                      have HNT := Lib.hid hnt
                      clear hnt
                      by_cases hc2 : 100000000000 < nt
                      · have d2 : decide (100000000000 < nt) = true := decide_eq_true hc2
                        have HEN : Hid (bad = true) := Lib.hid (by rw [HBAD.out]; exact decide_eq_true (by have := HNT.out; omega))
                        go_quiet (fail)
                        go_wp2_with fail
                        go_meet
                        case rel => exact ⟨rfl, by rw [HEN.out], below_drewN (Below.refl _ _) _⟩
                      have d2 : decide (100000000000 < nt) = false := decide_eq_false hc2
                      by_cases hc3 : nt < -100000000000
                      · have d3 : decide (nt < -100000000000) = true := decide_eq_true hc3
                        have HEN : Hid (bad = true) := Lib.hid (by rw [HBAD.out]; exact decide_eq_true (by have := HNT.out; omega))
                        go_quiet (fail)
                        go_wp2_with fail
                        go_meet
                        case rel => exact ⟨rfl, by rw [HEN.out], below_drewN (Below.refl _ _) _⟩
                      have d3 : decide (nt < -100000000000) = false := decide_eq_false hc3
                      by_cases hc4 : 100000000000 < y5
                      · have d4 : decide (100000000000 < y5) = true := decide_eq_true hc4
                        have HEN : Hid (bad = true) := Lib.hid (by rw [HBAD.out]; exact decide_eq_true (by have := HNT.out; omega))
                        go_quiet (fail)
                        go_wp2_with fail
                        go_meet
                        case rel => exact ⟨rfl, by rw [HEN.out], below_drewN (Below.refl _ _) _⟩
                      have d4 : decide (100000000000 < y5) = false := decide_eq_false hc4
                      by_cases hc5 : y5 < -100000000000
                      · have d5 : decide (y5 < -100000000000) = true := decide_eq_true hc5
                        have HEN : Hid (bad = true) := Lib.hid (by rw [HBAD.out]; exact decide_eq_true (by have := HNT.out; omega))
                        go_quiet (fail)
                        go_wp2_with fail
                        go_meet
                        case rel => exact ⟨rfl, by rw [HEN.out], below_drewN (Below.refl _ _) _⟩
                      have d5 : decide (y5 < -100000000000) = false := decide_eq_false hc5
                      have HEN : Hid (bad = false) := Lib.hid (by rw [HBAD.out]; exact decide_eq_false (by have := HNT.out; omega))
                      go_quiet (fail)
                      go_wp2_with fail
                      go_meet
                      case rel => exact ⟨rfl, by rw [HEN.out], below_drewN (Below.refl _ _) _⟩
                    case rest =>
                      obtain ⟨rfl, rfl, hBq⟩ := hcut
                      have hB2 := below_step HB1.out hBq HB1.out.size
                      have hsb := HSB.out.below hBq
                      have hsz : gx < wc.heap.size := hsb.1
                      cases bad
                      · have hN := of_decide_eq_false HBAD.out.symm
                        have hn4 : -100000000000 ≤ y4 ∧ y4 ≤ 100000000000 := by omega
                        have hns : -100000000000 ≤ xt + y4 ∧ xt + y4 ≤ 100000000000 := by omega
                        have hn5 : -100000000000 ≤ y5 ∧ y5 ≤ 100000000000 := by omega
                        obtain ⟨nt, hnt⟩ : ∃ nt, nt = xt + y4 := ⟨_, rfl⟩
                        have wl : IntKind.i64.wrap (xt + y4) = nt := by rw [hnt]; exact IntWalk.i64_in _ (by omega)
                        have wl2 : wrap64 (xt + y4) = nt := by rw [hnt]; exact IntWalk.wrap64_in _ (by omega)
                        have hU := hsb.upd hin (t k)
                        rw [HXT.out, HY.out.2.1, HY.out.2.2, ← hnt] at hU
                        have HU := Lib.hid hU
                        have hE : fsE (twE f n t) (k + 1) = 0 := by
                          rw [fsE_next HE0.out]
                          refine twE_good (i := i) (by rw [HY.out.1]; exact HPI.out) (by rw [← HKF.out]; exact HAM.out) (by rw [HY.out.2.1]; exact hn4) (by rw [← HKF.out, HXT.out, HY.out.2.1]; exact hns) (by rw [HY.out.2.2]; exact hn5)
                        have HE1 := Lib.hid hE
                        have HF2 := Lib.hid (twF_next (f := f) (F := F) (by rw [HY.out.1]; exact HPI.out) (HF.out HE0.out))
                        have v5 := cell_later hBq e5
                        have v6 := cell_later hBq e6
                        have f5 := hsb.2.1 (i * 7 + 5)
                        have f6 := hsb.2.1 (i * 7 + 6)
                        have q4 := cell_later hBq z4
                        have q5 := cell_later hBq z5
                        have hgq : gx < qx := HGX.out.2
                        have q5' : (wc.setCell ⟨gx, i * 7 + 5, none⟩ (.int .i64 nt)).cell? ⟨qx, 5, none⟩ = some (.int .i64 y5) := (World.cell?_setCell_other _ _ _ _ (by intro e; simp only [Addr.mk.injEq] at e; omega)).trans q5
                        have v6' : (wc.setCell ⟨gx, i * 7 + 5, none⟩ (.int .i64 nt)).cell? ⟨gx, i * 7 + 6, none⟩ = some (.int .i64 xa) := (World.cell?_setCell_other _ _ _ _ (by intro e; simp only [Addr.mk.injEq] at e; omega)).trans v6
                        have HBE := Lib.hid ((hB2.setCell (p := ⟨gx, i * 7 + 5, none⟩) HGX.out.1 (.int .i64 nt)).setCell (p := ⟨gx, i * 7 + 6, none⟩) HGX.out.1 (.int .i64 y5))
                        clear hN hn4 hns hn5 hnt hU hE hsb hB2 hBq e5 e6 z4 z5 hgq hxb
                        go_wp2
                        go_region
                        all_goals
                          go_wp2
                          refine ⟨⟨k + 1, upF F i (t k), hkm, by rw [HE1.out, ← HEK.out, HE0.out], by go_num, fun j => (upF_id F i (t k) j).trans (HID.out j), fun _ => HF2.out, fun h0 => ⟨gx, rfl, HGX.out.1, HU.out.drew⟩, HBE.out.drew⟩, meas_step hlk⟩
                      · have hY := of_decide_eq_true HBAD.out.symm
                        have hE : fsE (twE f n t) (k + 1) = 10 := by
                          rw [fsE_next HE0.out]
                          exact twE_bad (i := i) (by rw [HY.out.1]; exact HPI.out) (by rw [← HKF.out, HXT.out, HY.out.2.1, HY.out.2.2]; exact hY)
                        have HE1 := Lib.hid hE
                        have HS1 := Lib.hid hsb
                        have HB3 := Lib.hid hB2
                        clear hY hE hsb hB2 hBq e5 e6 z4 z5 hxb
                        go_wp2
                        refine ⟨⟨k + 1, F, hkm, by rw [HE1.out], by go_num, HID.out, fun h => ?_, fun h0 => ⟨gx, rfl, HGX.out.1, HS1.out⟩, HB3.out⟩, meas_step hlk⟩
                        rw [HE1.out] at h
                        omega
                · have hek1 : (ek != 0) = true := by simp [hek0]
                  have HE0 : Hid (fsE (twE f n t) k ≠ 0) := Lib.hid (by rw [HEK.out]; exact hek0)
                  clear hek0
                  go_wp2
                  have hE : fsE (twE f n t) (k + 1) = ek := (fsE_keep HE0.out).trans HEK.out
                  refine ⟨⟨k + 1, F, hkm, by rw [hE], by go_num, HID.out, fun h => ?_, fun h0 => (by obtain ⟨gx, e, h1, h2⟩ := HX3.out h0; exact ⟨gx, e, h1.1, h2⟩), HB1.out⟩, meas_step hlk⟩
                  exact absurd ((fsE_keep HE0.out).symm.trans h) HE0.out
          · obtain rfl : m = k := by omega
            have hnl2 : ¬ (m : Int) < (m : Int) := by omega
            have hBm := hBB
            have HFm := Lib.hid hF
            have HXm := Lib.hid hx
            rw [HET.out]
            clear hF hx hid HPc hBB
            go_upto_if 135 with fail
            go_cut [11] from 134 to 136 (fun s11 wx => ∃ Ay cy G, s11 = .slice Ay n cy ∧ (∀ j, j < n → ∃ gy, Ay = some ⟨gy, 0, none⟩ ∧ SAt wx gy (j * 7) (G j)) ∧ Bk wx p n G ∧ (∀ j, (G j).id = (f j).id) ∧ Below w9.heap.size w9 wx)
            case first =>
              by_cases hez : eT = 0
              · have t1 : (eT != 0) = false := by simp [hez]
                have HB0 := Lib.hid ((HBc.out.1 hez).below hBm)
                have HF0 : Hid (fsE (twE f n t) m = 0) := Lib.hid (HET.out.trans hez)
                have HBm := Lib.hid hBm
                clear hez hBm
                go_wp2
                go_meet
                case rel =>
                  refine ⟨Ax, cx, twF f n t m, rfl, fun j hj => ?_, HB0.out, fun j => twF_id f n t m j, HBm.out⟩
                  obtain ⟨gx, e, _, hs⟩ := HXm.out (by omega)
                  refine ⟨gx, e, ?_⟩
                  rw [← HFm.out HF0.out j hj]
                  exact hs.2.2 j hj
              · have t1 : (eT != 0) = true := by simp [hez]
                have HB0 := Lib.hid ((HBc.out.2 hez).below hBm)
                have HO1 := Lib.hid (own_below HOc.out hBm)
                have HBm := Lib.hid hBm
                clear hez hBm
                go_wp2
                go_meet
                case rel => exact ⟨Aw, cw, f, rfl, fun j hj => own7_at HO1.out hj, HB0.out, fun _ => rfl, HBm.out⟩
            case rest =>
              obtain ⟨Ay, cy, G, rfl, hy, hbp, hids, hB5⟩ := hcut
              have HOD := Lib.hid (own_below HOc.out hB5)
              have HQ5 := Lib.hid (HQc.out.below hB5)
              have Bw := below_step Bc hB5 Bc.size
              have cL := list_any p n G wc hbp (by omega)
              have HBP := Lib.hid hbp
              have HYY := Lib.hid hy
              have HIDS := Lib.hid hids
              have tee : (eT != eT) = false := by simp
              clear hy hbp hids hB5 HOc HQc hBm HFm HXm HBc Bc
              go_wp2_with (fail)
              with_reducible refine cL.mono ?_
              rintro e wd ⟨vd, rfl, hownd, Cd⟩
              obtain ⟨Ad, cd, rfl, _, _⟩ := own_len hownd
              have cL2 := list_any q n f wd ((HQ5.out.below Cd).bk) (by omega)
              have HO1 := Lib.hid hownd
              have Bd := below_step Bw Cd Bw.size
              have HBd := Lib.hid (HBP.out.below Cd)
              have HWd := Lib.hid (own_below HOD.out Cd)
              have HYd : Hid (∀ j, j < n → ∃ gy, Ay = some ⟨gy, 0, none⟩ ∧ SAt wd gy (j * 7) (G j)) := Lib.hid fun j hj => by
                obtain ⟨gy, e, h⟩ := HYY.out j hj
                exact ⟨gy, e, h.below Cd⟩
              clear cL hownd Cd HBP HOD HQ5 HYY Bw
              go_wp2_with (fail)
              with_reducible refine cL2.mono ?_
              rintro e we ⟨ve, rfl, howne, Ce⟩
              obtain ⟨Ae, ce, rfl, _, _⟩ := own_len howne
              have HO2 := Lib.hid howne
              have HO3 := Lib.hid (own_below HO1.out Ce)
              have Be := below_step Bd Ce Bd.size
              have HBe := Lib.hid (HBd.out.below Ce)
              have HWe := Lib.hid (own_below HWd.out Ce)
              have HYe : Hid (∀ j, j < n → ∃ gy, Ay = some ⟨gy, 0, none⟩ ∧ SAt we gy (j * 7) (G j)) := Lib.hid fun j hj => by
                obtain ⟨gy, e, h⟩ := HYd.out j hj
                exact ⟨gy, e, h.below Ce⟩
              clear cL2 howne Ce HBd HWd HYd Bd HO1
              go_wp2
              go_loopw [159] (fun s W => ∃ j : Nat, j ≤ n ∧ s = .int .i64 j ∧ Below we.heap.size we W) (fun s _ => n - (intOf s).toNat)
              case atStart => exact ⟨0, Nat.zero_le _, rfl, Below.refl _ _⟩
              case round =>
                obtain ⟨j, hj, rfl, hBj⟩ := hrel
                by_cases hjn : j < n
                · have hjl : (j : Int) < (n : Int) := by omega
                  have hj1 : j + 1 ≤ n := hjn
                  obtain ⟨g1, rfl, d0, d1, d2, d3, d4, d5, d6⟩ := own7_at (own_below HO3.out hBj) hjn
                  obtain ⟨g2, rfl, hat⟩ := HYe.out j hjn
                  obtain ⟨e0, e1, e2, e3, e4, e5, e6⟩ := hat.below hBj
                  obtain ⟨g3, rfl, v0, v1, v2, v3, v4, v5, v6⟩ := own7_at (own_below HO2.out hBj) hjn
                  obtain ⟨g4, rfl, z0, z1, z2, z3, z4, z5, z6⟩ := own7_at (own_below HWe.out hBj) hjn
                  have hpl : plc G (G j).id n = (j : Int) := plc_self (fun i k hi hk e => HD.out.2 i k hi hk (by rw [← HIDS.out i, ← HIDS.out k]; exact e)) hjn
                  have cF := fun W hb => find_at p n j G (G j).id W hb (by omega) hjn hpl (G j) rfl
                  have hBP := HBe.out.below hBj
                  have BJ := hBj
                  clear hat HO2 HO3 HWe HYe HBe hpl hBj
                  have hsv : (G j).v = .agg #[.int .i64 (G j).id, .int .i64 (G j).pr, .int .i64 (G j).am, .int .i64 (G j).rt, .int .i64 (G j).tot, .int .i64 (G j).tk, .int .i64 (G j).ar] := rfl
                  rw [hsv] at cF
                  clear hsv
                  generalize (G j).id = x0 at *
                  generalize (G j).pr = x1 at *
                  generalize (G j).am = x2 at *
                  generalize (G j).rt = x3 at *
                  generalize (G j).tot = x4 at *
                  generalize (G j).tk = x5 at *
                  generalize (G j).ar = x6 at *
                  generalize (f j).id = y0 at *
                  generalize (f j).pr = y1 at *
                  generalize (f j).am = y2 at *
                  generalize (f j).rt = y3 at *
                  generalize (f j).tot = y4 at *
                  generalize (f j).tk = y5 at *
                  generalize (f j).ar = y6 at *
                  go_wp2
                  go_quiet (fail)
                  clear e0 e1 e2 e3 e4 e5 e6 v0 v1 v2 v3 v4 v5 v6 z0 z1 z2 z3 z4 z5 z6
                  have cF2 := cF (wr.drewN nq) (hBP.below (below_drewN (Below.refl _ _) nq))
                  have BJ2 := below_drewN BJ nq
                  clear cF hBP BJ
                  go_wp2_with (fail)
                  with_reducible refine cF2.mono ?_
                  rintro e wf ⟨rfl, Cf⟩
                  have c0 := cell_later Cf (show (wr.drewN nq).cell? _ = some _ from d0)
                  have c1 := cell_later Cf (show (wr.drewN nq).cell? _ = some _ from d1)
                  have c2' := cell_later Cf (show (wr.drewN nq).cell? _ = some _ from d2)
                  have c3 := cell_later Cf (show (wr.drewN nq).cell? _ = some _ from d3)
                  have c4 := cell_later Cf (show (wr.drewN nq).cell? _ = some _ from d4)
                  have c5 := cell_later Cf (show (wr.drewN nq).cell? _ = some _ from d5)
                  have c6 := cell_later Cf (show (wr.drewN nq).cell? _ = some _ from d6)
                  have BF := below_step BJ2 Cf BJ2.size
                  clear d0 d1 d2 d3 d4 d5 d6 Cf BJ2 cF2
                  have K := bx_new wf [.int .i64 x0, .int .i64 x1, .int .i64 x2, .int .i64 x3, .int .i64 x4, .int .i64 x5, .int .i64 x6] 50
                  have NB := below_new wf (.cells #[.int .i64 x0, .int .i64 x1, .int .i64 x2, .int .i64 x3, .int .i64 x4, .int .i64 x5, .int .i64 x6] 50)
                  have k_0 := K.cell (i := 0) rfl
                  have k_1 := K.cell (i := 1) rfl
                  have k_2 := K.cell (i := 2) rfl
                  have k_3 := K.cell (i := 3) rfl
                  have k_4 := K.cell (i := 4) rfl
                  have k_5 := K.cell (i := 5) rfl
                  have k_6 := K.cell (i := 6) rfl
                  have d0 := cell_later NB c0
                  have d1 := cell_later NB c1
                  have d2 := cell_later NB c2'
                  have d3 := cell_later NB c3
                  have d4 := cell_later NB c4
                  have d5 := cell_later NB c5
                  have d6 := cell_later NB c6
                  have BG := Lib.hid (below_step BF NB BF.size)
                  clear c0 c1 c2' c3 c4 c5 c6 NB K BF
                  go_wp2
                  go_quiet (fail)
                  go_wp2
                  refine ⟨⟨j + 1, hj1, by go_num, below_drewN BG.out _⟩, meas_step hjn⟩
                · obtain rfl : n = j := by omega
                  have hnl4 : ¬ (n : Int) < (n : Int) := by omega
                  have HZ := Lib.hid (below_step Be hBj Be.size)
                  clear HO2 HO3 HWe HYe HBe hBj
                  go_wp2
                  go_ret
                  exact ⟨rfl, HZ.out⟩
theorem wOrderTook (A : Option Addr) (N c : Nat) (g : Nat → Sta) (A2 : Option Addr) (m c2 : Nat) (t : Nat → Tkn) (w : World) (hA : Ods w A N g) (hN : N ≤ 9223372036854775807) (hf : ∀ i, i < N → (g i).F) (hP : Tks w A2 m t) (hm : m ≤ 9223372036854775807) (hpf : ∀ i, i < m → (t i).F) :
    Calls Tryz.prog 5 #[.slice A N c, .slice A2 m c2] w fun e w' => e = .returned (.bool true) ∧ Below w.heap.size w w' := by
  by_cases h1 : 20 < N
  · exact otk_long A N c A2 m c2 w (.inl h1)
  · by_cases h2 : 20 < m
    · exact otk_long A N c A2 m c2 w (.inr ⟨by omega, h2⟩)
    · exact otk_any A N c g A2 m c2 t w hA hP (by omega) (by omega)
end Go.Proofs.YthknjpmhomjobaaGreatDoor
