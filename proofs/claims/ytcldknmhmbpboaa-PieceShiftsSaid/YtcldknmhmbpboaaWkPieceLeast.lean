/- The law PieceLeast, walked. -/
import Derived.Test.YtcldknmhmbpboaaPcX
import Derived.Test.YtcldknmhmbpboaaWkPieceAdds
namespace Go.Proofs.Ytcldknmhmbpboaa
open Go.RowKit Go.Sort
set_option linter.unusedVariables false
set_option linter.unusedSimpArgs false

theorem nms_news {w : World} {B n c : Nat} {b o : Nat} {xs : List Value} (h : w.ownsRow B 2 1 (.slice (some ⟨b, o, none⟩) n c) n xs) : o = 0 ∧ ∀ j u, xs[j]? = some u → w.cell? ((⟨b, o, none⟩ : Addr).add j) = some u := by
  rcases h.2 with ⟨hv, _⟩ | ⟨g, cap, cur, hv, _⟩
  · exact absurd hv (by simp)
  · obtain ⟨e, _, _⟩ := Value.slice.inj hv
    have ho : o = 0 := by have := Option.some.inj e; injection this
    subst ho
    exact ⟨rfl, fun j u hu => h.cells (g := b) rfl j u hu⟩
theorem nms_one {xs : List Value} (h : Nms xs) : ∀ u ∈ xs, u.oneCell' = true := fun u hu => by
  obtain ⟨y, rfl, _⟩ := h u hu
  rfl
theorem nms_app {xs ys : List Value} (h : Nms xs) (h2 : Nms ys) : Nms (xs ++ ys) := fun u hu => by
  rcases List.mem_append.1 hu with h1 | h1
  · exact h u h1
  · exact h2 u h1
theorem own_ad {w : World} {B n c : Nat} {A : Option Addr} {xs : List Value} (h : w.ownsRow B 2 1 (.slice A n c) n xs) (hn : 0 < n) : ∃ b, A = some ⟨b, 0, none⟩ := by
  obtain ⟨A', c', e, hA, hg⟩ := own_len h
  obtain ⟨g, rfl⟩ := hg hn
  obtain ⟨rfl, _, _⟩ := Value.slice.inj e
  exact ⟨g, rfl⟩
set_option maxHeartbeats 8000000 in
set_option maxRecDepth 100000 in
theorem least_all (A B : Option Addr) (c d : Nat) (f g : Lf) (x : Int) (w : World) (h : Lm w A f) (h2 : Lm w B g) (hn : f.n ≤ 60) (hm : g.n ≤ 60) (hf : f.chk = 0) (hg : g.chk = 0) :
    Calls Try.prog 5 #[.slice A f.n c, .slice B g.n d, .int .i64 x] w fun e w' => e = .returned (.bool true) ∧ Below w.heap.size w w' := by
  obtain ⟨j0', hj0, hy0, hy1, hy2⟩ := info_parts infoI
  have Ji := Lib.hid hj0
  have Jz := Lib.hid hy0
  clear hj0 hy0
  have d0 : decide (60 < (f.n : Int)) = false := by simp; omega
  have d1 : decide (60 < (g.n : Int)) = false := by simp; omega
  have kf := Lf.chk_zero hf
  have kg := Lf.chk_zero hg
  have cL := fun W h1 h2 => least_ok A B c d f g W h1 h2 hf hg
  have cM := fun W h1 h2 => greatest_ok A B c d f g W h1 h2 hf hg
  have cW := fun W hh => wrong_any A c f W hh (by omega)
  have cV := fun W hh => wrong_any B d g W hh (by omega)
  rw [hf] at cW
  rw [hg] at cV
  have HF := Lib.hid (And.intro kf kg)
  have H := Lib.hid (And.intro h h2)
  have hn1 := kf.n1
  have hm1 := kg.n1
  clear hf hg h h2 kf kg
  go_enter Try.func5, Try.ntmps5
  go_wp2_with (fail)
  refine (goes_any _).mono ?_
  rintro e w1 ⟨rfl, hb1⟩
  go_wp2_with (fail)
  refine (cL _ (H.out.1.below hb1) (H.out.2.below hb1)).mono ?_
  rintro e w2 ⟨s, HR, hsn, hsR, hsG, hcase, hb2⟩
  have B2 := below_step hb1 hb2 hb1.size
  have hs238 : s.n ≤ 238 := by omega
  have hsz := Lf.pk_chk HF.out.1 HF.out.2 HR hsR
  rw [if_neg (by omega)] at hsz
  rcases hcase with ⟨_, SA, sc, rfl, LS⟩ | ⟨hne, _⟩
  case inr => exact absurd hsz hne
  go_wp2_with (fail)
  refine (cM _ (H.out.1.below B2) (H.out.2.below B2)).mono ?_
  rintro e w3 ⟨m, MR, hmn, hmR, hmG, hcase, hb3⟩
  have B3 := below_step B2 hb3 B2.size
  have hm238 : m.n ≤ 238 := by omega
  have hmz := Lf.pk_chk HF.out.1 HF.out.2 MR hmR
  rw [if_neg (by omega)] at hmz
  rcases hcase with ⟨_, MA, mc, rfl, LM⟩ | ⟨hne, _⟩
  case inr => exact absurd hmz hne
  have cY := fun W hh => wrong_any SA sc s W hh (by omega)
  have cZ := fun W hh => wrong_any MA mc m W hh (by omega)
  rw [hsz] at cY
  rw [hmz] at cZ
  have ks := Lf.chk_zero hsz
  have km := Lf.chk_zero hmz
  have HS := Lib.hid (And.intro (And.intro ks HR) (And.intro km MR))
  have hs1 := ks.n1
  have hm2 := km.n1
  clear hsz hmz ks km HR MR hsR hmR hsG hmG cL cM
  go_wp2_with (fail)
  refine (cW _ (H.out.1.below B3)).mono ?_
  rintro e w4 ⟨rfl, hb4⟩
  have B4 := below_step B3 hb4 B3.size
  go_wp2_with (fail)
  refine (cV _ (H.out.2.below B4)).mono ?_
  rintro e w5 ⟨rfl, hb5⟩
  have B5 := below_step B4 hb5 B4.size
  have L5 := ((LS.below hb3).below hb4).below hb5
  have M5 := (LM.below hb4).below hb5
  clear hb1 hb2 hb3 hb4 hb5 B2 B3 B4 LS LM cW cV
  go_wp2_with (fail)
  refine (near_two A B c d f g _ (H.out.1.below B5) (H.out.2.below B5) HF.out.1.rk HF.out.2.rk ⟨hn1, by omega⟩ ⟨hm1, by omega⟩).mono ?_
  rintro e w6 ⟨NA, nn, nc, xs, rfl, hn3, hnn, hNo, hNx, hb6⟩
  have B6 := below_step B5 hb6 B5.size
  go_wp2_with (fail)
  refine (near_two SA MA sc mc s m _ (L5.below hb6) (M5.below hb6) HS.out.1.1.rk HS.out.2.1.rk ⟨hs1, by omega⟩ ⟨hm2, by omega⟩).mono ?_
  rintro e w7 ⟨PA, pn, pc, ys, rfl, hp3, hpn, hPo, hPx, hb7⟩
  have B7 := below_step B6 hb7 B6.size
  have L7 := (L5.below hb6).below hb7
  have M7 := (M5.below hb6).below hb7
  have hNo7 := own_below hNo hb7
  obtain ⟨pb, rfl⟩ := own_ad hPo (by omega)
  obtain ⟨_, hnews⟩ := nms_news hPo
  have hone := nms_one hPx
  have hlen : ys.length = pn * 1 := hPo.1
  have hp0 : 0 < pn := by omega
  have hc3 : Hid (nn + pn ≤ maxLen) := Lib.hid (by unfold maxLen; omega)
  have hc4 : Hid ((nn + pn) * 8 ≤ 140737488355328) := Lib.hid (by omega)
  have hz7 : w5.heap.size ≤ w7.heap.size := Nat.le_trans hb6.size hb7.size
  have b57 := below_step hb6 hb7 hb6.size
  have HX := Lib.hid (nms_app hNx hPx)
  have HPN := Lib.hid (And.intro hnn hpn)
  have HB5 := Lib.hid (And.intro B5 (And.intro L5 M5))
  clear hNo hPo hPx hNx hb6 hb7 B6 B7 L5 M5 L7 M7
  go_upto_region 16 with (refine wpList_append_lies _ rfl (.tmp 98) (.tmp 101) 34 rfl w5.heap.size 2 j0' (.int .i64 0) 1 8 Try.underlying34 Ji.out Jz.out hy1 hy2 (by rfl) (by decide) _ nn xs (by rfl) hNo7 ⟨pb, 0, none⟩ pn pc ys (by rfl) hlen hnews hone hp0 hc3.out hc4.out hz7 _ rfl ?_; intro g9 cap9 w9 hown9 hgrow hat hlt9; have B9 := b57.grown hgrow hz7 (fun j hj => (hNo7.lt j hj).1))
  have b5 := HB5.out.1
  have hz9 : w5.heap.size ≤ w9.heap.size := B9.size
  clear hNo7 hnews hone hlen hp0 hc3 hc4 hz7 b57 hgrow hat hlt9 b5
  rcases (show (decide (0 ≤ x) = true ∧ decide (x ≤ 10000000000) = true) ∨ (decide (0 ≤ x) = true ∧ decide (x ≤ 10000000000) = false) ∨ decide (0 ≤ x) = false from by simp only [decide_eq_true_eq, decide_eq_false_iff_not]; omega) with ⟨d2, d3⟩ | ⟨d2, d3⟩ | d2
  · have HX9 := Lib.hid (nms_add HX.out (of_decide_eq_true d2) (of_decide_eq_true d3))
    have NX := below_new w9 (.cells #[.int .i64 x] 2)
    have O9 := own_below hown9 NX
    have b9 := below_step B9 NX B9.size
    have honex : ∀ u ∈ ([.int .i64 x] : List Value), u.oneCell' = true := by simp [Value.oneCell']
    have hc3 : Hid (nn + pn + 1 ≤ maxLen) := Lib.hid (by have := HPN.out; unfold maxLen; omega)
    have hc4 : Hid ((nn + pn + 1) * 8 ≤ 140737488355328) := Lib.hid (by have := HPN.out; omega)
    clear hown9 NX B9
    go_wp2_with (refine wpList_append_lies _ rfl (.tmp 109) (.tmp 111) 34 rfl w5.heap.size 2 j0' (.int .i64 0) 1 8 Try.underlying34 Ji.out Jz.out hy1 hy2 (by rfl) (by decide) _ (nn + pn) (xs ++ ys) (by rfl) O9 ⟨_, 0, none⟩ 1 1 [.int .i64 x] (by rfl) (by rfl) (cells_at8 _ [.int .i64 x] _ rfl) honex (by decide) hc3.out hc4.out b9.size _ rfl ?_; intro g8 cap8 w8 hown8 hgrow hat hlt8; have B8 := b9.grown hgrow b9.size (fun j hj => (O9.lt j hj).1))
    have NR := nr_own hown8 HX9.out
    have hnb : nn + pn + 1 ≤ 30000 := by have := HPN.out; omega
    clear hown8 hgrow hat hlt8 O9 b9 honex hc3 hc4 d2 d3
    have BB8 := Lib.hid B8
    have HNR := Lib.hid NR
    have hself := Below.refl w8.heap.size w8
    clear NR B8
    go_loopw [115] (fun k W => ∃ i : Nat, i ≤ nn + pn + 1 ∧ k = .int .i64 i ∧ Below w8.heap.size w8 W) (fun k _ => nn + pn + 1 - (intOf k).toNat)
    case atStart => exact ⟨0, Nat.zero_le _, rfl, hself⟩
    case round =>
      clear hself
      obtain ⟨i, hi, rfl, hb⟩ := hrel
      have b5 := below_step BB8.out hb BB8.out.size
      have Bw := below_step HB5.out.1 b5 HB5.out.1.size
      have LL := HB5.out.2.1.below b5
      have MM := HB5.out.2.2.below b5
      have LF := H.out.1.below Bw
      have LG := H.out.2.below Bw
      by_cases hlt : i < nn + pn + 1
      · obtain ⟨nb, no, z, hA, x0, hx0, hxT⟩ := nr_at (HNR.out.below hb) hlt
        first | (obtain ⟨rfl, rfl⟩ := hA) | (obtain ⟨rfl, rfl⟩ : _ = nb ∧ 0 = no := by simpa using hA)
        try rw [Nat.zero_add] at x0
        have c1 := fun W hh => lawat_any A c f z W hh (by omega) HF.out.1.rk hx0 hxT
        have c2 := fun W hh => lawat_any B d g z W hh (by omega) HF.out.2.rk hx0 hxT
        have c3 := fun W hh => lawat_any SA sc s z W hh (by omega) HS.out.1.1.rk hx0 hxT
        have c4 := fun W hh => lawat_any MA mc m z W hh (by omega) HS.out.2.1.rk hx0 hxT
        have e3 : s.val z = min (f.val z) (g.val z) := by rw [HS.out.1.2.val_is hx0 hxT]; unfold Lf.pkH Lf.pick; rw [if_pos rfl]
        have e4 : m.val z = max (f.val z) (g.val z) := by rw [HS.out.2.2.val_is hx0 hxT]; unfold Lf.pkH Lf.pick; rw [if_neg (by omega)]
        rw [e3] at c3
        rw [e4] at c4
        clear hx0 hxT Bw e3 e4
        generalize f.val z = y1 at *
        generalize g.val z = y2 at *
        have q1 : (min y1 y2 != min y1 y2) = false := by simp
        have q2 : (max y1 y2 != max y1 y2) = false := by simp
        go_wp2_with (fail)
        refine (c1 _ LF).mono ?_
        rintro e v6 ⟨rfl, hb6⟩
        have B6 := below_step hb hb6 hb.size
        go_wp2_with (fail)
        refine (c2 _ (LG.below hb6)).mono ?_
        rintro e v7 ⟨rfl, hb7⟩
        have B7 := below_step B6 hb7 B6.size
        go_wp2_with (fail)
        refine (c3 _ ((LL.below hb6).below hb7)).mono ?_
        rintro e v8 ⟨rfl, hb8⟩
        have B8' := below_step B7 hb8 B7.size
        go_wp2_with (fail)
        refine (c4 _ (((MM.below hb6).below hb7).below hb8)).mono ?_
        rintro e v9 ⟨rfl, hb9⟩
        have B9' := below_step B8' hb9 B8'.size
        clear hb hb6 hb7 hb8 hb9 LL LF LG MM c1 c2 c3 c4 x0 B6 B7 B8' b5
        go_wp2
        go_round
        case rel => exact ⟨i + 1, Nat.succ_le_of_lt hlt, by go_num, B9'⟩
        case measure => exact meas_step hlt
      · obtain rfl : i = nn + pn + 1 := by omega
        go_wp2_with (fail)
        refine (cY _ LL).mono ?_
        rintro e v6 ⟨rfl, hb6⟩
        have B6 := below_step Bw hb6 Bw.size
        go_wp2_with (fail)
        refine (cZ _ (MM.below hb6)).mono ?_
        rintro e v7 ⟨rfl, hb7⟩
        have B7 := below_step B6 hb7 B6.size
        clear hb hb6 hb7 LL LF LG MM Bw B6 b5
        go_wp2
        go_ret
        exact ⟨rfl, B7⟩
  · have NR := nr_own hown9 HX.out
    have hnb : nn + pn ≤ 30000 := by have := HPN.out; omega
    clear hown9 
    go_wp2
    have BB8 := Lib.hid B9
    have HNR := Lib.hid NR
    have hself := Below.refl w9.heap.size w9
    clear NR B9
    go_loopw [115] (fun k W => ∃ i : Nat, i ≤ nn + pn ∧ k = .int .i64 i ∧ Below w9.heap.size w9 W) (fun k _ => nn + pn - (intOf k).toNat)
    case atStart => exact ⟨0, Nat.zero_le _, rfl, hself⟩
    case round =>
      clear hself
      obtain ⟨i, hi, rfl, hb⟩ := hrel
      have b5 := below_step BB8.out hb BB8.out.size
      have Bw := below_step HB5.out.1 b5 HB5.out.1.size
      have LL := HB5.out.2.1.below b5
      have MM := HB5.out.2.2.below b5
      have LF := H.out.1.below Bw
      have LG := H.out.2.below Bw
      by_cases hlt : i < nn + pn
      · obtain ⟨nb, no, z, hA, x0, hx0, hxT⟩ := nr_at (HNR.out.below hb) hlt
        first | (obtain ⟨rfl, rfl⟩ := hA) | (obtain ⟨rfl, rfl⟩ : _ = nb ∧ 0 = no := by simpa using hA)
        try rw [Nat.zero_add] at x0
        have c1 := fun W hh => lawat_any A c f z W hh (by omega) HF.out.1.rk hx0 hxT
        have c2 := fun W hh => lawat_any B d g z W hh (by omega) HF.out.2.rk hx0 hxT
        have c3 := fun W hh => lawat_any SA sc s z W hh (by omega) HS.out.1.1.rk hx0 hxT
        have c4 := fun W hh => lawat_any MA mc m z W hh (by omega) HS.out.2.1.rk hx0 hxT
        have e3 : s.val z = min (f.val z) (g.val z) := by rw [HS.out.1.2.val_is hx0 hxT]; unfold Lf.pkH Lf.pick; rw [if_pos rfl]
        have e4 : m.val z = max (f.val z) (g.val z) := by rw [HS.out.2.2.val_is hx0 hxT]; unfold Lf.pkH Lf.pick; rw [if_neg (by omega)]
        rw [e3] at c3
        rw [e4] at c4
        clear hx0 hxT Bw e3 e4
        generalize f.val z = y1 at *
        generalize g.val z = y2 at *
        have q1 : (min y1 y2 != min y1 y2) = false := by simp
        have q2 : (max y1 y2 != max y1 y2) = false := by simp
        go_wp2_with (fail)
        refine (c1 _ LF).mono ?_
        rintro e v6 ⟨rfl, hb6⟩
        have B6 := below_step hb hb6 hb.size
        go_wp2_with (fail)
        refine (c2 _ (LG.below hb6)).mono ?_
        rintro e v7 ⟨rfl, hb7⟩
        have B7 := below_step B6 hb7 B6.size
        go_wp2_with (fail)
        refine (c3 _ ((LL.below hb6).below hb7)).mono ?_
        rintro e v8 ⟨rfl, hb8⟩
        have B8' := below_step B7 hb8 B7.size
        go_wp2_with (fail)
        refine (c4 _ (((MM.below hb6).below hb7).below hb8)).mono ?_
        rintro e v9 ⟨rfl, hb9⟩
        have B9' := below_step B8' hb9 B8'.size
        clear hb hb6 hb7 hb8 hb9 LL LF LG MM c1 c2 c3 c4 x0 B6 B7 B8' b5
        go_wp2
        go_round
        case rel => exact ⟨i + 1, Nat.succ_le_of_lt hlt, by go_num, B9'⟩
        case measure => exact meas_step hlt
      · obtain rfl : i = nn + pn := by omega
        go_wp2_with (fail)
        refine (cY _ LL).mono ?_
        rintro e v6 ⟨rfl, hb6⟩
        have B6 := below_step Bw hb6 Bw.size
        go_wp2_with (fail)
        refine (cZ _ (MM.below hb6)).mono ?_
        rintro e v7 ⟨rfl, hb7⟩
        have B7 := below_step B6 hb7 B6.size
        clear hb hb6 hb7 LL LF LG MM Bw B6 b5
        go_wp2
        go_ret
        exact ⟨rfl, B7⟩
  · have NR := nr_own hown9 HX.out
    have hnb : nn + pn ≤ 30000 := by have := HPN.out; omega
    clear hown9 
    go_wp2
    have BB8 := Lib.hid B9
    have HNR := Lib.hid NR
    have hself := Below.refl w9.heap.size w9
    clear NR B9
    go_loopw [115] (fun k W => ∃ i : Nat, i ≤ nn + pn ∧ k = .int .i64 i ∧ Below w9.heap.size w9 W) (fun k _ => nn + pn - (intOf k).toNat)
    case atStart => exact ⟨0, Nat.zero_le _, rfl, hself⟩
    case round =>
      clear hself
      obtain ⟨i, hi, rfl, hb⟩ := hrel
      have b5 := below_step BB8.out hb BB8.out.size
      have Bw := below_step HB5.out.1 b5 HB5.out.1.size
      have LL := HB5.out.2.1.below b5
      have MM := HB5.out.2.2.below b5
      have LF := H.out.1.below Bw
      have LG := H.out.2.below Bw
      by_cases hlt : i < nn + pn
      · obtain ⟨nb, no, z, hA, x0, hx0, hxT⟩ := nr_at (HNR.out.below hb) hlt
        first | (obtain ⟨rfl, rfl⟩ := hA) | (obtain ⟨rfl, rfl⟩ : _ = nb ∧ 0 = no := by simpa using hA)
        try rw [Nat.zero_add] at x0
        have c1 := fun W hh => lawat_any A c f z W hh (by omega) HF.out.1.rk hx0 hxT
        have c2 := fun W hh => lawat_any B d g z W hh (by omega) HF.out.2.rk hx0 hxT
        have c3 := fun W hh => lawat_any SA sc s z W hh (by omega) HS.out.1.1.rk hx0 hxT
        have c4 := fun W hh => lawat_any MA mc m z W hh (by omega) HS.out.2.1.rk hx0 hxT
        have e3 : s.val z = min (f.val z) (g.val z) := by rw [HS.out.1.2.val_is hx0 hxT]; unfold Lf.pkH Lf.pick; rw [if_pos rfl]
        have e4 : m.val z = max (f.val z) (g.val z) := by rw [HS.out.2.2.val_is hx0 hxT]; unfold Lf.pkH Lf.pick; rw [if_neg (by omega)]
        rw [e3] at c3
        rw [e4] at c4
        clear hx0 hxT Bw e3 e4
        generalize f.val z = y1 at *
        generalize g.val z = y2 at *
        have q1 : (min y1 y2 != min y1 y2) = false := by simp
        have q2 : (max y1 y2 != max y1 y2) = false := by simp
        go_wp2_with (fail)
        refine (c1 _ LF).mono ?_
        rintro e v6 ⟨rfl, hb6⟩
        have B6 := below_step hb hb6 hb.size
        go_wp2_with (fail)
        refine (c2 _ (LG.below hb6)).mono ?_
        rintro e v7 ⟨rfl, hb7⟩
        have B7 := below_step B6 hb7 B6.size
        go_wp2_with (fail)
        refine (c3 _ ((LL.below hb6).below hb7)).mono ?_
        rintro e v8 ⟨rfl, hb8⟩
        have B8' := below_step B7 hb8 B7.size
        go_wp2_with (fail)
        refine (c4 _ (((MM.below hb6).below hb7).below hb8)).mono ?_
        rintro e v9 ⟨rfl, hb9⟩
        have B9' := below_step B8' hb9 B8'.size
        clear hb hb6 hb7 hb8 hb9 LL LF LG MM c1 c2 c3 c4 x0 B6 B7 B8' b5
        go_wp2
        go_round
        case rel => exact ⟨i + 1, Nat.succ_le_of_lt hlt, by go_num, B9'⟩
        case measure => exact meas_step hlt
      · obtain rfl : i = nn + pn := by omega
        go_wp2_with (fail)
        refine (cY _ LL).mono ?_
        rintro e v6 ⟨rfl, hb6⟩
        have B6 := below_step Bw hb6 Bw.size
        go_wp2_with (fail)
        refine (cZ _ (MM.below hb6)).mono ?_
        rintro e v7 ⟨rfl, hb7⟩
        have B7 := below_step B6 hb7 B6.size
        clear hb hb6 hb7 LL LF LG MM Bw B6 b5
        go_wp2
        go_ret
        exact ⟨rfl, B7⟩
set_option maxHeartbeats 4000000 in
set_option maxRecDepth 100000 in
theorem wPieceLeast (A : Option Addr) (c : Nat) (f : Lf) (B : Option Addr) (d : Nat) (g : Lf) (x : Int) (w : World) (h : Lm w A f) (hnc : f.n ≤ 9223372036854775807 ∧ f.n ≤ c) (h2 : Lm w B g) (hmc : g.n ≤ 9223372036854775807 ∧ g.n ≤ d) (hx1 : -9223372036854775808 ≤ x) (hx2 : x ≤ 9223372036854775807) :
    Calls Try.prog 5 #[.slice A f.n c, .slice B g.n d, .int .i64 x] w fun e w' => e = .returned (.bool true) ∧ Below w.heap.size w w' := by
  by_cases hl : 60 < f.n ∨ 60 < g.n
  · rcases (show decide (60 < (f.n : Int)) = true ∨ (decide (60 < (f.n : Int)) = false ∧ decide (60 < (g.n : Int)) = true) from by simp only [decide_eq_true_eq, decide_eq_false_iff_not]; omega) with d1 | ⟨d1, d2⟩
    all_goals
      clear hl
      go_enter Try.func5, Try.ntmps5
      go_wp2_with (fail)
      refine (goes_any _).mono ?_
      rintro e w1 ⟨rfl, hb⟩
      go_wp2
      go_ret
      exact ⟨rfl, hb⟩
  · have d0 : decide (60 < (f.n : Int)) = false := by simp; omega
    have d1 : decide (60 < (g.n : Int)) = false := by simp; omega
    have cW := fun W hh => wrong_any A c f W hh (by omega)
    have cV := fun W hh => wrong_any B d g W hh (by omega)
    by_cases hf : f.chk = 0
    · by_cases hg : g.chk = 0
      · exact least_all A B c d f g x w h h2 (by omega) (by omega) hf hg
      · have e1 : botE f g = g.chk := if_pos hf
        have cL := fun W h1 h2 => Least_bad A B c d f g W h1 h2 (by omega) (by omega) (by rw [e1]; exact hg)
        have cM := fun W h1 h2 => Greatest_bad A B c d f g W h1 h2 (by omega) (by omega) (by rw [e1]; exact hg)
        rw [e1] at cL cM
        rw [hf] at cW
        have b1 : (g.chk != 0) = true := by simp; exact hg
        have b2 : (g.chk == g.chk) = true := by simp
        clear hl hf hg e1
        generalize g.chk = q at *
        go_enter Try.func5, Try.ntmps5
        go_wp2_with (fail)
        refine (goes_any _).mono ?_
        rintro e w1 ⟨rfl, hb⟩
        go_wp2_with (fail)
        refine (cL _ (h.below hb) (h2.below hb)).mono ?_
        rintro e w2 ⟨rfl, hb2⟩
        have B2 := below_step hb hb2 hb.size
        go_wp2_with (fail)
        refine (cM _ (h.below B2) (h2.below B2)).mono ?_
        rintro e w3 ⟨rfl, hb3⟩
        have B3 := below_step B2 hb3 B2.size
        go_wp2_with (fail)
        refine (cW _ (h.below B3)).mono ?_
        rintro e w4 ⟨rfl, hb4⟩
        have B4 := below_step B3 hb4 B3.size
        go_wp2_with (fail)
        refine (cV _ (h2.below B4)).mono ?_
        rintro e w5 ⟨rfl, hb5⟩
        have B5 := below_step B4 hb5 B4.size
        go_wp2
        go_ret
        exact ⟨rfl, B5⟩
    · have e1 : botE f g = f.chk := if_neg hf
      have cL := fun W h1 h2 => Least_bad A B c d f g W h1 h2 (by omega) (by omega) (by rw [e1]; exact hf)
      have cM := fun W h1 h2 => Greatest_bad A B c d f g W h1 h2 (by omega) (by omega) (by rw [e1]; exact hf)
      rw [e1] at cL cM
      have b1 : (f.chk != 0) = true := by simp; exact hf
      have b2 : (f.chk == f.chk) = true := by simp
      clear hl hf e1
      generalize f.chk = q at *
      go_enter Try.func5, Try.ntmps5
      go_wp2_with (fail)
      refine (goes_any _).mono ?_
      rintro e w1 ⟨rfl, hb⟩
      go_wp2_with (fail)
      refine (cL _ (h.below hb) (h2.below hb)).mono ?_
      rintro e w2 ⟨rfl, hb2⟩
      have B2 := below_step hb hb2 hb.size
      go_wp2_with (fail)
      refine (cM _ (h.below B2) (h2.below B2)).mono ?_
      rintro e w3 ⟨rfl, hb3⟩
      have B3 := below_step B2 hb3 B2.size
      go_wp2_with (fail)
      refine (cW _ (h.below B3)).mono ?_
      rintro e w4 ⟨rfl, hb4⟩
      have B4 := below_step B3 hb4 B3.size
      go_wp2
      go_ret
      exact ⟨rfl, B4⟩
end Go.Proofs.Ytcldknmhmbpboaa
