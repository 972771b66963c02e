/- What year.Slips and Clone answer. -/
import Derived.Test.YtfnjhalpedccaaaYrL
import Derived.Test.YtfnjhalpedccaaaYrQ
import Derived.Maps.AppendAt
namespace Go.Proofs.Ytfnjhalpedccaaa
open Go.RowKit Go.Sort
set_option linter.unusedVariables false
set_option linter.unusedSimpArgs false

theorem infoSs : (Try.prog.info? 37).map (fun i => (i.zero, i.size, i.bytes)) = some (some (.agg #[.int .i64 0, .int .i64 0, .int .i64 0, .int .i64 0, .int .i64 0, .int .i64 0, .slice none 0 0, .int .i64 0, .slice none 0 0, .int .i64 0]), 10, 112) := by kernel_rfl
/-- payslips of the call's own, the same as others, with lists of their own -/
def SlC (w : World) (v : Value) (i : Nat) (g : Nat → Slp) (W : World) : Prop :=
  ∃ h : Nat → Slp, W.ownsRow w.heap.size 37 10 v i (slc h i) ∧ ∀ j, j < i → (∃ A c T d, h j = (g j).mv A c T d) ∧ SlM W (h j) ∧ ∀ q, (h j).at_ q → w.heap.size ≤ q ∧ q < W.heap.size ∧ v.ownBlock ≠ some q
theorem slC_nil (w W : World) (g : Nat → Slp) : SlC w (.slice none 0 0) 0 g W := ⟨g, World.ownsRow_nil _ _ _ _, fun j hj => absurd hj (Nat.not_lt_zero j)⟩
theorem SlC.below {w W W' : World} {v : Value} {i : Nat} {g : Nat → Slp} (h : SlC w v i g W) (hb : Below W.heap.size W W') : SlC w v i g W' := by
  obtain ⟨f, ho, hj⟩ := h
  refine ⟨f, own_below ho hb, fun j hl => ?_⟩
  obtain ⟨a, b, c⟩ := hj j hl
  exact ⟨a, b.below hb, fun q hq => ⟨(c q hq).1, Nat.lt_of_lt_of_le (c q hq).2.1 hb.size, (c q hq).2.2⟩⟩
theorem slC_lt {w W : World} {v : Value} {i : Nat} {g : Nat → Slp} (h : SlC w v i g W) : ∀ q, v.ownBlock = some q → q < W.heap.size := fun q hq => by
  obtain ⟨f, ho, _⟩ := h
  exact (ho.lt q hq).2
/-- one more -/
theorem slC_more {w W W' : World} {v v' : Value} {i : Nat} {g : Nat → Slp} {A c T d} {f : Nat → Slp}
    (hj : ∀ j, j < i → (∃ A c T d, f j = (g j).mv A c T d) ∧ SlM W (f j) ∧ ∀ q, (f j).at_ q → w.heap.size ≤ q ∧ q < W.heap.size ∧ v.ownBlock ≠ some q)
    (hs : SlM W ((g i).mv A c T d)) (hq : ∀ q, ((g i).mv A c T d).at_ q → w.heap.size ≤ q ∧ q < W.heap.size ∧ v.ownBlock ≠ some q)
    (hown : W'.ownsRow w.heap.size 37 10 v' (i + 1) (slc f i ++ ((g i).mv A c T d).cs)) (hg : W.grownBy W' v.ownBlock) (hob : v'.ownBlock = v.ownBlock ∨ v'.ownBlock = some W.heap.size) : SlC w v' (i + 1) g W' := by
  have key : ∀ s : Slp, SlM W s → (∀ q, s.at_ q → w.heap.size ≤ q ∧ q < W.heap.size ∧ v.ownBlock ≠ some q) → SlM W' s ∧ ∀ q, s.at_ q → w.heap.size ≤ q ∧ q < W'.heap.size ∧ v'.ownBlock ≠ some q := fun s h1 h2 => by
    refine ⟨h1.blk fun q hq => hg.block q (h2 q hq).2.1 (fun e => (h2 q hq).2.2 e.symm), fun q hq => ?_⟩
    obtain ⟨a, b, c⟩ := h2 q hq
    refine ⟨a, Nat.lt_of_lt_of_le b hg.size, fun e => ?_⟩
    rcases hob with h | h
    · exact c (h ▸ e)
    · rw [h] at e; simp at e; omega
  refine ⟨exG f i ((g i).mv A c T d), by rw [exG_cells]; exact hown, fun j hl => ?_⟩
  rcases Nat.lt_or_ge j i with h | h
  · rw [exG_lt h]
    obtain ⟨a, b, c⟩ := hj j h
    exact ⟨a, key _ b c⟩
  · obtain rfl : j = i := by omega
    rw [exG_at]
    exact ⟨⟨A, c, T, d, rfl⟩, key _ hs hq⟩
/-- what Slips leaves -/
def YlP (g : Nat → Slp) (cnt : Nat) (w : World) (e : Ending) (w' : World) : Prop := ∃ v, e = .returned v ∧ SlC w v cnt g w' ∧ Below w.heap.size w w'
set_option maxRecDepth 100000 in
set_option maxHeartbeats 8000000 in
theorem yslips_any {W : World} {p n cnt : Nat} {g : Nat → Slp} {t : Tot} {F : Nat → Prop} (h : YO W p n cnt g t F) (hg : ∀ i, i < cnt → (g i).n ≤ 100000 ∧ (g i).m ≤ 100000) (hcnt : cnt ≤ 1000) :
    Calls Try.prog 20 #[.pointer (some ⟨p, 0, none⟩)] W (YlP g cnt W) := by
  unfold YlP
  obtain ⟨A, c, y0, hSl, _, _⟩ := h.sls
  have HSL := Lib.hid hSl
  have HG := Lib.hid hg
  obtain ⟨i0, hi0, hz0, hz1, hz2⟩ := info_parts infoSs
  have Hi := Lib.hid hi0
  have Hz := Lib.hid hz0
  have B0 := Below.refl W.heap.size W
  clear hi0 hz0 hSl hg h
  go_enter Try.func20, Try.ntmps20
  go_wp2
  go_loopw [3, 11] (fun u k X => ∃ i : Nat, i ≤ cnt ∧ k = .int .i64 i ∧ SlC W u i g X ∧ Below W.heap.size W X) (fun _ k _ => cnt - (intOf k).toNat)
  case atStart => exact ⟨0, Nat.zero_le _, rfl, slC_nil _ _ _, B0⟩
  case round =>
    clear B0
    obtain ⟨i, hi, rfl, HC, hB⟩ := hrel
    by_cases hlt : i < cnt
    · obtain ⟨b1, o1, rfl, hc⟩ := HSL.out (by omega)
      obtain ⟨hAt, hM⟩ := hc i hlt
      replace hAt := hAt.below hB
      replace hM := hM.below hB
      obtain ⟨x_0, x_1, x_2, x_3, x_4, x_5, x_6, x_7, x_8, x_9⟩ := hAt.all
      have hil : (i : Int) < (cnt : Int) := by omega
      obtain ⟨hm1, hm2⟩ := HG.out i hlt
      have NB := below_new wr (.cells #[.int .i64 (g i).k, .int .i64 (g i).ca, .int .i64 (g i).tb, .int .i64 (g i).so, .int .i64 (g i).tx, .int .i64 (g i).sf, .slice (g i).A (g i).n (g i).c, .int .i64 (g i).net, .slice (g i).T (g i).m (g i).d, .int .i64 (g i).pay] 37)
      have K := bx_new wr [.int .i64 (g i).k, .int .i64 (g i).ca, .int .i64 (g i).tb, .int .i64 (g i).so, .int .i64 (g i).tx, .int .i64 (g i).sf, .slice (g i).A (g i).n (g i).c, .int .i64 (g i).net, .slice (g i).T (g i).m (g i).d, .int .i64 (g i).pay] 37
      have B2 := below_step hB NB hB.size
      have HC2 := Lib.hid (HC.below NB)
      have HLV := Lib.hid (slC_lt HC)
      have hWw : W.heap.size ≤ wr.heap.size := hB.size
      have cO := yown_any (g i) _ (hM.below NB) hm1 hm2
      unfold OwP at cO
      have HGI : Hid (g i = g i) := Lib.hid rfl
      have hmv : Hid (∀ A6 c6 T6 d6, ((g i).mv A6 c6 T6 d6).cs = [.int .i64 (g i).k, .int .i64 (g i).ca, .int .i64 (g i).tb, .int .i64 (g i).so, .int .i64 (g i).tx, .int .i64 (g i).sf, .slice A6 (g i).n c6, .int .i64 (g i).net, .slice T6 (g i).m d6, .int .i64 (g i).pay]) := Lib.hid (fun _ _ _ _ => rfl)
      have hsl : Hid (∀ X : World, ∀ A6 c6 T6 d6, X.ownsRow (wr.alloc (.cells #[.int .i64 (g i).k, .int .i64 (g i).ca, .int .i64 (g i).tb, .int .i64 (g i).so, .int .i64 (g i).tx, .int .i64 (g i).sf, .slice (g i).A (g i).n (g i).c, .int .i64 (g i).net, .slice (g i).T (g i).m (g i).d, .int .i64 (g i).pay] 37)).heap.size 53 2 (.slice A6 (g i).n c6) (g i).n (sh2 (g i).X (g i).Y (g i).n) → X.ownsRow (wr.alloc (.cells #[.int .i64 (g i).k, .int .i64 (g i).ca, .int .i64 (g i).tb, .int .i64 (g i).so, .int .i64 (g i).tx, .int .i64 (g i).sf, .slice (g i).A (g i).n (g i).c, .int .i64 (g i).net, .slice (g i).T (g i).m (g i).d, .int .i64 (g i).pay] 37)).heap.size 58 6 (.slice T6 (g i).m d6) (g i).m (tkc (g i).f (g i).m) → SlM X ((g i).mv A6 c6 T6 d6) ∧ ∀ q, ((g i).mv A6 c6 T6 d6).at_ q → (wr.alloc (.cells #[.int .i64 (g i).k, .int .i64 (g i).ca, .int .i64 (g i).tb, .int .i64 (g i).so, .int .i64 (g i).tx, .int .i64 (g i).sf, .slice (g i).A (g i).n (g i).c, .int .i64 (g i).net, .slice (g i).T (g i).m (g i).d, .int .i64 (g i).pay] 37)).heap.size ≤ q ∧ q < X.heap.size) := Lib.hid (fun X A6 c6 T6 d6 h1 h2 => by
        have n1 := own_new h1
        have n2 := own_new h2
        refine ⟨⟨shs_own h1, tks_own h2, n1.2, n2.2⟩, fun q hq => ?_⟩
        rcases hq with hq | hq
        · exact n1.1 q hq
        · exact n2.1 q hq)
      clear hc hAt hM HC hm1 hm2 NB hB
      have hzw : (wr.alloc (.cells #[.int .i64 (g i).k, .int .i64 (g i).ca, .int .i64 (g i).tb, .int .i64 (g i).so, .int .i64 (g i).tx, .int .i64 (g i).sf, .slice (g i).A (g i).n (g i).c, .int .i64 (g i).net, .slice (g i).T (g i).m (g i).d, .int .i64 (g i).pay] 37)).heap.size = wr.heap.size + 1 := by simp
      have k_0 := K.cell (i := 0) rfl
      have k_1 := K.cell (i := 1) rfl
      have k_2 := K.cell (i := 2) rfl
      have k_3 := K.cell (i := 3) rfl
      have k_4 := K.cell (i := 4) rfl
      have k_5 := K.cell (i := 5) rfl
      have k_6 := K.cell (i := 6) rfl
      have k_7 := K.cell (i := 7) rfl
      have k_8 := K.cell (i := 8) rfl
      have k_9 := K.cell (i := 9) rfl
      go_wp2_with (fail)
      clear x_0 x_1 x_2 x_3 x_4 x_5 x_6 x_7 x_8 x_9
      with_reducible refine cO.mono ?_
      rintro e w6 ⟨A6, c6, T6, d6, rfl, O1, O2, hne, hb⟩
      clear cO k_0 k_1 k_2 k_3 k_4 k_5 k_6 k_7 k_8 k_9 hne K
      have B6 := below_step B2 hb B2.size
      obtain ⟨f, hown6, hj6⟩ := HC2.out.below hb
      have hS6 := Lib.hid (hsl.out w6 A6 c6 T6 d6 O1 O2)
      have N7 := below_new w6 (.cells #[.int .i64 (g i).k, .int .i64 (g i).ca, .int .i64 (g i).tb, .int .i64 (g i).so, .int .i64 (g i).tx, .int .i64 (g i).sf, .slice A6 (g i).n c6, .int .i64 (g i).net, .slice T6 (g i).m d6, .int .i64 (g i).pay] 37)
      have B7 := below_step B6 N7 B6.size
      have hcA := bx_add (bx_new w6 [.int .i64 (g i).k, .int .i64 (g i).ca, .int .i64 (g i).tb, .int .i64 (g i).so, .int .i64 (g i).tx, .int .i64 (g i).sf, .slice A6 (g i).n c6, .int .i64 (g i).net, .slice T6 (g i).m d6, .int .i64 (g i).pay] 37)
      have hc2 : ∀ u ∈ ([.int .i64 (g i).k, .int .i64 (g i).ca, .int .i64 (g i).tb, .int .i64 (g i).so, .int .i64 (g i).tx, .int .i64 (g i).sf, .slice A6 (g i).n c6, .int .i64 (g i).net, .slice T6 (g i).m d6, .int .i64 (g i).pay] : List Value), u.oneCell' = true := by simp [Value.oneCell']
      have hc3 : i + 1 ≤ maxLen := by unfold maxLen; omega
      have hc4 : (i + 1) * 112 ≤ 140737488355328 := by omega
      have hc5 := B7.size
      have HOW := Lib.hid (own_below hown6 N7)
      have HJ6 := Lib.hid hj6
      have HC2s := Lib.hid (fun q hq => (HOW.out.lt q hq))
      have hz6 : wr.heap.size + 1 ≤ w6.heap.size := by have := hb.size; rw [hzw] at this; exact this
      clear O1 O2 hown6 hj6 hsl
      go_wp2_with (at_builtin; first
        | (refine wpList_append_own_at _ rfl _ _ 22 rfl W.heap.size 37 i0 (.agg #[.int .i64 0, .int .i64 0, .int .i64 0, .int .i64 0, .int .i64 0, .int .i64 0, .slice none 0 0, .int .i64 0, .slice none 0 0, .int .i64 0]) 10 112 Try.underlying22 Hi.out Hz.out hz1 hz2 rfl (by decide) _ _ _ rfl HOW.out ⟨w6.heap.size, 0, none⟩ 1 1 [.int .i64 (g i).k, .int .i64 (g i).ca, .int .i64 (g i).tb, .int .i64 (g i).so, .int .i64 (g i).tx, .int .i64 (g i).sf, .slice A6 (g i).n c6, .int .i64 (g i).net, .slice T6 (g i).m d6, .int .i64 (g i).pay] rfl rfl hcA hc2 hc3 hc4 hc5 ?_
           intro va wa hown hgr _ hob
           have OA : SlC W va (i + 1) g wa := slC_more (fun j hl => ⟨(HJ6.out j hl).1, (HJ6.out j hl).2.1.below N7, fun q hq => ⟨((HJ6.out j hl).2.2 q hq).1, Nat.lt_of_lt_of_le ((HJ6.out j hl).2.2 q hq).2.1 N7.size, ((HJ6.out j hl).2.2 q hq).2.2⟩⟩) (hS6.out.1.below N7) (fun q hq => by
             have h1 := hS6.out.2 q hq
             rw [hzw] at h1
             refine ⟨by omega, Nat.lt_of_lt_of_le h1.2 N7.size, fun e => ?_⟩
             have := HLV.out q e
             omega) hown hgr hob
           have Ba := B7.grown hgr hc5 (fun k hk => (HOW.out.lt k hk).1)
           clear hown hgr hob))
      refine ⟨⟨i + 1, by omega, by go_num, OA, Ba⟩, ?_⟩
      simp [intOf]; omega
    · obtain rfl : cnt = i := by omega
      have hnl : ¬ (cnt : Int) < (cnt : Int) := by omega
      have HCC := Lib.hid HC
      clear HC
      go_wp2
      go_ret
      exact ⟨_, rfl, HCC.out, hB⟩
/-- what Clone leaves -/
def YcP (n cnt : Nat) (g : Nat → Slp) (t : Tot) (w : World) (e : Ending) (w' : World) : Prop := ∃ p f, e = .returned (.pointer (some ⟨p, 0, none⟩)) ∧ YO w' p n cnt f t (newF w w') ∧ (∀ i, i < cnt → ∃ A c T d, f i = (g i).mv A c T d) ∧ Below w.heap.size w w'
set_option maxRecDepth 100000 in
set_option maxHeartbeats 4000000 in
theorem yclone_any {W : World} {p n cnt : Nat} {g : Nat → Slp} {t : Tot} {F : Nat → Prop} (h : YO W p n cnt g t F) (hn : n ≤ 64) (hg : ∀ i, i < cnt → (g i).n ≤ 100000 ∧ (g i).m ≤ 100000) (hcnt : cnt ≤ 1000) :
    Calls Try.prog 23 #[.pointer (some ⟨p, 0, none⟩)] W (YcP n cnt g t W) := by
  unfold YcP
  have cS := yslips_any h hg hcnt
  unfold YlP at cS
  go_enter Try.func23, Try.ntmps23
  go_wp2_with (fail)
  with_reducible refine cS.mono ?_
  rintro e w1 ⟨v, rfl, HC, hb1⟩
  have cT := ytotals_any (h.below hb1) hn
  unfold YtP at cT
  have HC1 := Lib.hid HC
  clear HC cS h hg
  go_wp2_with (fail)
  with_reducible refine cT.mono ?_
  rintro e w2 ⟨B, bc, rfl, hoB, hb2⟩
  obtain ⟨f, ho, hj⟩ := HC1.out
  obtain ⟨A, c, rfl, -, -⟩ := own_len ho
  have N3 := below_new w2 (.cells #[.slice A cnt c, .int .i64 t.ca, .int .i64 t.tb, .int .i64 t.so, .int .i64 t.tx, .int .i64 t.sf, .slice B n bc, .int .i64 t.net, .int .i64 t.tk, .int .i64 t.pay] 86)
  have K3 := bx_new w2 [.slice A cnt c, .int .i64 t.ca, .int .i64 t.tb, .int .i64 t.so, .int .i64 t.tx, .int .i64 t.sf, .slice B n bc, .int .i64 t.net, .int .i64 t.tk, .int .i64 t.pay] 86
  have hz3 : (w2.alloc (.cells #[.slice A cnt c, .int .i64 t.ca, .int .i64 t.tb, .int .i64 t.so, .int .i64 t.tx, .int .i64 t.sf, .slice B n bc, .int .i64 t.net, .int .i64 t.tk, .int .i64 t.pay] 86)).heap.size = w2.heap.size + 1 := by simp
  have z1 := hb1.size
  have z2 := hb2.size
  have nB := own_new hoB
  have oA := fun q hq => ho.lt q hq
  have hAq : ∀ q, atB A q → W.heap.size ≤ q ∧ q < w1.heap.size := fun q hq => by
    cases A with
    | none => cases hq
    | some a => exact oA q hq
  have hY : Hid (YO (w2.alloc (.cells #[.slice A cnt c, .int .i64 t.ca, .int .i64 t.tb, .int .i64 t.so, .int .i64 t.tx, .int .i64 t.sf, .slice B n bc, .int .i64 t.net, .int .i64 t.tk, .int .i64 t.pay] 86)) w2.heap.size n cnt f t (newF W (w2.alloc (.cells #[.slice A cnt c, .int .i64 t.ca, .int .i64 t.tb, .int .i64 t.so, .int .i64 t.tx, .int .i64 t.sf, .slice B n bc, .int .i64 t.net, .int .i64 t.tk, .int .i64 t.pay] 86)))) := Lib.hid ⟨A, c, B, bc, {
    K := K3
    S := (shs_own hoB).below N3
    sB := nB.2
    O := own_mono (own_below (own_below ho hb2) N3) (Nat.zero_le _)
    M := fun i hi => ((hj i hi).2.1.below hb2).below N3
    lt := fun q h => h.2
    fp := ⟨by omega, by rw [hz3]; omega⟩
    fB := fun q hq => ⟨by have := nB.1 q hq; omega, by have := nB.1 q hq; rw [hz3]; omega⟩
    fA := fun q hq => ⟨(hAq q hq).1, by have := (hAq q hq).2; rw [hz3]; omega⟩
    fg := fun i hi q hq => ⟨((hj i hi).2.2 q hq).1, by have := ((hj i hi).2.2 q hq).2.1; rw [hz3]; omega⟩
    dB := fun hq => by have := nB.1 _ hq; omega
    dA := fun hq => by have := (hAq _ hq).2; omega
    dAB := fun q h1 h2 => by have := (hAq q h1).2; have := (nB.1 q h2).1; omega
    dg := fun i hi q hq => ⟨by have := ((hj i hi).2.2 q hq).2.1; omega, fun e => by
      have := ((hj i hi).2.2 q hq).2.2
      cases A with
      | none => cases e
      | some a => exact this e⟩ }⟩
  have hM : Hid (∀ i, i < cnt → ∃ A c T d, f i = (g i).mv A c T d) := Lib.hid (fun i hi => (hj i hi).1)
  have B3 := below_step (below_step hb1 hb2 hb1.size) N3 (by omega)
  clear K3 N3 hoB ho hj HC1 hb1 hb2 nB oA hAq cT hz3 z1 z2
  go_wp2
  go_ret
  exact ⟨_, f, rfl, hY.out, hM.out, B3⟩
end Go.Proofs.Ytfnjhalpedccaaa
