/- A book whose orders lie apart from a row of the call's own. -/
import Derived.Test.YthknjpmhomjobaaGreatDoorBkU
import Derived.Deep.AppendLies
namespace Go.Proofs.YthknjpmhomjobaaGreatDoor
open Go.RowKit Go.Sort
set_option linter.unusedVariables false
set_option linter.unusedSimpArgs false

/-- a book of orders whose list lies apart from a slice -/
def BkN (W : World) (p n : Nat) (f : Nat → Sta) (Ah : Option Addr) : Prop := ∃ A c, Bx W p 35 [.slice A n c] ∧ Ors W A n f ∧ (A = none → c = 0) ∧ ∀ g o, A = some ⟨g, o, none⟩ → g ≠ p ∧ (0 < n → g < W.heap.size ∧ ∀ gh oh, Ah = some ⟨gh, oh, none⟩ → g ≠ gh)
theorem BkN.bk {W : World} {p n : Nat} {f : Nat → Sta} {Ah : Option Addr} (h : BkN W p n f Ah) : Bk W p n f := by
  obtain ⟨A, c, h1, h2, h3, h4⟩ := h
  exact ⟨A, c, h1, h2, h3, fun g o e => (h4 g o e).1⟩
theorem BkN.below {W W' : World} {p n : Nat} {f : Nat → Sta} {Ah : Option Addr} (h : BkN W p n f Ah) (hb : Below W.heap.size W W') : BkN W' p n f Ah := by
  obtain ⟨A, c, h1, h2, h3, h4⟩ := h
  exact ⟨A, c, h1.below hb, h2.below hb, h3, fun g o e => ⟨(h4 g o e).1, fun h0 => ⟨Nat.lt_of_lt_of_le ((h4 g o e).2 h0).1 hb.size, ((h4 g o e).2 h0).2⟩⟩⟩
theorem ors_lt {W : World} {g o n : Nat} {f : Nat → Sta} (h : Ors W (some ⟨g, o, none⟩) n f) (h0 : 0 < n) : g < W.heap.size := by
  obtain ⟨b, o', e, hc⟩ := h h0
  obtain ⟨rfl, rfl⟩ : g = b ∧ o = o' := by simpa using e
  exact block_lt_of_cell (hc 0 h0).1
theorem BkB.apart {W : World} {p n : Nat} {f : Nat → Sta} {B : Nat} {Ah : Option Addr} (h : BkB W p n f B) (hA : ∀ g o, Ah = some ⟨g, o, none⟩ → g < B) : BkN W p n f Ah := by
  obtain ⟨A, c, h1, h2, h3, h4⟩ := h
  refine ⟨A, c, h1, h2, h3, fun g o e => ⟨(h4 g o e).2, fun h0 => ⟨?_, fun gh oh e2 => ?_⟩⟩⟩
  · subst e; exact ors_lt h2 h0
  · have a1 := hA gh oh e2
    have a2 := (h4 g o e).1
    omega
/-- an append to the slice -/
theorem BkN.grown {W W' : World} {p n g9 : Nat} {f : Nat → Sta} {Ah : Option Addr} {nn ch : Nat} (h : BkN W p n f Ah) (hg : W.grownBy W' (Value.slice Ah nn ch).ownBlock) (hA : ∀ a, Ah = some a → ∃ g, a = ⟨g, 0, none⟩ ∧ p < g)
    (hat : (Value.slice Ah nn ch).ownBlock = some g9 ∨ g9 = W.heap.size) : BkN W' p n f (some ⟨g9, 0, none⟩) := by
  obtain ⟨A, c, h1, h2, h3, h4⟩ := h
  have hown : ∀ g, (Value.slice Ah nn ch).ownBlock = some g → Ah = some ⟨g, 0, none⟩ ∧ p < g := by
    intro g e
    cases Ah with
    | none => cases e
    | some a =>
      obtain ⟨g', rfl, hp⟩ := hA a rfl
      have : g' = g := by simpa [Value.ownBlock] using e
      rw [← this]
      exact ⟨rfl, hp⟩
  have hsz := hg.size
  refine ⟨A, c, h1.of_block (hg.block p h1.lt fun e => ?_), fun h0 => ?_, h3, fun g o e => ⟨(h4 g o e).1, fun h0 => ⟨Nat.lt_of_lt_of_le ((h4 g o e).2 h0).1 hsz, fun gh oh e2 => ?_⟩⟩⟩
  · have := (hown p e.symm).2
    omega
  · obtain ⟨b, o, e, hc⟩ := h2 h0
    refine ⟨b, o, e, fun i hi => ?_⟩
    have hlt : b < W.heap.size := ((h4 b o e).2 h0).1
    have hne : some b ≠ (Value.slice Ah nn ch).ownBlock := fun e2 => ((h4 b o e).2 h0).2 b 0 (hown b e2.symm).1 rfl
    obtain ⟨c0, c1, c2, c3, c4, c5, c6⟩ := hc i hi
    have kp : ∀ k v, W.cell? ⟨b, k, none⟩ = some v → W'.cell? ⟨b, k, none⟩ = some v := fun k v hv => (hg.cell_far ⟨b, k, none⟩ hlt hne).trans hv
    exact ⟨kp _ _ c0, kp _ _ c1, kp _ _ c2, kp _ _ c3, kp _ _ c4, kp _ _ c5, kp _ _ c6⟩
  · obtain ⟨rfl, rfl⟩ : g9 = gh ∧ 0 = oh := by simpa using e2
    rcases hat with h5 | h5
    · exact ((h4 g o e).2 h0).2 g9 0 (hown g9 h5).1
    · have := ((h4 g o e).2 h0).1
      omega
/-- another slice, which is new -/
theorem BkN.fresh {W W' : World} {p n : Nat} {f : Nat → Sta} {Ah A9 : Option Addr} (h : BkN W p n f Ah) (hb : Below W.heap.size W W') (hA : ∀ g o, A9 = some ⟨g, o, none⟩ → W.heap.size ≤ g) : BkN W' p n f A9 := by
  obtain ⟨A, c, h1, h2, h3, h4⟩ := h
  refine ⟨A, c, h1.below hb, h2.below hb, h3, fun g o e => ⟨(h4 g o e).1, fun h0 => ⟨Nat.lt_of_lt_of_le ((h4 g o e).2 h0).1 hb.size, fun gh oh e2 => ?_⟩⟩⟩
  have a1 := ((h4 g o e).2 h0).1
  have a2 := hA gh oh e2
  omega
set_option maxRecDepth 100000 in
set_option maxHeartbeats 4000000 in
theorem add_bookB (p n : Nat) (f : Nat → Sta) (i0 p0 a0 r0 t0 : Int) (w : World) (h : Bk w p n f) (hn : n < 8) (hv : chkO i0 p0 a0 r0 t0 = 0) (hj : plc f i0 n = -1) :
    Calls Tryz.prog 14 #[.pointer (some ⟨p, 0, none⟩), .agg #[.int .i64 i0, .int .i64 p0, .int .i64 a0, .int .i64 r0, .int .i64 t0]] w fun e w' => ∃ f', e = .returned (.int .i64 0) ∧ MovO (n + 1) (exO f n ⟨i0, p0, a0, r0, t0, 0, 0⟩) f' ∧ SrO f' (n + 1) ∧ BkB w' p (n + 1) f' w.heap.size ∧ RelP p w w' := by
  have K := bx_new w [.int .i64 i0, .int .i64 p0, .int .i64 a0, .int .i64 r0, .int .i64 t0] 23
  have B1 := below_new w (.cells #[.int .i64 i0, .int .i64 p0, .int .i64 a0, .int .i64 r0, .int .i64 t0] 23)
  have cC := fun W => ocheck_any i0 p0 a0 r0 t0 W 0 hv
  have h1 := h.below B1
  have hpw := h.lt
  have k0 := K.cell (i := 0) rfl
  have k1 := K.cell (i := 1) rfl
  have k2 := K.cell (i := 2) rfl
  have k3 := K.cell (i := 3) rfl
  have k4 := K.cell (i := 4) rfl
  clear hv h
  go_enter Tryz.func14, Tryz.ntmps14
  go_wp2_with (fail)
  with_reducible refine (cC _).mono ?_
  rintro e w1 ⟨rfl, NB⟩
  have B2 := below_step B1 NB B1.size
  have h2 := h1.below NB
  replace K := K.below NB
  have g0 := K.cell (i := 0) rfl
  have cP := place_any p n f i0 w1 h2 (by omega) (-1) hj
  clear k0 k1 k2 k3 k4 NB B1 cC h1 hj
  go_wp2_with (fail)
  with_reducible refine cP.mono ?_
  rintro e w2 ⟨rfl, NB⟩
  have B3 := below_step B2 NB B2.size
  have h3 := h2.below NB
  obtain ⟨A, c, KB, hOr, hAc, hAp⟩ := id h3
  have b0 := KB.cell (i := 0) rfl
  replace K := K.below NB
  have x0 := K.cell (i := 0) rfl
  have x1 := K.cell (i := 1) rfl
  have x2 := K.cell (i := 2) rfl
  have x3 := K.cell (i := 3) rfl
  have x4 := K.cell (i := 4) rfl
  have t2 : ((n : Int) == 8) = false := by simp; omega
  have hz3 := B3.size
  clear g0 NB cP h2 KB B2
  go_wp2
  obtain ⟨j0, hi0, hz0, hz1, hz2⟩ := info_parts infoSt
  have hone : ∀ u ∈ ([.int .i64 i0, .int .i64 p0, .int .i64 a0, .int .i64 r0, .int .i64 t0, .int .i64 0, .int .i64 0] : List Value), u.oneCell' = true := by simp [Value.oneCell']
  have hc3 : n + 1 ≤ maxLen := by unfold maxLen; omega
  have S1 : w2.drew.cell? ⟨w.heap.size, 0, none⟩ = some (.int .i64 i0) ∧ w2.drew.cell? ⟨w.heap.size, 1, none⟩ = some (.int .i64 p0) ∧ w2.drew.cell? ⟨w.heap.size, 2, none⟩ = some (.int .i64 a0) ∧ w2.drew.cell? ⟨w.heap.size, 3, none⟩ = some (.int .i64 r0) ∧ w2.drew.cell? ⟨w.heap.size, 4, none⟩ = some (.int .i64 t0) := ⟨x0, x1, x2, x3, x4⟩
  have mk9 : ∀ V : World, Below w2.heap.size w2 V → (V.cell? ⟨w.heap.size, 0, none⟩ = some (.int .i64 i0) ∧ V.cell? ⟨w.heap.size, 1, none⟩ = some (.int .i64 p0) ∧ V.cell? ⟨w.heap.size, 2, none⟩ = some (.int .i64 a0) ∧ V.cell? ⟨w.heap.size, 3, none⟩ = some (.int .i64 r0) ∧ V.cell? ⟨w.heap.size, 4, none⟩ = some (.int .i64 t0)) := fun V hb => ⟨cell_later hb x0, cell_later hb x1, cell_later hb x2, cell_later hb x3, cell_later hb x4⟩
  have hw : Below w2.heap.size w2 w2.drew := (Below.refl _ _).drew
  have hwa : Below w2.heap.size w2 (w2.drew.alloc (.cells #[.int .i64 i0, .int .i64 p0, .int .i64 a0, .int .i64 r0, .int .i64 t0, .int .i64 0, .int .i64 0] 50)) := hw.alloc hw.size _
  have hwb : Below w2.heap.size w2 (w2.alloc (.cells #[.int .i64 i0, .int .i64 p0, .int .i64 a0, .int .i64 r0, .int .i64 t0, .int .i64 0, .int .i64 0] 50)).drew := (below_new w2 _).drew
  have KA : Bx (w2.drew.alloc (.cells #[.int .i64 i0, .int .i64 p0, .int .i64 a0, .int .i64 r0, .int .i64 t0, .int .i64 0, .int .i64 0] 50)) w2.heap.size 50 [.int .i64 i0, .int .i64 p0, .int .i64 a0, .int .i64 r0, .int .i64 t0, .int .i64 0, .int .i64 0] := bx_at w2.drew [.int .i64 i0, .int .i64 p0, .int .i64 a0, .int .i64 r0, .int .i64 t0, .int .i64 0, .int .i64 0] 50 rfl
  have KB : Bx (w2.alloc (.cells #[.int .i64 i0, .int .i64 p0, .int .i64 a0, .int .i64 r0, .int .i64 t0, .int .i64 0, .int .i64 0] 50)).drew w2.heap.size 50 [.int .i64 i0, .int .i64 p0, .int .i64 a0, .int .i64 r0, .int .i64 t0, .int .i64 0, .int .i64 0] := bx_new w2 [.int .i64 i0, .int .i64 p0, .int .i64 a0, .int .i64 r0, .int .i64 t0, .int .i64 0, .int .i64 0] 50
  have cL : ∀ V, Below w2.heap.size w2 V → Calls Tryz.prog 16 #[.pointer (some ⟨p, 0, none⟩)] V (LsP n f V) := fun V hb => list_any p n f V (h3.below hb) (by omega)
  have HH3 := Lib.hid h3
  clear hOr hAc hAp h3 b0 t2
  go_region_held3 (fun X => X.cell? ⟨w.heap.size, 0, none⟩ = some (.int .i64 i0) ∧ X.cell? ⟨w.heap.size, 1, none⟩ = some (.int .i64 p0) ∧ X.cell? ⟨w.heap.size, 2, none⟩ = some (.int .i64 a0) ∧ X.cell? ⟨w.heap.size, 3, none⟩ = some (.int .i64 r0) ∧ X.cell? ⟨w.heap.size, 4, none⟩ = some (.int .i64 t0))
    ((first | exact S1 | assumption | exact mk9 _ hw6 | exact mk9 _ hw7 | exact mk9 _ hw | exact mk9 _ hwa | exact mk9 _ hwb | exact S9))
    (first
      | (go_at_call 16; (with_reducible refine (cL _ hw).mono ?_); rintro e w6 ⟨v, rfl, hown, hb⟩; obtain ⟨A6, c6, rfl, _, _⟩ := own_len hown; have hw6 := below_step hw hb hw.size; have K7 := bx_new w6 [.int .i64 i0, .int .i64 p0, .int .i64 a0, .int .i64 r0, .int .i64 t0, .int .i64 0, .int .i64 0] 50; have hw7 := hw6.alloc hw6.size (.cells #[.int .i64 i0, .int .i64 p0, .int .i64 a0, .int .i64 r0, .int .i64 t0, .int .i64 0, .int .i64 0] 50); have hown7 := own_mono (own_below hown (below_new w6 (.cells #[.int .i64 i0, .int .i64 p0, .int .i64 a0, .int .i64 r0, .int .i64 t0, .int .i64 0, .int .i64 0] 50))) (show w2.heap.size ≤ _ from Nat.le_refl _))
      | (go_at_call 16; (with_reducible refine (cL _ hwa).mono ?_); rintro e w6 ⟨v, rfl, hown, hb⟩; obtain ⟨A6, c6, rfl, _, _⟩ := own_len hown; have hw7 := below_step hwa hb hwa.size; have K7 := KA.below hb; have hown7 := own_mono hown (show w2.heap.size ≤ _ from hwa.size))
      | (go_at_call 16; (with_reducible refine (cL _ hwb).mono ?_); rintro e w6 ⟨v, rfl, hown, hb⟩; obtain ⟨A6, c6, rfl, _, _⟩ := own_len hown; have hw7 := below_step hwb hb hwb.size; have K7 := KB.below hb; have hown7 := own_mono hown (show w2.heap.size ≤ _ from hwb.size))
      | (refine step_append_lies _ (by rfl) (.tmp 24) (.tmp 27) 33 (by rfl) w2.heap.size 50 j0 (.agg #[.int .i64 0, .int .i64 0, .int .i64 0, .int .i64 0, .int .i64 0, .int .i64 0, .int .i64 0]) 7 56 Tryz.underlying33 hi0 hz0 hz1 hz2 (by rfl) (by decide) (.slice A6 n c6) n (stc7 f n) (by rfl) hown7 ⟨_, 0, none⟩ 1 1 [.int .i64 i0, .int .i64 p0, .int .i64 a0, .int .i64 r0, .int .i64 t0, .int .i64 0, .int .i64 0] (by rfl) (by rfl) (bx_add K7) hone (by decide) hc3 (by omega) hw7.size _ rfl ?_; intro g9 cap9 w9 hown9 hgrow hat hlt9; have hw9 := hw7.grown hgrow hw7.size (fun k hk => (hown7.lt k hk).1); have S9 := mk9 w9 hw9))
  all_goals
    have O9 : w9.ownsRow w2.heap.size 50 7 (.slice (some ⟨g9, 0, none⟩) (n + 1) cap9) (n + 1) (stc7 (exO f n ⟨i0, p0, a0, r0, t0, 0, 0⟩) (n + 1)) := by rw [exO_cells]; exact hown9
    obtain ⟨SB9, hg9⟩ := SB.of_own O9 (by omega)
    have h9 := HH3.out.below hw9
    have B9 := below_step B3 hw9 B3.size
    have cS := sort_any (n + 1) cap9 g9 (exO f n ⟨i0, p0, a0, r0, t0, 0, 0⟩) w9 SB9 (by omega)
    unfold fvE at cS
    have hpg : p < g9 := by omega
    have hwg : w.heap.size ≤ g9 := by omega
    clear O9 SB9 hown9 hgrow hat hlt9 S9 hw9 HH3 hown7 K7 hw7 cL KA KB hw hwa hwb mk9 S1 x0 x1 x2 x3 x4 K B3 hc3
    go_wp2_with (fail)
    with_reducible refine cS.mono ?_
    rintro e wS ⟨f', rfl, m1, m2, m3, m4⟩
    obtain ⟨A9, c9, K9, _⟩ := h9
    have KS := K9.under m4 hpg
    have b0 := KS.cell (i := 0) rfl
    have fr0 := KS.fr 0
    have BS : Below w.heap.size w wS := B9.trans (m4.mono hwg)
    have KZ := Lib.hid (KS.set 0 (.slice (some ⟨g9, 0, none⟩) (n + 1) cap9))
    have OZ := Lib.hid (ors_set (v := .slice (some ⟨g9, 0, none⟩) (n + 1) cap9) (p := p) m3 (by omega))
    have M1 := Lib.hid m1
    have M2 := Lib.hid m2
    clear m1 m2 m3 m4 KS K9 cS B9
    go_wp2
    go_ret
    exact ⟨f', rfl, M1.out, M2.out, ⟨some ⟨g9, 0, none⟩, cap9, KZ.out, OZ.out, fun e => (nomatch e), fun g o e => by simp only [Option.some.injEq, Addr.mk.injEq] at e; omega⟩, ⟨wS, BS, .inr ⟨_, rfl⟩⟩⟩
set_option maxRecDepth 100000 in
set_option maxHeartbeats 4000000 in
theorem cancel_atB (p n i : Nat) (f : Nat → Sta) (id : Int) (w : World) (h : Bk w p (n + 1) f) (hn : n ≤ 64) (hi : i < n + 1) (hp : plc f id (n + 1) = (i : Int)) :
    Calls Tryz.prog 13 #[.pointer (some ⟨p, 0, none⟩), .int .i64 id] w fun e w' => e = .returned (.int .i64 0) ∧ BkB w' p n (dlO f i) w.heap.size ∧ RelP p w w' := by
  have cP := place_any p (n + 1) f id _ h (by omega) (i : Int) hp
  have hi0 : ¬ (i : Int) < 0 := by omega
  have hwi : wrap64 ((i : Int) + 1) = (i : Int) + 1 := IntWalk.wrap64_in _ (by omega)
  have hpl := h.lt
  go_enter Tryz.func13, Tryz.ntmps13
  go_wp2_with (fail)
  with_reducible refine cP.mono ?_
  rintro e w1 ⟨rfl, NB⟩
  have h1 := h.below NB
  have cL := list_any p (n + 1) f w1 h1 (by omega)
  have HN := Lib.hid NB
  have HH := Lib.hid h1
  clear cP NB h1 h hp
  go_wp2_with (fail)
  refine Calls.mono cL ?_
  rintro e w2 ⟨v, rfl, hown, hb2⟩
  obtain ⟨A, c, rfl, hA, hg⟩ := own_len hown
  obtain ⟨g, rfl⟩ := hg (Nat.succ_pos _)
  have hgl := hown.lt g rfl
  have cD := delete_any w1.heap.size g n i c f w2 hown (by omega) hi hb2.size
  have h2 := HH.out.below hb2
  have HB2 := Lib.hid (And.intro hb2 (And.intro hgl.1 h2))
  clear cL hown hA hg hgl hb2 h2
  go_wp2_with (fail)
  refine Calls.mono cD ?_
  rintro e w3 ⟨rfl, hown3, hb3⟩
  obtain ⟨A0, c0, KB, -, -, -⟩ := HB2.out.2.2
  have hpw1 : p < w1.heap.size := Nat.lt_of_lt_of_le hpl HN.out.size
  have KB3 := KB.under hb3 hpw1
  have b0 := KB3.cell (i := 0) rfl
  have f0 := KB3.fr 0
  have hgp : w.heap.size ≤ g ∧ g ≠ p := by have := HB2.out.2.1; have := HN.out.size; omega
  have hB3 : Below w.heap.size w w3 := below_step HN.out (Below.trans HB2.out.1 hb3) HN.out.size
  have HO3 := Lib.hid (And.intro hown3 (And.intro KB3 hB3))
  have HGP := Lib.hid hgp
  clear cD hown3 hb3 KB KB3 hB3 hpw1 hgp
  go_wp2
  go_ret
  have hne : ∀ g' o', (some (⟨g, 0, none⟩ : Addr)) = some ⟨g', o', none⟩ → w.heap.size ≤ g' ∧ g' ≠ p := fun g' o' e => by
    have := Option.some.inj e
    simp only [Addr.mk.injEq] at this
    obtain ⟨rfl, -, -⟩ := this
    exact HGP.out
  refine ⟨rfl, ⟨some ⟨g, 0, none⟩, c, HO3.out.2.1.set 0 _, ?_, (fun h => by cases h), hne⟩, ⟨w3, HO3.out.2.2, .inr ⟨_, rfl⟩⟩⟩
  intro h0
  exact ors_set (SB.of_own HO3.out.1 h0).1 HGP.out.2 h0
end Go.Proofs.YthknjpmhomjobaaGreatDoor
