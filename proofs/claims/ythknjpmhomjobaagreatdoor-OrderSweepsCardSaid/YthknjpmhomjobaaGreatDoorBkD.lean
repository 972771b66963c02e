/- What a book of orders answers to an order that is put in. -/
import Derived.Test.YthknjpmhomjobaaGreatDoorBkC
import Derived.Deep.AppendLies
namespace Go.Proofs.YthknjpmhomjobaaGreatDoor
open Go.RowKit Go.Sort
set_option linter.unusedVariables false
set_option linter.unusedSimpArgs false

/-- nothing older has changed but the cell of the book -/
def RelP (p : Nat) (w w' : World) : Prop := ∃ w1, Below w.heap.size w w1 ∧ (w' = w1 ∨ ∃ v, w' = w1.setCell ⟨p, 0, none⟩ v)
theorem RelP.of {p : Nat} {w w' : World} (h : Below w.heap.size w w') : RelP p w w' := ⟨w', h, .inl rfl⟩
theorem RelP.size {p : Nat} {w w' : World} (h : RelP p w w') : w.heap.size ≤ w'.heap.size := by
  obtain ⟨w1, hb, rfl | ⟨v, rfl⟩⟩ := h
  · exact hb.size
  · simpa [World.setCell] using hb.size
theorem RelP.below {p B : Nat} {w0 w w' : World} (h : RelP p w w') (h0 : Below B w0 w) (hB : B ≤ w.heap.size) (hp : B ≤ p) : Below B w0 w' := by
  obtain ⟨w1, hb, rfl | ⟨v, rfl⟩⟩ := h
  · exact below_step h0 hb hB
  · exact (below_step h0 hb hB).setCell (p := ⟨p, 0, none⟩) hp v
theorem RelP.bx {p q : Nat} {w w' : World} {t : TypeId} {l : List Value} (h : RelP p w w') (K : Bx w q t l) (hq : q ≠ p) : Bx w' q t l := by
  obtain ⟨w1, hb, rfl | ⟨v, rfl⟩⟩ := h
  · exact K.below hb
  · exact (K.below hb).other (fun e => hq e.symm) 0 v
theorem RelP.cell {p q k : Nat} {w w' : World} {v : Value} (h : RelP p w w') (hc : w.cell? ⟨q, k, none⟩ = some v) (hq : q ≠ p) : w'.cell? ⟨q, k, none⟩ = some v := by
  obtain ⟨w1, hb, rfl | ⟨u, rfl⟩⟩ := h
  · exact cell_later hb hc
  · exact (World.cell?_setCell_other _ _ _ _ (by intro e; simp only [Addr.mk.injEq] at e; exact hq e.1.symm)).trans (cell_later hb hc)
theorem SB.of_own {w : World} {B n c g : Nat} {f : Nat → Sta} (h : w.ownsRow B 50 7 (.slice (some ⟨g, 0, none⟩) n c) n (stc7 f n)) (hn : 0 < n) : SB w g n f ∧ B ≤ g := by
  obtain ⟨b, o, e, hc⟩ := (ors_own h) hn
  obtain ⟨rfl, rfl⟩ : g = b ∧ 0 = o := by simpa using e
  obtain ⟨hl, ⟨hv, h0⟩ | ⟨g', cap, cur, hv, hg, hh, _⟩⟩ := h
  · omega
  · obtain ⟨rfl, _⟩ : g = g' ∧ c = cap := by simpa using hv
    refine ⟨⟨(Array.getElem?_eq_some_iff.1 hh).1, fun k => by simp [World.frozen?, hh], fun i hi => ?_⟩, hg⟩
    have := hc i hi
    rw [Nat.zero_add] at this
    exact this
/-- the orders with one more behind them -/
def exO (f : Nat → Sta) (n : Nat) (s : Sta) (i : Nat) : Sta := if i < n then f i else s
theorem exO_cells (f : Nat → Sta) (n : Nat) (s : Sta) : stc7 (exO f n s) (n + 1) = stc7 f n ++ s.cs := by
  show stc7 (exO f n s) n ++ (exO f n s n).cs = _
  have e1 : exO f n s n = s := by simp [exO]
  have e2 : ∀ m, m ≤ n → stc7 (exO f n s) m = stc7 f m := by
    intro m
    induction m with
    | zero => intro _; rfl
    | succ m ih =>
      intro hm
      show stc7 (exO f n s) m ++ (exO f n s m).cs = stc7 f m ++ (f m).cs
      rw [ih (by omega), show exO f n s m = f m by simp [exO]; omega]
  rw [e1, e2 n (Nat.le_refl _)]
theorem ors_set {W : World} {g n p : Nat} {f : Nat → Sta} {v : Value} (h : SB W g n f) (hne : g ≠ p) : Ors (W.setCell ⟨p, 0, none⟩ v) (some ⟨g, 0, none⟩) n f := fun h0 => by
  obtain ⟨b, o, e, hc⟩ := h.ors h0
  obtain ⟨rfl, rfl⟩ : g = b ∧ 0 = o := by simpa using e
  refine ⟨g, 0, rfl, fun i hi => ?_⟩
  obtain ⟨h0, h1, h2, h3, h4, h5, h6⟩ := hc i hi
  have nd : ∀ q : Nat, (W.setCell ⟨p, 0, none⟩ v).cell? ⟨g, q, none⟩ = W.cell? ⟨g, q, none⟩ := fun q => World.cell?_setCell_other _ _ _ _ (by intro e; simp only [Addr.mk.injEq] at e; omega)
  exact ⟨(nd _).trans h0, (nd _).trans h1, (nd _).trans h2, (nd _).trans h3, (nd _).trans h4, (nd _).trans h5, (nd _).trans h6⟩
/-- what Add leaves -/
def AdP (p n : Nat) (f : Nat → Sta) (s : Sta) (w : World) (e : Ending) (w' : World) : Prop := ∃ f', e = .returned (.int .i64 0) ∧ MovO (n + 1) (exO f n s) f' ∧ SrO f' (n + 1) ∧ Bk w' p (n + 1) f' ∧ RelP p w w'
set_option maxRecDepth 100000 in
set_option maxHeartbeats 4000000 in
theorem add_no (p n : Nat) (f : Nat → Sta) (i0 p0 a0 r0 t0 : Int) (w : World) (h : Bk w p n f) (hn : n ≤ 8) (hv : chkO i0 p0 a0 r0 t0 ≠ 0) :
    Calls Tryz.prog 14 #[.pointer (some ⟨p, 0, none⟩), .agg #[.int .i64 i0, .int .i64 p0, .int .i64 a0, .int .i64 r0, .int .i64 t0]] w fun e w' => e = .returned (.int .i64 (chkO i0 p0 a0 r0 t0)) ∧ Below w.heap.size w w' := by
  have K := bx_new w [.int .i64 i0, .int .i64 p0, .int .i64 a0, .int .i64 r0, .int .i64 t0] 23
  have B1 := below_new w (.cells #[.int .i64 i0, .int .i64 p0, .int .i64 a0, .int .i64 r0, .int .i64 t0] 23)
  have cC := fun W => ocheck_any i0 p0 a0 r0 t0 W (chkO i0 p0 a0 r0 t0) rfl
  have k0 := K.cell (i := 0) rfl
  have k1 := K.cell (i := 1) rfl
  have k2 := K.cell (i := 2) rfl
  have k3 := K.cell (i := 3) rfl
  have k4 := K.cell (i := 4) rfl
  generalize chkO i0 p0 a0 r0 t0 = v at *
  have t1 : (v != 0) = true := by simp [hv]
  clear hv K h
  go_enter Tryz.func14, Tryz.ntmps14
  go_wp2_with (fail)
  with_reducible refine (cC _).mono ?_
  rintro e w1 ⟨rfl, NB⟩
  have B2 := below_step B1 NB B1.size
  clear k0 k1 k2 k3 k4 NB B1 cC
  go_wp2
  go_ret
  exact ⟨rfl, B2⟩
set_option maxRecDepth 100000 in
set_option maxHeartbeats 4000000 in
theorem add_twice (p n : Nat) (f : Nat → Sta) (i0 p0 a0 r0 t0 : Int) (w : World) (h : Bk w p n f) (hn : n ≤ 8) (hv : chkO i0 p0 a0 r0 t0 = 0) (j : Int) (hj : plc f i0 n = j) (h8 : 0 ≤ j ∨ (j < 0 ∧ n = 8)) (r : Int) (hr : (if 0 ≤ j then (4 : Int) else 2) = r) :
    Calls Tryz.prog 14 #[.pointer (some ⟨p, 0, none⟩), .agg #[.int .i64 i0, .int .i64 p0, .int .i64 a0, .int .i64 r0, .int .i64 t0]] w fun e w' => e = .returned (.int .i64 r) ∧ Below w.heap.size w w' := by
  have K := bx_new w [.int .i64 i0, .int .i64 p0, .int .i64 a0, .int .i64 r0, .int .i64 t0] 23
  have B1 := below_new w (.cells #[.int .i64 i0, .int .i64 p0, .int .i64 a0, .int .i64 r0, .int .i64 t0] 23)
  have cC := fun W => ocheck_any i0 p0 a0 r0 t0 W 0 hv
  have h1 := h.below B1
  have k0 := K.cell (i := 0) rfl
  have k1 := K.cell (i := 1) rfl
  have k2 := K.cell (i := 2) rfl
  have k3 := K.cell (i := 3) rfl
  have k4 := K.cell (i := 4) rfl
  clear hv h
  go_enter Tryz.func14, Tryz.ntmps14
  go_wp2_with (fail)
  with_reducible refine (cC _).mono ?_
  rintro e w1 ⟨rfl, NB⟩
  have B2 := below_step B1 NB B1.size
  have h2 := h1.below NB
  have g0 := (K.below NB).cell (i := 0) rfl
  have cP := place_any p n f i0 w1 h2 (by omega) j hj
  clear k0 k1 k2 k3 k4 NB B1 cC h1 K hj
  go_wp2_with (fail)
  with_reducible refine cP.mono ?_
  rintro e w2 ⟨rfl, NB⟩
  have B3 := below_step B2 NB B2.size
  obtain ⟨A, c, KB, _⟩ := h2.below NB
  have b0 := KB.cell (i := 0) rfl
  clear g0 NB cP h2 KB
  rcases h8 with h8 | ⟨h8, hn8⟩
  · have HR : Hid (r = 4) := Lib.hid (hr.symm.trans (if_pos h8))
    clear hr
    go_wp2
    go_ret
    exact ⟨ret_i HR.out.symm, B3⟩
  · have HR : Hid (r = 2) := Lib.hid (hr.symm.trans (if_neg (by omega)))
    clear hr
    have t2 : ((n : Int) == 8) = true := by simp; omega
    clear hn8
    go_wp2
    go_ret
    exact ⟨ret_i HR.out.symm, B3⟩
set_option maxRecDepth 100000 in
set_option maxHeartbeats 8000000 in
theorem add_book (p n : Nat) (f : Nat → Sta) (i0 p0 a0 r0 t0 : Int) (w : World) (h : Bk w p n f) (hn : n < 8) (hv : chkO i0 p0 a0 r0 t0 = 0) (hj : plc f i0 n = -1) :
    Calls Tryz.prog 14 #[.pointer (some ⟨p, 0, none⟩), .agg #[.int .i64 i0, .int .i64 p0, .int .i64 a0, .int .i64 r0, .int .i64 t0]] w (AdP p n f ⟨i0, p0, a0, r0, t0, 0, 0⟩ w) := by
  have K := bx_new w [.int .i64 i0, .int .i64 p0, .int .i64 a0, .int .i64 r0, .int .i64 t0] 23
  have B1 := below_new w (.cells #[.int .i64 i0, .int .i64 p0, .int .i64 a0, .int .i64 r0, .int .i64 t0] 23)
  have cC := fun W => ocheck_any i0 p0 a0 r0 t0 W 0 hv
  have h1 := h.below B1
  have hpw := h.lt
  have k0 := K.cell (i := 0) rfl
  have k1 := K.cell (i := 1) rfl
  have k2 := K.cell (i := 2) rfl
  have k3 := K.cell (i := 3) rfl
  have k4 := K.cell (i := 4) rfl
  clear hv h
  go_enter Tryz.func14, Tryz.ntmps14
  go_wp2_with (fail)
  with_reducible refine (cC _).mono ?_
  rintro e w1 ⟨rfl, NB⟩
  have B2 := below_step B1 NB B1.size
  have h2 := h1.below NB
  replace K := K.below NB
  have g0 := K.cell (i := 0) rfl
  have cP := place_any p n f i0 w1 h2 (by omega) (-1) hj
  clear k0 k1 k2 k3 k4 NB B1 cC h1 hj
  go_wp2_with (fail)
  with_reducible refine cP.mono ?_
  rintro e w2 ⟨rfl, NB⟩
  have B3 := below_step B2 NB B2.size
  have h3 := h2.below NB
  obtain ⟨A, c, KB, hOr, hAc, hAp⟩ := id h3
  have b0 := KB.cell (i := 0) rfl
  replace K := K.below NB
  have x0 := K.cell (i := 0) rfl
  have x1 := K.cell (i := 1) rfl
  have x2 := K.cell (i := 2) rfl
  have x3 := K.cell (i := 3) rfl
  have x4 := K.cell (i := 4) rfl
  have t2 : ((n : Int) == 8) = false := by simp; omega
  have hz3 := B3.size
  clear g0 NB cP h2 KB B2
  go_wp2
  obtain ⟨j0, hi0, hz0, hz1, hz2⟩ := info_parts infoSt
  have hone : ∀ u ∈ ([.int .i64 i0, .int .i64 p0, .int .i64 a0, .int .i64 r0, .int .i64 t0, .int .i64 0, .int .i64 0] : List Value), u.oneCell' = true := by simp [Value.oneCell']
  have hc3 : n + 1 ≤ maxLen := by unfold maxLen; omega
  have S1 : w2.drew.cell? ⟨w.heap.size, 0, none⟩ = some (.int .i64 i0) ∧ w2.drew.cell? ⟨w.heap.size, 1, none⟩ = some (.int .i64 p0) ∧ w2.drew.cell? ⟨w.heap.size, 2, none⟩ = some (.int .i64 a0) ∧ w2.drew.cell? ⟨w.heap.size, 3, none⟩ = some (.int .i64 r0) ∧ w2.drew.cell? ⟨w.heap.size, 4, none⟩ = some (.int .i64 t0) := ⟨x0, x1, x2, x3, x4⟩
  have mk9 : ∀ V : World, Below w2.heap.size w2 V → (V.cell? ⟨w.heap.size, 0, none⟩ = some (.int .i64 i0) ∧ V.cell? ⟨w.heap.size, 1, none⟩ = some (.int .i64 p0) ∧ V.cell? ⟨w.heap.size, 2, none⟩ = some (.int .i64 a0) ∧ V.cell? ⟨w.heap.size, 3, none⟩ = some (.int .i64 r0) ∧ V.cell? ⟨w.heap.size, 4, none⟩ = some (.int .i64 t0)) := fun V hb => ⟨cell_later hb x0, cell_later hb x1, cell_later hb x2, cell_later hb x3, cell_later hb x4⟩
  have hw : Below w2.heap.size w2 w2.drew := (Below.refl _ _).drew
  have hwa : Below w2.heap.size w2 (w2.drew.alloc (.cells #[.int .i64 i0, .int .i64 p0, .int .i64 a0, .int .i64 r0, .int .i64 t0, .int .i64 0, .int .i64 0] 50)) := hw.alloc hw.size _
  have hwb : Below w2.heap.size w2 (w2.alloc (.cells #[.int .i64 i0, .int .i64 p0, .int .i64 a0, .int .i64 r0, .int .i64 t0, .int .i64 0, .int .i64 0] 50)).drew := (below_new w2 _).drew
  have KA : Bx (w2.drew.alloc (.cells #[.int .i64 i0, .int .i64 p0, .int .i64 a0, .int .i64 r0, .int .i64 t0, .int .i64 0, .int .i64 0] 50)) w2.heap.size 50 [.int .i64 i0, .int .i64 p0, .int .i64 a0, .int .i64 r0, .int .i64 t0, .int .i64 0, .int .i64 0] := bx_at w2.drew [.int .i64 i0, .int .i64 p0, .int .i64 a0, .int .i64 r0, .int .i64 t0, .int .i64 0, .int .i64 0] 50 rfl
  have KB : Bx (w2.alloc (.cells #[.int .i64 i0, .int .i64 p0, .int .i64 a0, .int .i64 r0, .int .i64 t0, .int .i64 0, .int .i64 0] 50)).drew w2.heap.size 50 [.int .i64 i0, .int .i64 p0, .int .i64 a0, .int .i64 r0, .int .i64 t0, .int .i64 0, .int .i64 0] := bx_new w2 [.int .i64 i0, .int .i64 p0, .int .i64 a0, .int .i64 r0, .int .i64 t0, .int .i64 0, .int .i64 0] 50
  have cL : ∀ V, Below w2.heap.size w2 V → Calls Tryz.prog 16 #[.pointer (some ⟨p, 0, none⟩)] V (LsP n f V) := fun V hb => list_any p n f V (h3.below hb) (by omega)
  have HH3 := Lib.hid h3
  clear hOr hAc hAp h3 b0 t2
  go_region_held3 (fun X => X.cell? ⟨w.heap.size, 0, none⟩ = some (.int .i64 i0) ∧ X.cell? ⟨w.heap.size, 1, none⟩ = some (.int .i64 p0) ∧ X.cell? ⟨w.heap.size, 2, none⟩ = some (.int .i64 a0) ∧ X.cell? ⟨w.heap.size, 3, none⟩ = some (.int .i64 r0) ∧ X.cell? ⟨w.heap.size, 4, none⟩ = some (.int .i64 t0))
    ((first | exact S1 | assumption | exact mk9 _ hw6 | exact mk9 _ hw7 | exact mk9 _ hw | exact mk9 _ hwa | exact mk9 _ hwb | exact S9))
    (first
      | (go_at_call 16; (with_reducible refine (cL _ hw).mono ?_); rintro e w6 ⟨v, rfl, hown, hb⟩; obtain ⟨A6, c6, rfl, _, _⟩ := own_len hown; have hw6 := below_step hw hb hw.size; have K7 := bx_new w6 [.int .i64 i0, .int .i64 p0, .int .i64 a0, .int .i64 r0, .int .i64 t0, .int .i64 0, .int .i64 0] 50; have hw7 := hw6.alloc hw6.size (.cells #[.int .i64 i0, .int .i64 p0, .int .i64 a0, .int .i64 r0, .int .i64 t0, .int .i64 0, .int .i64 0] 50); have hown7 := own_mono (own_below hown (below_new w6 (.cells #[.int .i64 i0, .int .i64 p0, .int .i64 a0, .int .i64 r0, .int .i64 t0, .int .i64 0, .int .i64 0] 50))) (show w2.heap.size ≤ _ from Nat.le_refl _))
      | (go_at_call 16; (with_reducible refine (cL _ hwa).mono ?_); rintro e w6 ⟨v, rfl, hown, hb⟩; obtain ⟨A6, c6, rfl, _, _⟩ := own_len hown; have hw7 := below_step hwa hb hwa.size; have K7 := KA.below hb; have hown7 := own_mono hown (show w2.heap.size ≤ _ from hwa.size))
      | (go_at_call 16; (with_reducible refine (cL _ hwb).mono ?_); rintro e w6 ⟨v, rfl, hown, hb⟩; obtain ⟨A6, c6, rfl, _, _⟩ := own_len hown; have hw7 := below_step hwb hb hwb.size; have K7 := KB.below hb; have hown7 := own_mono hown (show w2.heap.size ≤ _ from hwb.size))
      | (refine step_append_lies _ (by rfl) (.tmp 24) (.tmp 27) 33 (by rfl) w2.heap.size 50 j0 (.agg #[.int .i64 0, .int .i64 0, .int .i64 0, .int .i64 0, .int .i64 0, .int .i64 0, .int .i64 0]) 7 56 Tryz.underlying33 hi0 hz0 hz1 hz2 (by rfl) (by decide) (.slice A6 n c6) n (stc7 f n) (by rfl) hown7 ⟨_, 0, none⟩ 1 1 [.int .i64 i0, .int .i64 p0, .int .i64 a0, .int .i64 r0, .int .i64 t0, .int .i64 0, .int .i64 0] (by rfl) (by rfl) (bx_add K7) hone (by decide) hc3 (by omega) hw7.size _ rfl ?_; intro g9 cap9 w9 hown9 hgrow hat hlt9; have hw9 := hw7.grown hgrow hw7.size (fun k hk => (hown7.lt k hk).1); have S9 := mk9 w9 hw9))
  all_goals
    have O9 : w9.ownsRow w2.heap.size 50 7 (.slice (some ⟨g9, 0, none⟩) (n + 1) cap9) (n + 1) (stc7 (exO f n ⟨i0, p0, a0, r0, t0, 0, 0⟩) (n + 1)) := by rw [exO_cells]; exact hown9
    obtain ⟨SB9, hg9⟩ := SB.of_own O9 (by omega)
    have h9 := HH3.out.below hw9
    have B9 := below_step B3 hw9 B3.size
    have cS := sort_any (n + 1) cap9 g9 (exO f n ⟨i0, p0, a0, r0, t0, 0, 0⟩) w9 SB9 (by omega)
    unfold fvE at cS
    have hpg : p < g9 := by omega
    have hwg : w.heap.size ≤ g9 := by omega
    clear O9 SB9 hown9 hgrow hat hlt9 S9 hw9 HH3 hown7 K7 hw7 cL KA KB hw hwa hwb mk9 S1 x0 x1 x2 x3 x4 K B3 hc3
    go_wp2_with (fail)
    with_reducible refine cS.mono ?_
    rintro e wS ⟨f', rfl, m1, m2, m3, m4⟩
    obtain ⟨A9, c9, K9, _⟩ := h9
    have KS := K9.under m4 hpg
    have b0 := KS.cell (i := 0) rfl
    have fr0 := KS.fr 0
    have BS : Below w.heap.size w wS := B9.trans (m4.mono hwg)
    have KZ := Lib.hid (KS.set 0 (.slice (some ⟨g9, 0, none⟩) (n + 1) cap9))
    have OZ := Lib.hid (ors_set (v := .slice (some ⟨g9, 0, none⟩) (n + 1) cap9) (p := p) m3 (by omega))
    have M1 := Lib.hid m1
    have M2 := Lib.hid m2
    clear m1 m2 m3 m4 KS K9 cS B9
    go_wp2
    go_ret
    exact ⟨f', rfl, M1.out, M2.out, ⟨some ⟨g9, 0, none⟩, cap9, KZ.out, OZ.out, fun e => (nomatch e), fun g o e => by simp only [Option.some.injEq, Addr.mk.injEq] at e; omega⟩, ⟨wS, BS, .inr ⟨_, rfl⟩⟩⟩
end Go.Proofs.YthknjpmhomjobaaGreatDoor
