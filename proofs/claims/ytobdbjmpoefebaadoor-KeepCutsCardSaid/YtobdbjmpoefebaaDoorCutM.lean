/- keep.Lines: how many lines. -/
import Derived.Test.YtobdbjmpoefebaaDoorCutL
import Derived.Test.YtobdbjmpoefebaaDoorTabQ
import Derived.Laws.OwnMore
import Derived.Deep.AppendLies
import Derived.Deep.RegionHeld3
namespace Go.Proofs.YtobdbjmpoefebaaDoor
open Go.RowKit Go.Sort
set_option linter.unusedVariables false
set_option linter.unusedSimpArgs false
theorem infoS : (Tryd.prog.info? 9).map (fun i => (i.zero, i.size, i.bytes)) = some (some (.string ⟨#[]⟩), 1, 16) := by kernel_rfl
theorem chob_of {T : TB} (hv : T.chk = 0) : ChoB T (allW T.S T.L T.nS).1 (allW T.S T.L T.nS).2.1 := by
  rcases allW_is T.S T.L T.nS with e | ⟨i, j, hi, hj, e⟩
  · rw [e]; exact .inl ⟨rfl, rfl⟩
  · rw [e]
    have := ((tok_of hv).s i hi).2.2.2.2.1 j hj
    exact .inr ⟨i, j, rfl, rfl, hi, hj, by omega, by omega⟩
theorem lines_bad (T : TB) (w : World) (h : Tm w T) (SM : SmP T) (hv : T.chk ≠ 0) :
    Calls Tryd.prog 14 #[T.v] w fun e w' => e = .returned (.slice none 0 0) ∧ Below w.heap.size w w' := by
  have B0 := below_new w (.cells #[.slice T.AS T.nS T.cS, .slice T.AC T.nC T.cC, .slice T.AK T.nK T.cK, .int .i64 T.L, .int .i64 T.W] 26)
  have kw := worst_bad _ T (h.below B0) SM.sz hv
  have tv : (T.chk != 0) = true := by simpa using hv
  clear hv
  show Calls Tryd.prog 14 #[.agg #[.slice T.AS T.nS T.cS, .slice T.AC T.nC T.cC, .slice T.AK T.nK T.cK, .int .i64 T.L, .int .i64 T.W]] w _
  go_enter Tryd.func14, Tryd.ntmps14
  go_wp2_with (fail)
  refine kw.mono ?_
  rintro e w2 ⟨rfl, hb⟩
  go_wp2
  go_ret
  exact ⟨rfl, (below_step B0 hb B0.size).alloc (below_step B0 hb B0.size).size _⟩
set_option maxHeartbeats 4000000 in
set_option maxRecDepth 100000 in
theorem lines_cnt (T : TB) (w : World) (h : Tm w T) (D : Tab w) (SM : SmP T) (hv : T.chk = 0) :
    Calls Tryd.prog 14 #[T.v] w fun e w' => ∃ A c, e = .returned (.slice A (T.nC + 2) c) ∧ Below w.heap.size w w' := by
  have OK := tok_of hv
  have HV := Lib.hid hv
  have cb := chob_of hv
  have F0 := five_new w (.slice T.AS T.nS T.cS) (.slice T.AC T.nC T.cC) (.slice T.AK T.nK T.cK) (.int .i64 T.L) (.int .i64 T.W) 26
  have B0 := below_new w (.cells #[.slice T.AS T.nS T.cS, .slice T.AC T.nC T.cC, .slice T.AK T.nK T.cK, .int .i64 T.L, .int .i64 T.W] 26)
  have kw := worst_ok _ T (h.below B0) SM.sz hv
  clear hv
  show Calls Tryd.prog 14 #[.agg #[.slice T.AS T.nS T.cS, .slice T.AC T.nC T.cC, .slice T.AK T.nK T.cK, .int .i64 T.L, .int .i64 T.W]] w _
  go_enter Tryd.func14, Tryd.ntmps14
  go_wp2_with (fail)
  refine kw.mono ?_
  rintro e w2 ⟨v, rfl, ho, hb⟩
  obtain ⟨A, cA, rfl⟩ := own_slice ho
  have F2 := F0.below hb
  have B2 := below_step B0 hb B0.size
  clear F0 B0 hb kw
  have Nn := below_new w2 (.cells #[.int .i64 (allW T.S T.L T.nS).1, .int .i64 (allW T.S T.L T.nS).2.1, .slice A T.nC cA, .int .i64 (keptW T)] 39)
  have G3 := quad_new w2 (.int .i64 (allW T.S T.L T.nS).1) (.int .i64 (allW T.S T.L T.nS).2.1) (.slice A T.nC cA) (.int .i64 (keptW T)) 39
  have ho3 := own_below ho Nn
  have F3 := F2.below Nn
  have B3 := below_step B2 Nn B2.size
  have M3 := h.below B3
  have D3 := D.below B3
  have kt := fun W (q : Tm W T) (D : Tab W) => taxline_any T _ _ (keptW T) A T.nC cA W q D cb (by have := OK.l0; have := OK.l1; omega) SM.s SM.sb
  have z0 : (w2.alloc (.cells #[.int .i64 (allW T.S T.L T.nS).1, .int .i64 (allW T.S T.L T.nS).2.1, .slice A T.nC cA, .int .i64 (keptW T)] 39)).cell? ⟨w.heap.size, 0, none⟩ = some (.slice T.AS T.nS T.cS) := F3.cell (q := 0) (by omega)
  have z1 : (w2.alloc (.cells #[.int .i64 (allW T.S T.L T.nS).1, .int .i64 (allW T.S T.L T.nS).2.1, .slice A T.nC cA, .int .i64 (keptW T)] 39)).cell? ⟨w.heap.size, 1, none⟩ = some (.slice T.AC T.nC T.cC) := F3.cell (q := 1) (by omega)
  have z2 : (w2.alloc (.cells #[.int .i64 (allW T.S T.L T.nS).1, .int .i64 (allW T.S T.L T.nS).2.1, .slice A T.nC cA, .int .i64 (keptW T)] 39)).cell? ⟨w.heap.size, 2, none⟩ = some (.slice T.AK T.nK T.cK) := F3.cell (q := 2) (by omega)
  have z3 : (w2.alloc (.cells #[.int .i64 (allW T.S T.L T.nS).1, .int .i64 (allW T.S T.L T.nS).2.1, .slice A T.nC cA, .int .i64 (keptW T)] 39)).cell? ⟨w.heap.size, 3, none⟩ = some (.int .i64 T.L) := F3.cell (q := 3) (by omega)
  have z4 : (w2.alloc (.cells #[.int .i64 (allW T.S T.L T.nS).1, .int .i64 (allW T.S T.L T.nS).2.1, .slice A T.nC cA, .int .i64 (keptW T)] 39)).cell? ⟨w.heap.size, 4, none⟩ = some (.int .i64 T.W) := F3.cell (q := 4) (by omega)
  clear Nn ho B2 F2 cb
  generalize (allW T.S T.L T.nS).1 = a at *
  generalize (allW T.S T.L T.nS).2.1 = b at *
  go_wp2_with (fail)
  generalize w2.alloc (.cells #[.int .i64 a, .int .i64 b, .slice A T.nC cA, .int .i64 (keptW T)] 39) = w3 at *
  refine (kt _ M3 D3).mono ?_
  rintro e w4 ⟨s, rfl, hb⟩
  have F4 := F3.below hb
  have G4 := G3.below hb
  have ho4 := own_below ho3 hb
  have M4 := M3.below hb
  have D4 := D3.below hb
  have B4 := below_step B3 hb B3.size
  have hl2 : w2.heap.size < w4.heap.size := G4.lt
  clear F3 G3 ho3 M3 D3 B3 hb z0 z1 z2 z3 z4 kt D
  have R5 := World.ownsRow_lit (base := w4.heap.size) (e := 9) (size := 1) w4 #[.string s] 1 (Nat.le_refl _) (by unfold maxLen; omega) rfl
  have N5 := below_new w4 (.cells #[.string s] 9)
  have g2 : (w4.alloc (.cells #[.string s] 9)).cell? ⟨w2.heap.size, 2, none⟩ = some (.slice A T.nC cA) := (G4.below N5).cell (q := 2) (by omega)
  go_wp2
  generalize w4.alloc (.cells #[.string s] 9) = w5 at *
  have ri := ro_ri ho4
  have c6 := OK.c6
  have OC := Lib.hid OK.c
  have hk := kept_bd HV.out
  obtain ⟨i0, hi0, hz0, hz1, hz2⟩ := info_parts infoS
  have Hi := Lib.hid hi0
  have Hz := Lib.hid hz0
  clear hi0 hz0 ho4 h g2
  have hw4 := B4.size
  go_loopw [5, 23] (fun v k W => ∃ (i g c : Nat) (xs : List Value), i ≤ T.nC ∧ v = .slice (some ⟨g, 0, none⟩) (1 + i) c ∧ k = .int .i64 i ∧ W.ownsRow w4.heap.size 9 1 (.slice (some ⟨g, 0, none⟩) (1 + i) c) (1 + i) xs ∧ Below w4.heap.size w4 W) (fun _ k _ => T.nC - (intOf k).toNat)
  case atStart => exact ⟨0, _, _, _, Nat.zero_le _, rfl, rfl, R5, N5⟩
  case round =>
    obtain ⟨i, g, c, xs, hi, rfl, rfl, hown, hb⟩ := hrel
    clear R5 N5
    by_cases hlt : i < T.nC
    · obtain ⟨rb, ro, rfl, hr⟩ := ri (by omega)
      have r0 : wr.cell? ⟨rb, ro + i, none⟩ = some (.int .i64 (steep (T.C i).b.R (T.C i).b.n : Nat)) := cell_later hb (hr i hlt)
      obtain ⟨cb, co, hCA, hcc⟩ := M4.2.1 (by omega)
      obtain ⟨q0, q1, q2, q3, q4, q5, qb⟩ := hcc i hlt
      have okc := OC.out i hlt
      have hst := steep_lt (T.C i).b.R (n := (T.C i).b.n) (by have := okc.1; omega)
      obtain ⟨bb, bo, hBA, hbc⟩ := qb (by omega)
      obtain ⟨_, br, _⟩ := hbc _ hst
      have hrt := okc.2.2.2.2.1 _ hst
      have hbn := okc.2.1
      have z1 : wr.cell? ⟨w.heap.size, 1, none⟩ = some (.slice T.AC T.nC T.cC) := (F4.below hb).cell (q := 1) (by omega)
      have q0 := cell_later hb q0
      have q1 := cell_later hb q1
      have q2 := cell_later hb q2
      have q3 := cell_later hb q3
      have q4 := cell_later hb q4
      have q5 := cell_later hb q5
      have hbb := World.block_lt_of_cell? _ _ br
      have br := cell_later hb br
      have hN := con_small HV.out i hlt
      rw [hCA] at z1
      rw [hBA] at q2
      clear hCA hBA hbc qb hcc hr okc
      have i1 : (i : Int) < (T.nC : Int) := by omega
      generalize steep (T.C i).b.R (T.C i).b.n = st at *
      have s1 : (st : Int) < ((T.C i).b.n : Int) := by omega
      generalize (T.C i).b.R st = rt at *
      generalize (T.C i).b.n = bn at *
      generalize (T.C i).b.c = bc at *
      generalize (T.C i).N = nm at *
      generalize (T.C i).B = cB at *
      generalize (T.C i).P = cP at *
      generalize (T.C i).Y = cY at *
      generalize (T.C i).W = cW at *
      have Nw := below_new wr (.cells #[.string nm, .int .i64 cB, .slice (some ⟨bb, bo, none⟩) bn bc, .int .i64 cP, .int .i64 cY, .int .i64 cW] 80)
      have p0 : (wr.alloc (.cells #[.string nm, .int .i64 cB, .slice (some ⟨bb, bo, none⟩) bn bc, .int .i64 cP, .int .i64 cY, .int .i64 cW] 80)).cell? ⟨wr.heap.size, 0, none⟩ = some (.string nm) := by simp [go_sem]
      have p2 : (wr.alloc (.cells #[.string nm, .int .i64 cB, .slice (some ⟨bb, bo, none⟩) bn bc, .int .i64 cP, .int .i64 cY, .int .i64 cW] 80)).cell? ⟨wr.heap.size, 2, none⟩ = some (.slice (some ⟨bb, bo, none⟩) bn bc) := by simp [go_sem]
      have hg1 := (hown.lt g rfl).1
      have hg2 := (hown.lt g rfl).2
      have ownc := own_below hown Nw
      have brc := cell_later Nw br
      have Bc := below_step hb Nw hb.size
      have Dc := D4.below Bc
      go_wp2
      generalize wr.alloc (.cells #[.string nm, .int .i64 cB, .slice (some ⟨bb, bo, none⟩) bn bc, .int .i64 cP, .int .i64 cY, .int .i64 cW] 80) = wc at *
      clear Nw br hown q0 q1 q2 q3 q4 q5 r0 z1
      have step : ∀ W W', Below W.heap.size W W' → (W.cell? ⟨wr.heap.size, 0, none⟩ = some (.string nm) ∧ W.cell? ⟨wr.heap.size, 2, none⟩ = some (.slice (some ⟨bb, bo, none⟩) bn bc) ∧ W.cell? ⟨bb, bo + st * 3 + 1, none⟩ = some (.int .i64 rt) ∧ Tab W) → (W'.cell? ⟨wr.heap.size, 0, none⟩ = some (.string nm) ∧ W'.cell? ⟨wr.heap.size, 2, none⟩ = some (.slice (some ⟨bb, bo, none⟩) bn bc) ∧ W'.cell? ⟨bb, bo + st * 3 + 1, none⟩ = some (.int .i64 rt) ∧ Tab W') := fun W W' hb h => ⟨cell_later hb h.1, cell_later hb h.2.1, cell_later hb h.2.2.1, h.2.2.2.below hb⟩
      have bl := fun W W' (h : Below wc.heap.size wc W) (hb : Below W.heap.size W W') => below_step h hb h.size
      have S1 := step wc (wc.drewN 1) (below_drewN (Below.refl wc.heap.size wc) 1) ⟨p0, p2, brc, Dc⟩
      have it1 := fun W (S : W.cell? ⟨wr.heap.size, 0, none⟩ = some (.string nm) ∧ W.cell? ⟨wr.heap.size, 2, none⟩ = some (.slice (some ⟨bb, bo, none⟩) bn bc) ∧ W.cell? ⟨bb, bo + st * 3 + 1, none⟩ = some (.int .i64 rt) ∧ Tab W) => itoa_s st (by omega) (by omega) W S.2.2.2
      have it2 := fun W (S : W.cell? ⟨wr.heap.size, 0, none⟩ = some (.string nm) ∧ W.cell? ⟨wr.heap.size, 2, none⟩ = some (.slice (some ⟨bb, bo, none⟩) bn bc) ∧ W.cell? ⟨bb, bo + st * 3 + 1, none⟩ = some (.int .i64 rt) ∧ Tab W) => itoa_s rt (by omega) (by omega) W S.2.2.2
      have y1 := itoa_z st (by omega) (by omega)
      have y2 := itoa_z rt (by omega) (by omega)
      generalize (ByteArray.mk (Lib.itoa st).toArray) = t1 at *
      generalize (ByteArray.mk (Lib.itoa rt).toArray) = t2 at *
      have l4 := line_4 nm ⟨#[98, 97, 110, 100]⟩ t1 t2 (by omega) (by decide) y1 y2
      have hO := fun W (h : Below wc.heap.size wc W) => own_below ownc h
      have hB := fun W (h : Below wc.heap.size wc W) => Nat.le_trans Bc.size h.size
      have hF : ∀ W w9, Below wc.heap.size wc W → W.grownBy w9 (some g) → Below w4.heap.size w4 w9 := fun W w9 S hg => (below_step Bc S Bc.size).grown hg (hB W S) (fun k hk => by cases hk; exact (ownc.lt _ rfl).1)
      have stepG : ∀ W W', W.grownBy W' (some g) → Below w4.heap.size w4 W' → (W.cell? ⟨wr.heap.size, 0, none⟩ = some (.string nm) ∧ W.cell? ⟨wr.heap.size, 2, none⟩ = some (.slice (some ⟨bb, bo, none⟩) bn bc) ∧ W.cell? ⟨bb, bo + st * 3 + 1, none⟩ = some (.int .i64 rt) ∧ Tab W) → (W'.cell? ⟨wr.heap.size, 0, none⟩ = some (.string nm) ∧ W'.cell? ⟨wr.heap.size, 2, none⟩ = some (.slice (some ⟨bb, bo, none⟩) bn bc) ∧ W'.cell? ⟨bb, bo + st * 3 + 1, none⟩ = some (.int .i64 rt) ∧ Tab W') := fun W W' hg hb h => ⟨(hg.cell_far _ (World.block_lt_of_cell? _ _ h.1) (fun e => by have e' : wr.heap.size = g := Option.some.inj e; omega)).trans h.1, (hg.cell_far _ (World.block_lt_of_cell? _ _ h.2.1) (fun e => by have e' : wr.heap.size = g := Option.some.inj e; omega)).trans h.2.1, (hg.cell_far _ (World.block_lt_of_cell? _ _ h.2.2.1) (fun e => by have e' : bb = g := Option.some.inj e; omega)).trans h.2.2.1, D4.below hb⟩
      have hone : ∀ (x : ByteArray), ∀ u ∈ [Value.string x], u.oneCell' = true := fun x => by simp [Value.oneCell']
      have hc3 : 1 + i + 1 ≤ maxLen := by unfold maxLen; omega
      have hc4 : (1 + i + 1) * 16 ≤ 140737488355328 := by omega
      have hi2 : i + 1 ≤ T.nC := hlt
      clear p0 p2 brc Dc y1 y2
      go_region_held3 (fun W => W.cell? ⟨wr.heap.size, 0, none⟩ = some (.string nm) ∧ W.cell? ⟨wr.heap.size, 2, none⟩ = some (.slice (some ⟨bb, bo, none⟩) bn bc) ∧ W.cell? ⟨bb, bo + st * 3 + 1, none⟩ = some (.int .i64 rt) ∧ Tab W)
        ((first | exact S1 | exact step _ _ hb (by assumption) | exact step _ _ (below_new _ _) (by assumption) | exact stepG _ _ hgrow hb9 (by assumption) | (trace_state; sorry)))
        (first
          | (go_at_call 42; (first | (with_reducible refine (it1 _ (by assumption)).mono ?_) | (with_reducible refine (it2 _ (by assumption)).mono ?_)); rintro e w6 ⟨rfl, hb⟩; have hw := bl _ _ (by first | exact hw | exact below_drewN (Below.refl _ _) _) hb)
          | (go_at_call 41; refine (l4 _).mono ?_; rintro e w7 ⟨x, rfl, hb⟩; have hw := bl _ _ (hw.alloc hw.size _) hb)
          | (have hw := hw.alloc hw.size (.cells #[.string x] 9); refine step_append_lies _ (by rfl) _ _ 34 (by rfl) w4.heap.size 9 i0 (.string ⟨#[]⟩) 1 16 Tryd.underlying34 Hi.out Hz.out hz1 hz2 (by rfl) (by decide) (.slice (some ⟨g, 0, none⟩) (1 + i) c) (1 + i) xs (by rfl) (hO _ hw) ⟨_, 0, none⟩ 1 1 [.string _] (by rfl) (by rfl) (cell_one_new _ _ _) (hone _) (by decide) hc3 hc4 (hB _ hw) _ rfl ?_; intro g9 cap9 w9 hown9 hgrow hat hlt9; have hb9 := hF _ _ hw hgrow))
      go_wp2
      go_roundw
      case rel => exact ⟨i + 1, g9, cap9, _, hi2, rfl, by go_num, hown9, hb9⟩
      case measure => first | omega | (simp [intOf]; omega)
    · obtain rfl : i = T.nC := by omega
      have i1 : ¬ ((T.nC : Int) < (T.nC : Int)) := by omega
      have z3 : wr.cell? ⟨w2.heap.size, 3, none⟩ = some (.int .i64 (keptW T)) := (G4.below hb).cell (q := 3) (by omega)
      have Dw := D4.below hb
      have it := fun W (D : Tab W) => itoa_s (keptW T) (by omega) (by omega) W D
      have y1 := itoa_z (keptW T) (by omega) (by omega)
      generalize (ByteArray.mk (Lib.itoa (keptW T)).toArray) = t1 at *
      have l2 := line_2 ⟨#[107, 101, 101, 112]⟩ t1 (by decide) y1
      go_wp2_with (fail)
      refine (it _ Dw).mono ?_
      rintro e w6 ⟨rfl, hb6⟩
      have ow6 := own_below hown hb6
      have B6 := below_step hb hb6 hb.size
      have N7 := below_new w6 (.cells #[.string ⟨#[107, 101, 101, 112]⟩, .string t1] 9)
      clear hown hb hb6
      go_wp2_with (fail)
      refine (l2 _).mono ?_
      rintro e w7 ⟨x, rfl, hb7⟩
      have B7 := below_step (below_step B6 N7 B6.size) hb7 (Nat.le_trans B6.size N7.size)
      have ow7 := own_below (own_below ow6 N7) hb7
      have N8 := below_new w7 (.cells #[.string x] 9)
      have B8 := below_step B7 N8 B7.size
      have ow8 := own_below ow7 N8
      have hone : ∀ u ∈ [Value.string x], u.oneCell' = true := by simp [Value.oneCell']
      have hc3 : 1 + T.nC + 1 ≤ maxLen := by unfold maxLen; omega
      have hc4 : (1 + T.nC + 1) * 16 ≤ 140737488355328 := by omega
      clear B6 N7 ow6 ow7 B7 hb7 N8
      have hfin := fun w9 (hg : (w7.alloc (.cells #[.string x] 9)).grownBy w9 (some g)) => B8.grown hg B8.size (fun k hk => by cases hk; exact (ow8.lt _ rfl).1)
      go_wp2_with (at_builtin; refine wpList_append_lies _ rfl _ _ 34 rfl w4.heap.size 9 i0 (.string ⟨#[]⟩) 1 16 Tryd.underlying34 Hi.out Hz.out hz1 hz2 rfl (by decide) (.slice (some ⟨g, 0, none⟩) (1 + T.nC) c) (1 + T.nC) xs rfl ow8 ⟨w7.heap.size, 0, none⟩ 1 1 [.string x] rfl rfl (cell_one_new _ _ _) hone (by decide) hc3 hc4 B8.size _ rfl ?_; intro g9 cap9 w9 hown9 hgrow hat hlt9)
      have hb9 := hfin w9 hgrow
      go_wp2
      go_ret
      exact ⟨some ⟨g9, 0, none⟩, cap9, by
        show Ending.returned (.slice (some ⟨g9, 0, none⟩) (1 + T.nC + 1) cap9) = _
        rw [show 1 + T.nC + 1 = T.nC + 2 by omega], below_step B4 hb9 B4.size⟩
end Go.Proofs.YtobdbjmpoefebaaDoor
