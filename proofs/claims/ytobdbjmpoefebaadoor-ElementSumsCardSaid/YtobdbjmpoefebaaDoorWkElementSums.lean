/- ElementSums: what the elements of each kind are worth. -/
import Derived.Test.YtobdbjmpoefebaaDoorEltJ
namespace Go.Proofs.YtobdbjmpoefebaaDoor
open Go.RowKit Go.Sort
set_option linter.unusedVariables false
set_option linter.unusedSimpArgs false

theorem neq_sum (N : ByteArray) (x : Int) (W : World) : (binOp .neq 69 (.agg #[.string N, .int .i64 x]) (.agg #[.string N, .int .i64 x])).run Tryd.prog W = .ok (.bool false) W := by
  simp [go_sem]
/-- what is found so far of a name's number: the last one that is met -/
def atP (S : SmL) (N : ByteArray) (j : Nat) (x : Int) : Prop := (x = -1 ∧ ∀ q, q < j → (S.getD q sm0).1 ≠ N) ∨ ∃ i : Nat, x = i ∧ i < j ∧ (S.getD i sm0).1 = N
theorem sm_app {w : World} {B ms : Nat} {v : Value} {S : SmL} {N : ByteArray} (h : w.ownsRow B 69 2 v (ms + 1) (S.flatMap smG ++ [.string N, .int .i64 0])) (hm : S.length = ms) :
    ∃ g c, v = .slice (some ⟨g, 0, none⟩) (ms + 1) c ∧ B ≤ g ∧ g < w.heap.size ∧ w.cell? ⟨g, ms * 2, none⟩ = some (.string N) ∧ w.cell? ⟨g, ms * 2 + 1, none⟩ = some (.int .i64 0) ∧ (∀ q, w.frozen? ⟨g, q, none⟩ = false) ∧ ∀ x : Int, SmO (w.setCell ⟨g, ms * 2 + 1, none⟩ (.int .i64 x)) B v (S ++ [(N, x)]) := by
  subst hm
  have o := sm_push h
  obtain ⟨A, c, rfl, _, hr⟩ := sm_row o
  have e : (S ++ [(N, (0 : Int))]).getD S.length sm0 = (N, 0) := by simp [List.getD]
  obtain ⟨g, rfl, b1, b2, c0, c1, f, st⟩ := hr S.length (by simp)
  rw [e] at c0 c1
  refine ⟨g, c, by simp, b1, b2, c0, c1, f, fun x => ?_⟩
  have := st x
  rw [e] at this
  have e2 : (S ++ [(N, (0 : Int))]).set S.length (N, x) = S ++ [(N, x)] := by simp
  rw [e2] at this
  exact this
set_option maxHeartbeats 4000000 in
set_option maxRecDepth 100000 in
theorem wElementSums (A : Option Addr) (n c : Nat) (E : Nat → EB) (w : World) (htab : Tab w) (hr : ElM w A n E) (hn : n ≤ 9223372036854775807 ∧ n ≤ c) (hf : ∀ i, i < n → (E i).N.size ≤ 140737488355328) :
    Calls Tryd.prog 8 #[.slice A n c] w fun e w' => e = .returned (.bool true) ∧ Below w.heap.size w w' := by
  have wo := worths_any w htab
  obtain ⟨hn, _⟩ := hn
  by_cases h40 : 40 < n
  · have t1 : (40 : Int) < n := by omega
    clear hr hf
    go_enter Tryd.func8, Tryd.ntmps8
    go_wp2_with (fail)
    refine wo.mono ?_
    rintro e w1 ⟨rfl, B1⟩
    go_wp2
    go_ret
    exact ⟨rfl, B1⟩
  have t1 : ¬ (40 : Int) < n := by omega
  have t2 : decide ((40 : Int) < n) = false := by rw [decide_eq_false_iff_not]; exact t1
  have HM := Lib.hid hr
  have c1 := fun W (h : ElM W A n E) => sums_any A n c E W h (by omega) (fun i hi => by have := hf i hi; omega)
  generalize hR : sms (els E n) [] = R at *
  have HR := Lib.hid hR
  clear hr hf hR
  have hn40 : n ≤ 40 := by omega
  clear h40
  obtain ⟨G, ge⟩ := R
  go_enter Tryd.func8, Tryd.ntmps8
  go_wp2_with (fail)
  refine wo.mono ?_
  rintro e w1 ⟨rfl, B1⟩
  clear wo htab
  go_wp2_with (fail)
  refine (c1 _ (HM.out.below B1)).mono ?_
  rintro e w2 ⟨v, rfl, ho, hb2⟩
  have B2 := below_step B1 hb2 B1.size
  obtain ⟨Ag, cg, rfl, _, hrow⟩ := sm_row ho
  have HRW := Lib.hid hrow
  simp only [] at hrow ho
  clear hrow ho c1 hb2 B1
  obtain ⟨i0, hi0, hz0, hz1, hz2⟩ := info_parts info_sm
  have Hi := Lib.hid hi0
  have Hz := Lib.hid hz0
  clear hi0 hz0
  generalize hmg : G.length = mg at *
  have HMG := Lib.hid hmg
  clear hmg
  go_wp2
  go_loopw [5, 26] (fun v i wr => ∃ (S : SmL) (k : Nat), k ≤ n ∧ S.length ≤ k ∧ Hid (okS S) ∧ Hid (nodS S) ∧ i = .int .i64 k ∧ SmO wr w2.heap.size v S ∧ Hid (sms ((els E n).drop k) S = (G, ge)) ∧ Below w2.heap.size w2 wr) (fun _ i _ => n - (intOf i).toNat)
  case atStart => exact ⟨[], 0, Nat.zero_le _, Nat.le_refl _, Lib.hid fun i hi => absurd hi (Nat.not_lt_zero _), Lib.hid fun i j hi => absurd hi (Nat.not_lt_zero _), rfl, sm_nil _ _, Lib.hid HR.out, Below.refl _ _⟩
  case round =>
    obtain ⟨S, k, hk, hSk, HOK, HND, rfl, ho, HG, hb⟩ := hrel
    by_cases hlt : k < n
    · have hg := HG.out
      rw [els_drop E hlt, sms_cons] at hg
      have Bw := below_step B2 hb B2.size
      obtain ⟨b, o, rfl, hc⟩ := HM.out (by omega)
      obtain ⟨c0, c1, c2⟩ := hc k hlt
      have d0 := cell_later Bw c0
      have d1 := cell_later Bw c1
      have d2 := cell_later Bw c2
      have bn := below_new wr (.cells #[.string (E k).N, .int .i64 (E k).A, .int .i64 (E k).U] 45)
      have B3 := below_step hb bn hb.size
      have o3 : SmO _ w2.heap.size _ S := ho.below bn
      have x3 := trip_new wr (.string (E k).N) (.int .i64 (E k).A) (.int .i64 (E k).U) 45
      clear c0 c1 c2 hc hb ho bn HG Bw
      generalize E k = e at *
      obtain ⟨N, ea, eu⟩ := e
      simp only [] at hg d0 d1 d2 B3 o3 x3 ⊢
      have va := fun w => value_any N ea eu w
      have vo := valV_amt ea eu
      generalize valE ea eu = ve at *
      generalize valV ea eu = x at *
      go_wp2_with (fail)
      generalize wr.alloc (.cells #[.string N, .int .i64 ea, .int .i64 eu] 45) = w3 at *
      generalize wr.heap.size = p at *
      refine (va _).mono ?_
      rintro e w4 ⟨rfl, hb4⟩
      have B4 := below_step B3 hb4 B3.size
      have o4 : SmO _ w2.heap.size _ S := o3.below hb4
      have x4 := x3.below hb4
      have y0 : w4.cell? ⟨p, 0, none⟩ = some (.string N) := x4.cell (by omega)
      clear va B3 o3 x3 hb4 d0 d1 d2 x4
      by_cases hv : ve = 0
      · rw [if_pos hv] at hg
        have tv : (ve != 0) = false := by simpa using hv
        have HG := Lib.hid hg
        have HVO := Lib.hid vo
        clear hv hg vo
        obtain ⟨As, cs, rfl, hms, hsr⟩ := sm_row o4
        have HSR := Lib.hid hsr
        have hpl : p < w4.heap.size := World.block_lt_of_cell? _ _ y0
        clear hsr
        generalize hms2 : S.length = ms at *
        have HMS := Lib.hid hms2
        clear hms2
        go_wp2
        go_loopw [10, 47] (fun x i W => ∃ (j : Nat) (y : Int), j ≤ ms ∧ x = .int .i64 y ∧ i = .int .i64 j ∧ Hid (atP S N j y) ∧ -1 ≤ y ∧ y < ms + 1 ∧ Below w4.heap.size w4 W) (fun _ i _ => ms - (intOf i).toNat)
        case atStart => exact ⟨0, -1, Nat.zero_le _, rfl, rfl, Lib.hid (.inl ⟨rfl, fun q hq => absurd hq (Nat.not_lt_zero _)⟩), by omega, by omega, Below.refl _ _⟩
        case round =>
          obtain ⟨j, y, hj, rfl, rfl, HA, hy1, hy2, hbW⟩ := hrel
          by_cases hlt2 : j < ms
          · obtain ⟨g, rfl, _, _, s0, s1, _⟩ := HSR.out j hlt2
            have r0 := cell_later hbW s0
            have r1 := cell_later hbW s1
            have y1' := cell_later hbW y0
            have bn := below_new wr (.cells #[.string (S.getD j sm0).1, .int .i64 (S.getD j sm0).2] 69)
            have B5 := below_step hbW bn hbW.size
            have y2 := cell_later bn y1'
            clear s0 s1 hbW bn
            cases hN : decide ((S.getD j sm0).1 = N)
            · have te := str_b _ _ false hN
              have HA2 : Hid (atP S N (j + 1) y) := Lib.hid (by
                rcases HA.out with ⟨h1, h2⟩ | ⟨i, h1, h2, h3⟩
                · refine .inl ⟨h1, fun q hq => ?_⟩
                  by_cases e : q = j
                  · subst e; simpa using hN
                  · exact h2 q (by omega)
                · exact .inr ⟨i, h1, by omega, h3⟩)
              clear HA hN
              generalize (S.getD j sm0).1 = M at *
              generalize (S.getD j sm0).2 = z at *
              go_wp2
              go_roundw
              case rel => exact ⟨j + 1, y, by omega, rfl, by go_num, HA2, hy1, hy2, B5⟩
              case measure => simp [intOf]; omega
            · have te := str_b _ _ true hN
              have HA2 : Hid (atP S N (j + 1) (j : Int)) := Lib.hid (.inr ⟨j, rfl, by omega, by simpa using hN⟩)
              clear HA hN
              generalize (S.getD j sm0).1 = M at *
              generalize (S.getD j sm0).2 = z at *
              go_wp2
              go_roundw
              case rel => exact ⟨j + 1, (j : Int), by omega, rfl, by go_num, HA2, by omega, by omega, B5⟩
              case measure => simp [intOf]; omega
          · have hjm : ms = j := by omega
            subst hjm
            have B5 := below_step B4 hbW B4.size
            have o5 : SmO wr w2.heap.size _ S := o4.below hbW
            have y5 := cell_later hbW y0
            obtain ⟨x1, x2⟩ := amtB_yes HVO.out
            clear HSR o4 hbW B4 y0 hpl
            rcases HA.out with ⟨h1, h2⟩ | ⟨i, h1, h2, h3⟩
            · rw [← HMS.out] at h2
              obtain ⟨n1, n2⟩ := addS_none S N x (fun q hq => by rw [getD_any S q hq (N, 0) sm0]; exact h2 q hq)
              obtain ⟨n3, _⟩ := addS_none S N 0 (fun q hq => by rw [getD_any S q hq (N, 0) sm0]; exact h2 q hq)
              have hg2 := HG.out
              rw [n2, Int.zero_add, if_pos HVO.out, n1] at hg2
              have hok2 := ok_addS S N x HOK.out (by rw [n2, Int.zero_add]; exact HVO.out)
              have hnd2 := nod_addS S N x HND.out
              rw [n1] at hok2 hnd2
              have HG2 := Lib.hid hg2
              have HOK2 := Lib.hid hok2
              have HND2 := Lib.hid hnd2
              subst h1
              clear HG HOK HND HA n1 n2 n3 h2 hg2 hok2 hnd2 hy1 hy2
              have hc3 : ms + 1 ≤ maxLen := by unfold maxLen; omega
              have hc4 : (ms + 1) * 24 ≤ 140737488355328 := by omega
              have HC3 := Lib.hid hc3
              have HC4 := Lib.hid hc4
              clear hc3 hc4
              have o5' : wr.ownsRow w2.heap.size 69 2 (.slice As ms cs) ms (S.flatMap smG) := by have := o5; unfold SmO at this; rw [HMS.out] at this; exact this
              have hc1 := cell_new2 wr (.string N) (.int .i64 0) 69
              have hc2 : ∀ v ∈ [Value.string N, .int .i64 0], v.oneCell' = true := by simp [Value.oneCell']
              have B6 := B5.alloc B5.size (.cells #[.string N, .int .i64 0] 69)
              have hc5 := B6.size
              go_wp2_with (at_builtin; refine wpList_append_own _ rfl _ _ 65 rfl w2.heap.size 69 i0 (.agg #[.string ⟨#[]⟩, .int .i64 0]) 2 24 Tryd.underlying65 Hi.out Hz.out hz1 hz2 rfl (by decide) _ _ _ rfl (o5'.alloc _) ⟨wr.heap.size, 0, none⟩ 1 1 [.string N, .int .i64 0] rfl rfl hc1 hc2 HC3.out HC4.out hc5 ?_; intro v' w6 hown2 hg2 _; obtain ⟨g6, c6, rfl, bg6, lg6, l0, l1, lf, lset⟩ := sm_app hown2 HMS.out)
              have B7 : Below w2.heap.size w2 w6 := B6.grown hg2 hc5 (fun k hk => (o5'.lt k hk).1)
              have B8 := B7.setCell (p := ⟨g6, ms * 2 + 1, none⟩) bg6 (.int .i64 x)
              have o8 := lset x
              have HLN : Hid ((S ++ [(N, x)]).length = ms + 1) := Lib.hid (by rw [List.length_append, HMS.out]; rfl)
              go_roundw
              case rel => exact ⟨S ++ [(N, x)], k + 1, by omega, by rw [HLN.out]; omega, HOK2, HND2, by go_num, o8, HG2, B8⟩
              case measure => simp [intOf]; omega
            · have hi2 : i < S.length := by rw [HMS.out]; exact h2
              have hfirst : ∀ q, q < i → (S.getD q sm0).1 ≠ N := fun q hq e => by
                have := HND.out q i (by omega) hi2 (by rw [e, h3])
                omega
              obtain ⟨n1, n2⟩ := sums_old x hi2 h3 hfirst
              have hg2 := HG.out
              rw [n2, n1] at hg2
              have hoki := HOK.out i hi2
              have key : amtB ((S.getD i sm0).2 + x) = true → okS (S.set i ((S.getD i sm0).1, (S.getD i sm0).2 + x)) := fun ha => by
                rw [← n1]
                exact ok_addS S N x HOK.out (by rw [n2]; exact ha)
              have hnd2 := nod_addS S N x HND.out
              rw [n1] at hnd2
              have KEY := Lib.hid key
              have HND2 := Lib.hid hnd2
              have HL : Hid (∀ q : ByteArray × Int, (S.set i q).length = ms) := Lib.hid (fun q => by rw [List.length_set]; exact HMS.out)
              obtain ⟨A6, c6, he, _, hr6⟩ := sm_row o5
              rw [HMS.out] at he
              cases he
              obtain ⟨g6, rfl, bg6, lg6, l0, l1, lf, lset⟩ := hr6 i hi2
              obtain ⟨z1, z2⟩ := amtB_yes hoki
              have hi3 : (i : Int) < (ms : Int) := by omega
              subst h1
              have hfinal : Hid (if amtB ((S.getD i sm0).2 + x) = true then sms ((els E n).drop (k + 1)) (S.set i ((S.getD i sm0).1, (S.getD i sm0).2 + x)) = (G, ge) else G = [] ∧ ge = 10) := Lib.hid (by
                split at hg2
                · rename_i ha; rw [if_pos ha]; exact hg2
                · rename_i ha
                  rw [if_neg ha]
                  injection hg2 with q1 q2
                  exact ⟨q1.symm, q2.symm⟩)
              have B8 := B5.setCell (p := ⟨g6, i * 2 + 1, none⟩) bg6 (.int .i64 ((S.getD i sm0).2 + x))
              have o8 := lset ((S.getD i sm0).2 + x)
              clear HG HOK HND HA n1 n2 h2 hg2 hnd2 hy1 hy2 hr6 hfirst key hoki hi2 h3 lset
              have HM3 : Hid ((S.getD i sm0).1 = (S.getD i sm0).1) := Lib.hid rfl
              generalize (S.getD i sm0).2 = z at *
              generalize (S.getD i sm0).1 = M at *
              cases ha : amtB (z + x)
              · have hgg := hfinal.out
                rw [ha, if_neg (by decide)] at hgg
                obtain ⟨hG, rfl⟩ := hgg
                have hmg0 : mg = 0 := by rw [← HMG.out, hG]; rfl
                subst hmg0
                have hh := amtB_no ha
                clear hfinal KEY ha hG
                rcases hh with hh | hh
                · have ta : ¬ 100000000000 < z + x := by omega
                  have tb : decide (100000000000 < z + x) = false := by rw [decide_eq_false_iff_not]; exact ta
                  go_wp2
                  go_ret
                  exact ⟨rfl, below_step B2 B8 B2.size⟩
                · go_wp2
                  go_ret
                  exact ⟨rfl, below_step B2 B8 B2.size⟩
              · have hgg := hfinal.out
                rw [ha, if_pos rfl] at hgg
                have HG2 := Lib.hid hgg
                have HOK2 := Lib.hid (KEY.out ha)
                obtain ⟨q1, q2⟩ := amtB_yes ha
                have ta : ¬ 100000000000 < z + x := by omega
                have tb : decide (100000000000 < z + x) = false := by rw [decide_eq_false_iff_not]; exact ta
                have tc : ¬ z + x < -100000000000 := by omega
                have td : decide (z + x < -100000000000) = false := by rw [decide_eq_false_iff_not]; exact tc
                clear hfinal KEY ha hgg
                go_wp2
                go_roundw
                case rel => exact ⟨S.set i (M, z + x), k + 1, by omega, by rw [HL.out]; omega, HOK2, HND2, by go_num, o8, HG2, B8⟩
                case measure => simp [intOf]; omega
      · rw [if_neg hv] at hg
        have hge : ge = ve ∧ G = [] := by
          injection hg with q1 q2
          exact ⟨q2.symm, q1.symm⟩
        have tv : (ve != 0) = true := by simpa using hv
        obtain ⟨rfl, hG⟩ := hge
        have hmg0 : mg = 0 := by rw [← HMG.out, hG]; rfl
        subst hmg0
        clear hg hv hG
        go_wp2
        go_ret
        exact ⟨rfl, below_step B2 B4 B2.size⟩
    · have hkn : n = k := by omega
      subst hkn
      have hg := HG.out
      rw [List.drop_of_length_le (l := els E n) (by rw [els_len]; exact Nat.le_refl _), sms_nil] at hg
      have hG : S = G ∧ ge = 0 := by
        injection hg with q1 q2
        exact ⟨q1, q2.symm⟩
      obtain ⟨hG, rfl⟩ := hG
      subst hG
      obtain ⟨As, cs, rfl, _, hsr⟩ := sm_row ho
      rw [HMG.out] at hsr ⊢
      have HSR := Lib.hid hsr
      have Bw := below_step B2 hb B2.size
      have HBW := Lib.hid hb
      have hmg41 : mg ≤ 41 := by have := HMG.out; omega
      have tn : ((mg : Int) != (mg : Int)) = false := by simp
      generalize wr = ws at *
      clear hg HG hsr ho HOK HND hSk hb hlt HR HM B2
      go_wp2
      go_loopw [111] (fun i W => ∃ j : Nat, j ≤ mg ∧ i = .int .i64 j ∧ Below ws.heap.size ws W) (fun i _ => mg - (intOf i).toNat)
      case atStart => exact ⟨0, Nat.zero_le _, rfl, Below.refl _ _⟩
      case round =>
        obtain ⟨j, hj, rfl, hbW⟩ := hrel
        by_cases hlt : j < mg
        · obtain ⟨g1, rfl, _, _, a0, a1, _⟩ := HRW.out j hlt
          obtain ⟨g2, rfl, _, _, b0, b1, _⟩ := HSR.out j hlt
          have d0 := cell_later hbW (cell_later HBW.out a0)
          have d1 := cell_later hbW (cell_later HBW.out a1)
          have k0 := cell_later hbW b0
          have k1 := cell_later hbW b1
          have i4 : (j : Int) < (mg : Int) := by omega
          have hne := neq_sum (S.getD j sm0).1 (S.getD j sm0).2
          clear a0 a1 b0 b1
          generalize (S.getD j sm0).1 = M at *
          generalize (S.getD j sm0).2 = z at *
          go_wp2
          go_quiet (fail)
          go_wp2
          go_roundw
          case rel => exact ⟨j + 1, by omega, by go_num, below_drewN hbW _⟩
          case measure => first | omega | (simp [intOf]; omega)
        · have hjm : mg = j := by omega
          subst hjm
          go_wp2
          go_ret
          exact ⟨rfl, below_step Bw hbW Bw.size⟩
end Go.Proofs.YtobdbjmpoefebaaDoor
