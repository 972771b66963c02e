/- The worst choice of a table: what keep.Worst answers. -/
import Derived.Test.YtobdbjmpoefebaaDoorTabX
namespace Go.Proofs.YtobdbjmpoefebaaDoor
open Go.RowKit Go.Sort
set_option linter.unusedVariables false
set_option linter.unusedSimpArgs false

/-- a row of numbers of the call's own -/
def Ro (w : World) (B : Nat) (v : Value) (n : Nat) (f : Nat → Int) : Prop := w.ownsRow B 3 1 v n ((List.range n).map fun i => .int .i64 (f i))
theorem ro_next {w : World} {B : Nat} {v : Value} {i : Nat} {f : Nat → Int} {y : Int} (h : w.ownsRow B 3 1 v (i + 1) ((List.range i).map (fun i => Value.int .i64 (f i)) ++ [.int .i64 y])) (hy : f i = y) : Ro w B v (i + 1) f := by
  unfold Ro
  rw [List.range_succ, List.map_append]
  subst hy
  exact h
theorem cell_one_new (w : World) (x : Value) (t : TypeId) : ∀ j u, [x][j]? = some u → (w.alloc (.cells #[x] t)).cell? ((⟨w.heap.size, 0, none⟩ : Addr).add j) = some u := by
  intro j u hu
  have hj : j = 0 := by
    rcases Nat.eq_zero_or_pos j with h | h
    · exact h
    · rw [List.getElem?_eq_none (by simp; omega)] at hu; cases hu
  subst hj
  have : x = u := by simpa using hu
  subst this
  simp [Addr.add, World.cell?_alloc_new]

/-- the corners of n bands -/
def crn (F : Nat → Int) (n : Nat) : List Int := (List.range (n - 1)).map fun i => F (i + 1)
theorem own_is {w : World} {B : Nat} {e : TypeId} {size n : Nat} {v : Value} {xs : List Value} (h : w.ownsRow B e size v (n + 1) xs) : ∃ g cap, v = .slice (some ⟨g, 0, none⟩) (n + 1) cap ∧ B ≤ g ∧ g < w.heap.size := by
  obtain ⟨hl, ⟨_, h0⟩ | ⟨g, cap, cur, hv, hg, hh, _⟩⟩ := h
  · omega
  · exact ⟨g, cap, hv, hg, (Array.getElem?_eq_some_iff.1 hh).1⟩
theorem own_slice {w : World} {B : Nat} {e : TypeId} {size n : Nat} {v : Value} {xs : List Value} (h : w.ownsRow B e size v n xs) : ∃ A cap, v = .slice A n cap := by
  obtain ⟨hl, ⟨hv, h0⟩ | ⟨g, cap, cur, hv, hg, hh, _⟩⟩ := h
  · subst h0; exact ⟨_, _, hv⟩
  · exact ⟨_, _, hv⟩
theorem infoI : (Tryd.prog.info? 3).map (fun i => (i.zero, i.size, i.bytes)) = some (some (.int .i64 0), 1, 8) := by kernel_rfl
theorem rowW_next (i : Nat) (R : Nat → Int) (s : Int × Int × Int) (j : Nat) : rowW i R s (j + 1) = if (rowW i R s j).2.2 < R j then ((i : Int), (j : Int), R j) else rowW i R s j := rfl
def WorstP (T : TB) (w : World) (e : Ending) (w' : World) : Prop :=
  ∃ v, e = .returned (.tuple #[.agg #[.int .i64 (allW T.S T.L T.nS).1, .int .i64 (allW T.S T.L T.nS).2.1, v, .int .i64 (keptW T)], .int .i64 0]) ∧
    Ro w' w.heap.size v T.nC (fun i => (steep (T.C i).b.R (T.C i).b.n : Nat)) ∧ Below w.heap.size w w'
theorem worst_bad (w : World) (T : TB) (h : Tm w T) (hz : Tsz T) (hc : T.chk ≠ 0) :
    Calls Tryd.prog 16 #[T.v] w fun e w' => e = .returned (.tuple #[.agg #[.int .i64 0, .int .i64 0, .slice none 0 0, .int .i64 0], .int .i64 T.chk]) ∧ Below w.heap.size w w' := by
  have ck := fun w' (q : Tm w' T) => check_tab w' T q hz
  have t1 : (T.chk != 0) = true := by simpa using hc
  generalize T.chk = v at *
  obtain ⟨AS, nS, cS, AC, nC, cC, AK, nK, cK, L, W, S, C, K⟩ := T
  dsimp only [TB.v] at *
  have B0 := below_new w (.cells #[.slice AS nS cS, .slice AC nC cC, .slice AK nK cK, .int .i64 L, .int .i64 W] 26)
  have M0 := h.below B0
  obtain ⟨z0, z1, z2, z3, z4⟩ := cells5 w (.slice AS nS cS) (.slice AC nC cC) (.slice AK nK cK) (.int .i64 L) (.int .i64 W) 26
  generalize hw1 : w.alloc (.cells #[.slice AS nS cS, .slice AC nC cC, .slice AK nK cK, .int .i64 L, .int .i64 W] 26) = w1 at *
  have C1 := C4.new w1 (.int .i64 0) (.int .i64 0) (.slice none 0 0) (.int .i64 0)
  have hN := below_new w1 (.cells #[.int .i64 0, .int .i64 0, .slice none 0 0, .int .i64 0] 39)
  have B1 := below_step B0 hN B0.size
  have M1 := M0.below hN
  replace z0 := cell_later hN z0
  replace z1 := cell_later hN z1
  replace z2 := cell_later hN z2
  replace z3 := cell_later hN z3
  replace z4 := cell_later hN z4
  generalize hw2 : w1.alloc (.cells #[.int .i64 0, .int .i64 0, .slice none 0 0, .int .i64 0] 39) = w2 at *
  have hq : w.heap.size < w1.heap.size := by rw [← hw1]; simp
  clear hc h B0 M0 hN
  go_enter Tryd.func16, Tryd.ntmps16
  go_wp2_with (fail)
  refine (ck _ M1).mono ?_
  rintro e w3 ⟨rfl, hb⟩
  have B2 := below_step B1 hb B1.size
  have C2 := C1.below hb
  have f0 := C2.fr
  have d0 := C2.c0
  have d1 := C2.c1
  have d2 := C2.c2
  have d3 := C2.c3
  go_wp2
  have CF := (((C2.s0 (.int .i64 0)).s1 (.int .i64 0)).s2 (.slice none 0 0)).s3 (.int .i64 0)
  have r0 := CF.c0
  have r1 := CF.c1
  have r2 := CF.c2
  have r3 := CF.c3
  exact bodyPost_ret (v := .tuple #[.agg #[.int .i64 0, .int .i64 0, .slice none 0 0, .int .i64 0], .int .i64 v]) (by simp [results, Tryd.results16, go_sem, r0, r1, r2, r3]) rfl ⟨rfl, (((B2.setCell (Nat.le_of_lt hq) _).setCell (Nat.le_of_lt hq) _).setCell (Nat.le_of_lt hq) _).setCell (Nat.le_of_lt hq) _⟩
set_option maxHeartbeats 4000000 in
set_option maxRecDepth 100000 in
theorem worst_ok (w : World) (T : TB) (h : Tm w T) (hz : Tsz T) (hc : T.chk = 0) :
    Calls Tryd.prog 16 #[T.v] w (WorstP T w) := by
  have ck := fun w' (q : Tm w' T) => check_tab w' T q hz
  have OK := tok_of hc
  have RB := rate_bd OK
  have SBD := sum_bd OK
  have s1 := OK.s1
  have s8 := OK.s8
  have c6 := OK.c6
  have OS := Lib.hid OK.s
  have OC := Lib.hid OK.c
  have hK : keptW T = 10000 - (allW T.S T.L T.nS).2.2 - takeC T.C T.nC := rfl
  unfold WorstP
  rw [hc] at ck
  obtain ⟨i0, hi0, hz0, hz1, hz2⟩ := info_parts infoI
  obtain ⟨AS, nS, cS, AC, nC, cC, AK, nK, cK, L, W, S, C, K⟩ := T
  dsimp only [TB.v] at *
  generalize hkw : keptW _ = kw at *
  have B0 := below_new w (.cells #[.slice AS nS cS, .slice AC nC cC, .slice AK nK cK, .int .i64 L, .int .i64 W] 26)
  have M0 := h.below B0
  obtain ⟨z0, z1, z2, z3, z4⟩ := cells5 w (.slice AS nS cS) (.slice AC nC cC) (.slice AK nK cK) (.int .i64 L) (.int .i64 W) 26
  generalize hw1 : w.alloc (.cells #[.slice AS nS cS, .slice AC nC cC, .slice AK nK cK, .int .i64 L, .int .i64 W] 26) = w1 at *
  have C1 := C4.new w1 (.int .i64 0) (.int .i64 0) (.slice none 0 0) (.int .i64 0)
  have hN := below_new w1 (.cells #[.int .i64 0, .int .i64 0, .slice none 0 0, .int .i64 0] 39)
  have B1 := below_step B0 hN B0.size
  have M1 := M0.below hN
  replace z0 := cell_later hN z0
  replace z1 := cell_later hN z1
  replace z2 := cell_later hN z2
  replace z3 := cell_later hN z3
  replace z4 := cell_later hN z4
  generalize hw2 : w1.alloc (.cells #[.int .i64 0, .int .i64 0, .slice none 0 0, .int .i64 0] 39) = w2 at *
  have hq : w.heap.size < w1.heap.size := by rw [← hw1]; simp
  generalize hqn : w1.heap.size = q at *
  clear hc h B0 M0 hN hkw
  go_enter Tryd.func16, Tryd.ntmps16
  go_wp2_with (fail)
  refine (ck _ M1).mono ?_
  rintro e w3 ⟨rfl, hb⟩
  have B2 := below_step B1 hb B1.size
  have CQ := C1.below hb
  have M2 := M1.below hb
  replace z0 := cell_later hb z0
  replace z1 := cell_later hb z1
  replace z2 := cell_later hb z2
  replace z3 := cell_later hb z3
  replace z4 := cell_later hb z4
  have hq3 := CQ.lt
  clear hb B1 M1 C1 ck hw1 hw2 hqn
  have CP := C4.new w3 (.int .i64 (-1)) (.int .i64 (-1)) (.slice none 0 0) (.int .i64 0)
  have hN := below_new w3 (.cells #[.int .i64 (-1), .int .i64 (-1), .slice none 0 0, .int .i64 0] 39)
  have y0 := cell_later hN z0
  have y3 := cell_later hN z3
  go_wp2
  go_loopw [26, 6] (fun k r X => ∃ i : Nat, i ≤ nS ∧ k = .int .i64 i ∧ r = .int .i64 (allW S L i).2.2 ∧ Below w3.heap.size w3 X ∧ C4 X w3.heap.size (.int .i64 (allW S L i).1) (.int .i64 (allW S L i).2.1) (.slice none 0 0) (.int .i64 0)) (fun k _ _ => nS - (intOf k).toNat)
  case atStart => exact ⟨0, Nat.zero_le _, rfl, rfl, hN, CP⟩
  case round =>
    obtain ⟨i, hi, rfl, rfl, hB, hC⟩ := hrel
    by_cases hlt : i < nS
    · have MX : SchM w3 AS nS S := M2.1
      obtain ⟨b, o, rfl, hcc⟩ := id (MX (by omega))
      obtain ⟨g0, hBd⟩ := hcc i hlt
      have d0 := cell_later hB g0
      obtain ⟨b1, b8, _, _, hRt, _⟩ := OS.out i hlt
      obtain ⟨b', o', hA', hcb⟩ := hBd (by omega)
      have HCB := Lib.hid hcb
      have HRt := Lib.hid hRt
      have HS1 : Hid (allW S L (i + 1) = rowW i (S i).R (allW S L i) (S i).n) := Lib.hid rfl
      clear hcc hcb hBd hRt MX
      generalize hn : (S i).n = n at *
      generalize hR : (S i).R = R at *
      generalize hF : (S i).F = F at *
      generalize hE : (S i).E = E at *
      generalize hA : (S i).A = A at *
      generalize (S i).c = cc at *
      subst hA'
      have H0 : Hid (rowW i R (allW S L i) 0 = allW S L i) := Lib.hid rfl
      generalize hst : allW S L i = st at *
      clear hn hR hF hE hA hst
      go_wp2
      go_loopw [33, 6] (fun k r X => ∃ (j : Nat) (su : Int × Int × Int), j ≤ n ∧ Hid (rowW i R st j = su) ∧ k = .int .i64 j ∧ r = .int .i64 su.2.2 ∧ Below w3.heap.size w3 X ∧ C4 X w3.heap.size (.int .i64 su.1) (.int .i64 su.2.1) (.slice none 0 0) (.int .i64 0)) (fun k _ _ => n - (intOf k).toNat)
      case atStart => exact ⟨0, st, Nat.zero_le _, H0, rfl, rfl, hB, hC⟩
      case round =>
        obtain ⟨j, su, hj, HSU, rfl, rfl, hB2, hC2⟩ := hrel
        by_cases hjl : j < n
        · obtain ⟨g0, g1, g2⟩ := HCB.out j hjl
          replace g0 := cell_later hB2 g0
          replace g1 := cell_later hB2 g1
          replace g2 := cell_later hB2 g2
          have hN2 := below_new wr (.cells #[.int .i64 (F j), .int .i64 (R j), .int .i64 (E j)] 85)
          have e1 : (wr.alloc (.cells #[.int .i64 (F j), .int .i64 (R j), .int .i64 (E j)] 85)).cell? ⟨wr.heap.size, 1, none⟩ = some (.int .i64 (R j)) := by simp [go_sem]
          have B3 := below_step hB2 hN2 hB2.size
          have C3 := hC2.below hN2
          have hpq : w3.heap.size ≠ wr.heap.size := by have := hC2.lt; omega
          have hst2 := rowW_next i R st j
          rw [HSU.out] at hst2
          have HT := Lib.hid hst2
          clear hst2
          by_cases hv : su.2.2 < R j
          · have HE : Hid (rowW i R st (j + 1) = ((i : Int), (j : Int), R j)) := Lib.hid (by rw [HT.out, if_pos hv])
            have f0 := C3.fr
            have x0 := C3.c0
            have x1 := C3.c1
            clear HT HSU HS1 H0
            go_wp2_with (fail)
            generalize wr.alloc (.cells #[.int .i64 (F j), .int .i64 (R j), .int .i64 (E j)] 85) = X2 at *
            go_region
            have B4 : Below w3.heap.size w3 ((X2.setCell ⟨w3.heap.size, 0, none⟩ (.int .i64 (i : Int))).setCell ⟨w3.heap.size, 1, none⟩ (.int .i64 (j : Int))).drew := below_drewN ((B3.setCell (p := ⟨w3.heap.size, 0, none⟩) (Nat.le_refl _) (.int .i64 (i : Int))).setCell (p := ⟨w3.heap.size, 1, none⟩) (Nat.le_refl _) (.int .i64 (j : Int))) 1
            have C4' := ((C3.s0 (.int .i64 (i : Int))).s1 (.int .i64 (j : Int))).of_block (W' := ((X2.setCell ⟨w3.heap.size, 0, none⟩ (.int .i64 (i : Int))).setCell ⟨w3.heap.size, 1, none⟩ (.int .i64 (j : Int))).drew) rfl
            generalize ((X2.setCell ⟨w3.heap.size, 0, none⟩ (.int .i64 (i : Int))).setCell ⟨w3.heap.size, 1, none⟩ (.int .i64 (j : Int))).drew = X3 at *
            go_wp2
            go_roundw
            case rel => exact ⟨j + 1, ((i : Int), (j : Int), R j), by omega, HE, by go_num, rfl, B4, C4'⟩
            case measure => first | omega | (simp [intOf]; omega)
          · have HE : Hid (rowW i R st (j + 1) = su) := Lib.hid (by rw [HT.out, if_neg hv])
            clear HT HSU HS1 H0
            go_wp2
            go_roundw
            case rel => exact ⟨j + 1, su, by omega, HE, by go_num, rfl, B3, C3⟩
            case measure => first | omega | (simp [intOf]; omega)
        · obtain rfl : j = n := by omega
          have HE : Hid (allW S L (i + 1) = su) := Lib.hid (HS1.out.trans HSU.out)
          clear HSU HS1 H0
          go_wp2
          go_roundw
          case rel => exact ⟨i + 1, by omega, by go_num, by rw [HE.out], hB2, by rw [HE.out]; exact hC2⟩
          case measure => first | omega | (simp [intOf]; omega)
    · obtain rfl : i = nS := by omega
      have MC : ConM w3 AC nC C := M2.2.1
      have f0 := hC.fr
      have x3 := hC.c3
      have HKW := Lib.hid hK
      have HSB := Lib.hid SBD
      generalize hst3 : allW S L i = st at *
      have HST3 := Lib.hid hst3
      clear hK SBD hst3
      have hkb : 0 ≤ 10000 - st.2.2 ∧ 10000 - st.2.2 ≤ 10000 := by omega
      have y1 : (wr.setCell ⟨w3.heap.size, 3, none⟩ (.int .i64 (10000 - st.2.2))).cell? ⟨w.heap.size, 1, none⟩ = some (.slice AC nC cC) := (World.cell?_setCell_other _ _ _ _ (by intro e2; simp only [Addr.mk.injEq] at e2; omega)).trans (cell_later hB z1)
      have C5 := hC.s3 (.int .i64 (10000 - st.2.2))
      have B5 := hB.setCell (p := ⟨w3.heap.size, 3, none⟩) (Nat.le_refl _) (.int .i64 (10000 - st.2.2))
      have hsz5 : w3.heap.size + 1 ≤ (wr.setCell ⟨w3.heap.size, 3, none⟩ (.int .i64 (10000 - st.2.2))).heap.size := C5.lt
      go_wp2
      generalize wr.setCell ⟨w3.heap.size, 3, none⟩ (.int .i64 (10000 - st.2.2)) = X5 at *
      clear x3 f0 hC
      go_loopw [56] (fun k X => ∃ (m : Nat) (v : Value), m ≤ nC ∧ k = .int .i64 m ∧ Below w3.heap.size w3 X ∧ C4 X w3.heap.size (.int .i64 st.1) (.int .i64 st.2.1) v (.int .i64 (10000 - st.2.2 - takeC C m)) ∧ Ro X (w3.heap.size + 1) v m (fun i => (steep (C i).b.R (C i).b.n : Nat))) (fun k _ => nC - (intOf k).toNat)
      case atStart => exact ⟨0, .slice none 0 0, Nat.zero_le _, rfl, B5, by rw [show 10000 - st.2.2 - takeC C 0 = 10000 - st.2.2 from Int.sub_zero _]; exact C5, World.ownsRow_nil _ _ _ _⟩
      case round =>
        obtain ⟨m, v, hm, rfl, hB6, hC6, hRo⟩ := hrel
        by_cases hml : m < nC
        · obtain ⟨b, o, rfl, hcc⟩ := id (MC (by omega))
          obtain ⟨g0, g1, g2, g3, g4, g5, hBd⟩ := hcc m hml
          have d0 := cell_later hB6 g0
          have d1 := cell_later hB6 g1
          have d2 := cell_later hB6 g2
          have d3 := cell_later hB6 g3
          have d4 := cell_later hB6 g4
          have d5 := cell_later hB6 g5
          have q1 := HSB.out m hm
          have q2 := HSB.out (m + 1) hml
          have q3 : takeC C (m + 1) = takeC C m + (C m).b.R (steep (C m).b.R (C m).b.n) := rfl
          obtain ⟨k1, k8, _, _, hRt, _⟩ := OC.out m hml
          have hRs := hRt _ (steep_lt (C m).b.R k1)
          have hsl := steep_lt (C m).b.R k1
          have HST : Hid ((fun i => ((steep (C i).b.R (C i).b.n : Nat) : Int)) m = (steep (C m).b.R (C m).b.n : Nat)) := Lib.hid rfl
          have HTK : Hid (takeC C (m + 1) = takeC C m + (C m).b.R (steep (C m).b.R (C m).b.n)) := Lib.hid q3
          generalize hbb : (C m).b = bb at *
          clear hbb
          obtain ⟨A', n', c', F', R', E'⟩ := bb
          dsimp only at *
          obtain ⟨b', o', rfl, hcb⟩ := id (hBd k1)
          obtain ⟨_, hs1, _⟩ := hcb _ hsl
          have hBd' : Bds w3 (some ⟨b', o', none⟩) n' F' R' E' := hBd
          have sp := fun w' (q : Bds w' (some ⟨b', o', none⟩) n' F' R' E') => steepest_any (some ⟨b', o', none⟩) n' c' w' F' R' E' q (by omega)
          generalize steep R' n' = sm at *
          generalize (C m).N = Nn at *
          generalize (C m).B = Bb at *
          generalize (C m).P = Pp at *
          generalize (C m).Y = Yy at *
          generalize (C m).W = Ww at *
          clear hcc hcb g0 g1 g2 g3 g4 g5 hRt hBd q3
          have hN2 := below_new wr (.cells #[.string Nn, .int .i64 Bb, .slice (some ⟨b', o', none⟩) n' c', .int .i64 Pp, .int .i64 Yy, .int .i64 Ww] 80)
          have e2 : (wr.alloc (.cells #[.string Nn, .int .i64 Bb, .slice (some ⟨b', o', none⟩) n' c', .int .i64 Pp, .int .i64 Yy, .int .i64 Ww] 80)).cell? ⟨wr.heap.size, 2, none⟩ = some (.slice (some ⟨b', o', none⟩) n' c') := by simp [go_sem]
          have B7 := below_step hB6 hN2 hB6.size
          have C7 := hC6.below hN2
          have R7 := own_below hRo hN2
          have hBd7 := hBd'.below B7
          have hpq : w3.heap.size ≠ wr.heap.size := by have := hC6.lt; omega
          go_wp2_with (fail)
          with_reducible refine (sp _ hBd7).mono ?_
          rintro e X8 ⟨rfl, hb8⟩
          have B8 := below_step B7 hb8 B7.size
          have C8 := C7.below hb8
          have R8 := own_below R7 hb8
          have e8 := cell_later hb8 e2
          have hcc3 := C8.c2
          have R9 := R8.alloc (.cells #[.int .i64 (sm : Nat)] 3)
          have hc1 := cell_one_new X8 (.int .i64 (sm : Nat)) 3
          have hc2 : ∀ v ∈ [Value.int .i64 (sm : Nat)], v.oneCell' = true := by simp [Value.oneCell']
          have hc3 : m + 1 ≤ maxLen := by unfold maxLen; omega
          have hc4 : (m + 1) * 8 ≤ 140737488355328 := by omega
          have hl8 := C8.lt
          have hc5 : w3.heap.size + 1 ≤ (X8.alloc (.cells #[.int .i64 (sm : Nat)] 3)).heap.size := by simp; omega
          have hne : some w3.heap.size ≠ v.ownBlock := fun e => by have := (R8.lt _ e.symm).1; omega
          have hlt9 : w3.heap.size < (X8.alloc (.cells #[.int .i64 (sm : Nat)] 3)).heap.size := by simp; omega
          have C9 := C8.below (below_new X8 (.cells #[.int .i64 (sm : Nat)] 3))
          have B9 := below_step B8 (below_new X8 (.cells #[.int .i64 (sm : Nat)] 3)) B8.size
          have e9 := cell_later (below_new X8 (.cells #[.int .i64 (sm : Nat)] 3)) e8
          have hne2 : some wr.heap.size ≠ v.ownBlock := fun e => by have := (hRo.lt _ e.symm).2; omega
          have hlw : wr.heap.size < X8.heap.size := by have := hb8.size; simp at this; omega
          go_wp2_with (at_builtin; refine wpList_append_own _ rfl _ _ 37 rfl (w3.heap.size + 1) 3 i0 (.int .i64 0) 1 8 Tryd.underlying37 hi0 hz0 hz1 hz2 rfl (by decide) _ _ _ rfl R9 ⟨X8.heap.size, 0, none⟩ 1 1 [.int .i64 (sm : Nat)] rfl rfl hc1 hc2 hc3 hc4 hc5 ?_; intro v' XA hown2 hg2 _; obtain ⟨g9, cap9, rfl, hg9, hg9'⟩ := own_is hown2; have CA := C9.of_block (hg2.block _ hlt9 hne); have fA := CA.fr; have cA2 := CA.c2; have BA := B9.grown hg2 (by omega) (fun k hk => by have := (R8.lt k hk).1; omega); have eA := hg2.cell e9 hne2)
          have CB := CA.s2 (.slice (some ⟨g9, 0, none⟩) (m + 1) cap9)
          have BB := BA.setCell (p := ⟨w3.heap.size, 2, none⟩) (Nat.le_refl _) (.slice (some ⟨g9, 0, none⟩) (m + 1) cap9)
          have eB : (XA.setCell ⟨w3.heap.size, 2, none⟩ (.slice (some ⟨g9, 0, none⟩) (m + 1) cap9)).cell? ⟨wr.heap.size, 2, none⟩ = some (.slice (some ⟨b', o', none⟩) n' c') := (World.cell?_setCell_other _ _ _ _ (by intro e2; simp only [Addr.mk.injEq] at e2; omega)).trans eA
          have rB := cell_later BB hs1
          have RB' := own_other hown2 (show w3.heap.size < w3.heap.size + 1 by omega) 2 (.slice (some ⟨g9, 0, none⟩) (m + 1) cap9)
          generalize XA.setCell ⟨w3.heap.size, 2, none⟩ (.slice (some ⟨g9, 0, none⟩) (m + 1) cap9) = XB at *
          have fB := CB.fr
          have c3B := CB.c3
          clear fA cA2 CA BA eA e9 hc1 hc2 hc3 hc4 hc5 C9 B9 R9 C8 B8 R8 hown2 hg2 e8 hcc3
          generalize htk : takeC C m = tk at *
          have HN3 : Hid (10000 - st.2.2 - takeC C (m + 1) = 10000 - st.2.2 - tk - R' sm) := Lib.hid (by rw [HTK.out]; omega)
          go_region
          have RF : ((XB.setCell ⟨w3.heap.size, 3, none⟩ (.int .i64 (10000 - st.2.2 - tk - R' sm))).drew).ownsRow (w3.heap.size + 1) 3 1 (.slice (some ⟨g9, 0, none⟩) (m + 1) cap9) (m + 1) ((List.range m).map (fun i => Value.int .i64 ((steep (C i).b.R (C i).b.n : Nat) : Int)) ++ [.int .i64 (sm : Nat)]) := own_other RB' (show w3.heap.size < w3.heap.size + 1 by omega) 3 (.int .i64 (10000 - st.2.2 - tk - R' sm))
          have BF : Below w3.heap.size w3 (XB.setCell ⟨w3.heap.size, 3, none⟩ (.int .i64 (10000 - st.2.2 - tk - R' sm))).drew := below_drewN (BB.setCell (p := ⟨w3.heap.size, 3, none⟩) (Nat.le_refl _) (.int .i64 (10000 - st.2.2 - tk - R' sm))) 1
          have CF := (CB.s3 (.int .i64 (10000 - st.2.2 - tk - R' sm))).of_block (W' := (XB.setCell ⟨w3.heap.size, 3, none⟩ (.int .i64 (10000 - st.2.2 - tk - R' sm))).drew) rfl
          have RG := ro_next RF HST.out
          generalize (XB.setCell ⟨w3.heap.size, 3, none⟩ (.int .i64 (10000 - st.2.2 - tk - R' sm))).drew = XF at *
          go_wp2
          go_roundw
          case rel => exact ⟨m + 1, .slice (some ⟨g9, 0, none⟩) (m + 1) cap9, by omega, by go_num, BF, by rw [HN3.out]; exact CF, RG⟩
          case measure => first | omega | (simp [intOf]; omega)
        · obtain rfl : m = nC := by omega
          have CQ' := CQ.of_block (hB6.block _ hq3)
          have fQ := CQ'.fr
          have q0 := CQ'.c0
          have q1 := CQ'.c1
          have q2 := CQ'.c2
          have q3 := CQ'.c3
          have p0 := hC6.c0
          have p1 := hC6.c1
          have p2 := hC6.c2
          have p3 := hC6.c3
          rw [← HKW.out] at p3
          obtain ⟨AV, cV, rfl⟩ := own_slice hRo
          have BF := below_step B2 hB6 B2.size
          go_wp2
          have CF := (((CQ'.s0 (.int .i64 st.1)).s1 (.int .i64 st.2.1)).s2 (.slice AV m cV)).s3 (.int .i64 kw)
          have r0 := CF.c0
          have r1 := CF.c1
          have r2 := CF.c2
          have r3 := CF.c3
          have RO' : Ro ((((wr.setCell ⟨q, 0, none⟩ (.int .i64 st.1)).setCell ⟨q, 1, none⟩ (.int .i64 st.2.1)).setCell ⟨q, 2, none⟩ (.slice AV m cV)).setCell ⟨q, 3, none⟩ (.int .i64 kw)) w.heap.size (.slice AV m cV) m (fun i => (steep (C i).b.R (C i).b.n : Nat)) := own_mono (own_other (own_other (own_other (own_other hRo (show q < w3.heap.size + 1 by omega) 0 _) (show q < w3.heap.size + 1 by omega) 1 _) (show q < w3.heap.size + 1 by omega) 2 _) (show q < w3.heap.size + 1 by omega) 3 _) (by omega)
          exact bodyPost_ret (v := .tuple #[.agg #[.int .i64 st.1, .int .i64 st.2.1, .slice AV m cV, .int .i64 kw], .int .i64 0]) (by simp [results, Tryd.results16, go_sem, r0, r1, r2, r3]) rfl ⟨_, by rw [← HST3.out], RO', (((BF.setCell (Nat.le_of_lt hq) _).setCell (Nat.le_of_lt hq) _).setCell (Nat.le_of_lt hq) _).setCell (Nat.le_of_lt hq) _⟩
end Go.Proofs.YtobdbjmpoefebaaDoor
