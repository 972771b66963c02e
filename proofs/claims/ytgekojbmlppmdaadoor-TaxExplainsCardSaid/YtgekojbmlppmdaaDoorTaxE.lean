/- What tax.Explain and tax.Average answer, of tables that may be. -/
import Derived.Test.YtgekojbmlppmdaaDoorTaxB
namespace Go.Proofs.YtgekojbmlppmdaaDoor
open Go.RowKit Go.Sort
set_option linter.unusedVariables false
set_option linter.unusedSimpArgs false

/-- how much of an amount is in a band -/
def amt (L : List Bd) (c : Int) (i : Nat) : Int := (if i + 1 < L.length then min c (gF L (i + 1)) else c) - gF L i
def shr (L : List Bd) (c : Int) (i : Nat) : Bd := (gR L i, amt L c i, amt L c i * gR L i)
def shrL (L : List Bd) (c : Int) (m : Nat) : List Bd := (List.range m).map (shr L c)
theorem shrL_succ (L : List Bd) (c : Int) (m : Nat) : shrL L c (m + 1) = shrL L c m ++ [shr L c m] := by simp [shrL, List.range_succ]
theorem shrL_len (L : List Bd) (c : Int) (m : Nat) : (shrL L c m).length = m := by simp [shrL]
theorem infoSh : (Tryd.prog.info? 76).map (fun i => (i.zero, i.size, i.bytes)) = some (some (.agg #[.int .i64 0, .int .i64 0, .int .i64 0]), 3, 24) := by kernel_rfl
/-- a row of shares of a call's own -/
abbrev Sw (w : World) (B : Nat) (v : Value) (L : List Bd) : Prop := w.ownsRow B 76 3 v L.length (cl L)
theorem own_mono_i2 {w : World} {B B' : Nat} {e : TypeId} {size n : Nat} {v : Value} {xs : List Value} (h : w.ownsRow B e size v n xs) (hB : B' ≤ B) : w.ownsRow B' e size v n xs := by
  obtain ⟨hl, h | ⟨g, cap, cur, hv, hg, hh, h1, h2, h3, h4⟩⟩ := h
  · exact ⟨hl, .inl h⟩
  · exact ⟨hl, .inr ⟨g, cap, cur, hv, Nat.le_trans hB hg, hh, h1, h2, h3, h4⟩⟩
theorem rw_any {w : World} {B : Nat} {v : Value} {L : List Bd} (h : Rw w B v L) : ∃ A cap, v = .slice A L.length cap ∧ Bds w A L.length (gF L) (gR L) (gE L) := by
  rcases Nat.eq_zero_or_pos L.length with h0 | h0
  · rcases h.2 with ⟨h1, h2⟩ | ⟨g, cap, cur, hv, _⟩
    · exact ⟨none, 0, by rw [h0]; exact h1, fun h => absurd h (by omega)⟩
    · exact ⟨_, cap, hv, fun h => absurd h (by omega)⟩
  · obtain ⟨g, cap, hv, _, _, _, hb⟩ := rw_bds_of h h0
    exact ⟨_, cap, hv, hb⟩
/-- what tax.Explain answers -/
def ExpP (L : List Bd) (c : Int) (w : World) (e : Ending) (w' : World) : Prop :=
  ∃ (v : Value) (m : Nat), e = .returned (.tuple #[v, .int .i64 0]) ∧ Sw w' w.heap.size v (shrL L c m) ∧ m ≤ L.length ∧ (∀ i, i < m → 0 < amt L c i) ∧ (m = L.length ∨ amt L c m ≤ 0) ∧ Below w.heap.size w w'
theorem explain_bad (T : TB) (s k a f : Int) (x : Bool) (y n d : Int) (E : Int) (h0 : (E != 0) = true) (w : World) (h : SchM w T.AS T.nS T.S) (cg : ∀ w, SchM w T.AS T.nS T.S → Calls Tryd.prog 36 #[.agg #[.slice T.AS T.nS T.cS, .slice T.AC T.nC T.cC, .slice T.AK T.nK T.cK, .int .i64 T.L, .int .i64 T.W], .agg #[.int .i64 s, .int .i64 k, .int .i64 a, .int .i64 f, .bool x], .int .i64 y, .int .i64 n, .int .i64 d] w fun e w' => e = .returned (.tuple #[.int .i64 0, .slice none 0 0, .int .i64 E]) ∧ Below w.heap.size w w') :
    Calls Tryd.prog 29 #[.agg #[.slice T.AS T.nS T.cS, .slice T.AC T.nC T.cC, .slice T.AK T.nK T.cK, .int .i64 T.L, .int .i64 T.W], .agg #[.int .i64 s, .int .i64 k, .int .i64 a, .int .i64 f, .bool x], .int .i64 y, .int .i64 n, .int .i64 d] w fun e w' => e = .returned (.tuple #[.slice none 0 0, .int .i64 E]) ∧ Below w.heap.size w w' := by
  have K1 : Bx ((w.alloc (.cells #[.slice T.AS T.nS T.cS, .slice T.AC T.nC T.cC, .slice T.AK T.nK T.cK, .int .i64 T.L, .int .i64 T.W] 26)).alloc (.cells #[.int .i64 s, .int .i64 k, .int .i64 a, .int .i64 f, .bool x] 28)) w.heap.size 26 [.slice T.AS T.nS T.cS, .slice T.AC T.nC T.cC, .slice T.AK T.nK T.cK, .int .i64 T.L, .int .i64 T.W] := (bx_new w [.slice T.AS T.nS T.cS, .slice T.AC T.nC T.cC, .slice T.AK T.nK T.cK, .int .i64 T.L, .int .i64 T.W] 26).alloc _
  have K2 : Bx ((w.alloc (.cells #[.slice T.AS T.nS T.cS, .slice T.AC T.nC T.cC, .slice T.AK T.nK T.cK, .int .i64 T.L, .int .i64 T.W] 26)).alloc (.cells #[.int .i64 s, .int .i64 k, .int .i64 a, .int .i64 f, .bool x] 28)) (w.heap.size + 1) 28 [.int .i64 s, .int .i64 k, .int .i64 a, .int .i64 f, .bool x] := bx_at _ [.int .i64 s, .int .i64 k, .int .i64 a, .int .i64 f, .bool x] 28 (by simp)
  have B : Below w.heap.size w ((w.alloc (.cells #[.slice T.AS T.nS T.cS, .slice T.AC T.nC T.cC, .slice T.AK T.nK T.cK, .int .i64 T.L, .int .i64 T.W] 26)).alloc (.cells #[.int .i64 s, .int .i64 k, .int .i64 a, .int .i64 f, .bool x] 28)) := ((Below.refl _ _).alloc (Nat.le_refl _) _).alloc (by simp) _
  have h2 := h.below (show Below w.heap.size w ((w.alloc (.cells #[.slice T.AS T.nS T.cS, .slice T.AC T.nC T.cC, .slice T.AK T.nK T.cK, .int .i64 T.L, .int .i64 T.W] 26)).alloc (.cells #[.int .i64 s, .int .i64 k, .int .i64 a, .int .i64 f, .bool x] 28)) from B)
  clear h
  have t0 := K1.cell (i := 0) rfl
  have t1 := K1.cell (i := 1) rfl
  have t2 := K1.cell (i := 2) rfl
  have t3 := K1.cell (i := 3) rfl
  have t4 := K1.cell (i := 4) rfl
  have c0 := K2.cell (i := 0) rfl
  have c1 := K2.cell (i := 1) rfl
  have c2 := K2.cell (i := 2) rfl
  have c3 := K2.cell (i := 3) rfl
  have c4 := K2.cell (i := 4) rfl
  go_enter Tryd.func29, Tryd.ntmps29
  go_wp2_with (fail)
  with_reducible refine (cg _ h2).mono ?_
  rintro e w1 ⟨rfl, hb⟩
  have B1 := below_step B hb B.size
  go_wp2
  go_ret2
  exact ⟨rfl, B1⟩
set_option maxRecDepth 100000 in
set_option maxHeartbeats 8000000 in
theorem explain_ok (T : TB) (s k a f : Int) (x : Bool) (y n d : Int) (w : World) (h : SchM w T.AS T.nS T.S) (hL8 : (taxL (T.S s.toNat) k f n d).length ≤ 8) (hf : ∀ i, i < (taxL (T.S s.toNat) k f n d).length → 0 ≤ gF (taxL (T.S s.toNat) k f n d) i ∧ gF (taxL (T.S s.toNat) k f n d) i ≤ 100000000000) (hr : ∀ i, i < (taxL (T.S s.toNat) k f n d).length → 0 ≤ gR (taxL (T.S s.toNat) k f n d) i ∧ gR (taxL (T.S s.toNat) k f n d) i ≤ 10000)
    (cg : ∀ w, SchM w T.AS T.nS T.S → Calls Tryd.prog 36 #[.agg #[.slice T.AS T.nS T.cS, .slice T.AC T.nC T.cC, .slice T.AK T.nK T.cK, .int .i64 T.L, .int .i64 T.W], .agg #[.int .i64 s, .int .i64 k, .int .i64 a, .int .i64 f, .bool x], .int .i64 y, .int .i64 n, .int .i64 d] w (ChgP T s k a f y n d w)) :
    Calls Tryd.prog 29 #[.agg #[.slice T.AS T.nS T.cS, .slice T.AC T.nC T.cC, .slice T.AK T.nK T.cK, .int .i64 T.L, .int .i64 T.W], .agg #[.int .i64 s, .int .i64 k, .int .i64 a, .int .i64 f, .bool x], .int .i64 y, .int .i64 n, .int .i64 d] w (ExpP (taxL (T.S s.toNat) k f n d) (chargeV s k a f y n d).1 w) := by
  have K1 : Bx ((w.alloc (.cells #[.slice T.AS T.nS T.cS, .slice T.AC T.nC T.cC, .slice T.AK T.nK T.cK, .int .i64 T.L, .int .i64 T.W] 26)).alloc (.cells #[.int .i64 s, .int .i64 k, .int .i64 a, .int .i64 f, .bool x] 28)) w.heap.size 26 [.slice T.AS T.nS T.cS, .slice T.AC T.nC T.cC, .slice T.AK T.nK T.cK, .int .i64 T.L, .int .i64 T.W] := (bx_new w [.slice T.AS T.nS T.cS, .slice T.AC T.nC T.cC, .slice T.AK T.nK T.cK, .int .i64 T.L, .int .i64 T.W] 26).alloc _
  have K2 : Bx ((w.alloc (.cells #[.slice T.AS T.nS T.cS, .slice T.AC T.nC T.cC, .slice T.AK T.nK T.cK, .int .i64 T.L, .int .i64 T.W] 26)).alloc (.cells #[.int .i64 s, .int .i64 k, .int .i64 a, .int .i64 f, .bool x] 28)) (w.heap.size + 1) 28 [.int .i64 s, .int .i64 k, .int .i64 a, .int .i64 f, .bool x] := bx_at _ [.int .i64 s, .int .i64 k, .int .i64 a, .int .i64 f, .bool x] 28 (by simp)
  have B : Below w.heap.size w ((w.alloc (.cells #[.slice T.AS T.nS T.cS, .slice T.AC T.nC T.cC, .slice T.AK T.nK T.cK, .int .i64 T.L, .int .i64 T.W] 26)).alloc (.cells #[.int .i64 s, .int .i64 k, .int .i64 a, .int .i64 f, .bool x] 28)) := ((Below.refl _ _).alloc (Nat.le_refl _) _).alloc (by simp) _
  have h2 := h.below (show Below w.heap.size w ((w.alloc (.cells #[.slice T.AS T.nS T.cS, .slice T.AC T.nC T.cC, .slice T.AK T.nK T.cK, .int .i64 T.L, .int .i64 T.W] 26)).alloc (.cells #[.int .i64 s, .int .i64 k, .int .i64 a, .int .i64 f, .bool x] 28)) from B)
  clear h
  have t0 := K1.cell (i := 0) rfl
  have t1 := K1.cell (i := 1) rfl
  have t2 := K1.cell (i := 2) rfl
  have t3 := K1.cell (i := 3) rfl
  have t4 := K1.cell (i := 4) rfl
  have c0 := K2.cell (i := 0) rfl
  have c1 := K2.cell (i := 1) rfl
  have c2 := K2.cell (i := 2) rfl
  have c3 := K2.cell (i := 3) rfl
  have c4 := K2.cell (i := 4) rfl
  have cb := chargeV_bd (s := s) (k := k) (a := a) (f := f) (x := y) (n := n) (d := d)
  unfold ChgP at cg
  generalize taxL (T.S s.toNat) k f n d = L at *
  generalize (chargeV s k a f y n d).1 = c at *
  obtain ⟨i0, hi0, hz0, hz1, hz2⟩ := info_parts infoSh
  have Hi := Lib.hid hi0
  have Hz := Lib.hid hz0
  have HF := Lib.hid hf
  have HR := Lib.hid hr
  clear hi0 hz0 hf hr
  go_enter Tryd.func29, Tryd.ntmps29
  go_wp2_with (fail)
  with_reducible refine (cg _ h2).mono ?_
  rintro e w3 ⟨v, rfl, hv, hb⟩
  have B3 := below_step B hb B.size
  obtain ⟨A, cap, rfl, hbd⟩ := rw_any hv
  have HB := Lib.hid hbd
  clear cg h2 hv hb B K1 K2 t0 t1 t2 t3 t4 c0 c1 c2 c3 c4 hbd
  have Bw := Below.refl w3.heap.size w3
  go_wp2
  go_loopw [15, 37] (fun u j X => ∃ i : Nat, i ≤ L.length ∧ j = .int .i64 i ∧ Sw X w3.heap.size u (shrL L c i) ∧ (∀ j, j < i → 0 < amt L c j) ∧ Below w3.heap.size w3 X) (fun _ j _ => L.length - (intOf j).toNat)
  case atStart => exact ⟨0, Nat.zero_le _, rfl, World.ownsRow_nil _ _ _ _, fun j hj => absurd hj (Nat.not_lt_zero _), Bw⟩
  case round =>
    clear Bw
    obtain ⟨i, hi, rfl, O, hp, hbX⟩ := hrel
    by_cases hlt : i < L.length
    · obtain ⟨b, o, rfl, hc⟩ := HB.out (by omega)
      obtain ⟨z0, z1, z2⟩ := hc i hlt
      replace z0 := cell_later hbX z0
      replace z1 := cell_later hbX z1
      replace z2 := cell_later hbX z2
      have ff := HF.out i hlt
      have rr := HR.out i hlt
      have hA : amt L c i = (if i + 1 < L.length then min c (gF L (i + 1)) else c) - gF L i := rfl
      have HN := Lib.hid (shrL_succ L c i)
      have HLN := Lib.hid (shrL_len L c i)
      have HP := Lib.hid hp
      have N2 := (Below.refl wr.heap.size wr).alloc (Nat.le_refl _) (.cells #[.int .i64 (gF L i), .int .i64 (gR L i), .int .i64 (gE L i)] 53)
      have K2 := bx_new wr [.int .i64 (gF L i), .int .i64 (gR L i), .int .i64 (gE L i)] 53
      have B2 := below_step hbX N2 hbX.size
      have HO := Lib.hid (own_below O N2)
      have f0 := K2.cell (i := 0) rfl
      have f1 := K2.cell (i := 1) rfl
      have HS : Hid (shr L c i = (gR L i, amt L c i, amt L c i * gR L i)) := Lib.hid rfl
      clear hc hp O N2
      by_cases hl : i + 1 < L.length
      · rw [if_pos hl] at hA
        obtain ⟨b', o', hA', hc'⟩ := HB.out (by omega)
        obtain ⟨y0, _, _⟩ := hc' (i + 1) hl
        simp only [Option.some.injEq, Addr.mk.injEq, and_true] at hA'
        obtain ⟨rfl, rfl⟩ := hA'
        replace y0 := cell_later B2 y0
        have ff2 := HF.out (i + 1) hl
        have l1 : decide ((i : Int) + 1 < (L.length : Int)) = true := decide_eq_true (by omega)
        clear hc'
        by_cases hcm : c ≤ gF L (i + 1)
        · rw [show min c (gF L (i + 1)) = c by omega] at hA
          have hmin : min c (gF L (i + 1)) = c := by omega
          by_cases hx : c - gF L i ≤ 0
          · have l2 : decide (c - gF L i ≤ 0) = true := decide_eq_true hx
            have HX := Lib.hid hA
            clear hA
            go_wp2
            go_ret2
            exact ⟨_, i, rfl, own_mono_i2 HO.out B3.size, hi, HP.out, .inr (by rw [HX.out]; exact hx), below_step B3 B2 B3.size⟩
          · have l2 : decide (c - gF L i ≤ 0) = false := decide_eq_false hx
            have pt := fun w => part_ok (c - gF L i) (gR L i) w (amtB_mk (by omega) (by omega)) (rateB_mk rr.1 rr.2)
            have HX := Lib.hid hA
            have HPN : Hid (∀ j, j < i + 1 → 0 < amt L c j) := Lib.hid fun j hj => by
              by_cases e : j = i
              · subst e; rw [HX.out]; omega
              · exact HP.out j (by omega)
            have HSN : Hid (shr L c i = (gR L i, c - gF L i, (c - gF L i) * gR L i)) := Lib.hid (by rw [HS.out, HX.out])
            clear hA
            go_wp2_with (fail)
            with_reducible refine (pt _).mono ?_
            rintro e w4 ⟨rfl, hb4⟩
            have B4 := below_step B2 hb4 B2.size
            replace HO := Lib.hid (own_below HO.out hb4)
            replace K2 := K2.below hb4
            clear pt f0 f1
            have f1 := K2.cell (i := 1) rfl
            generalize (c - gF L i) * gR L i = tx at *
            have hln := HLN.out
            have hc3 : (shrL L c i).length + 1 ≤ maxLen := by unfold maxLen; omega
            have hc4 : ((shrL L c i).length + 1) * 24 ≤ 140737488355328 := by omega
            clear hln
            have hc1 := cell_three_new w4 (.int .i64 (gR L i)) (.int .i64 (c - gF L i)) (.int .i64 tx) 76 w4.heap.size rfl
            have hc2 : ∀ v ∈ [Value.int .i64 (gR L i), Value.int .i64 (c - gF L i), Value.int .i64 tx], v.oneCell' = true := by simp [Value.oneCell']
            have hc5 : w3.heap.size ≤ (w4.alloc (.cells #[.int .i64 (gR L i), .int .i64 (c - gF L i), .int .i64 tx] 76)).heap.size := by have := B4.size; simp; omega
            have hb5 := B4.alloc B4.size (Obj.cells #[.int .i64 (gR L i), .int .i64 (c - gF L i), .int .i64 tx] 76)
            go_wp2_with (at_builtin; refine wpList_append_own_at _ rfl _ _ 72 rfl w3.heap.size 76 i0 (.agg #[.int .i64 0, .int .i64 0, .int .i64 0]) 3 24 Tryd.underlying72 Hi.out Hz.out hz1 hz2 rfl (by decide) _ _ _ rfl (HO.out.alloc _) ⟨w4.heap.size, 0, none⟩ 1 1 [.int .i64 (gR L i), .int .i64 (c - gF L i), .int .i64 tx] rfl rfl hc1 hc2 hc3 hc4 hc5 ?_; intro v' w5 hown2 hg2 _ hob2)
            have hb6 := hb5.grown hg2 hc5 (fun k hk => (HO.out.lt k hk).1)
            have hown3 : Sw w5 w3.heap.size v' (shrL L c (i + 1)) := by
              show w5.ownsRow w3.heap.size 76 3 v' (shrL L c (i + 1)).length (cl (shrL L c (i + 1)))
              rw [HN.out, HSN.out, List.length_append, cl_app]
              exact hown2
            clear hown2 hg2 hob2 hb5 hc1 hc2 hc3 hc4 hc5
            go_wp2
            go_roundw
            case rel => exact ⟨i + 1, by omega, by go_num, hown3, HPN.out, hb6⟩
            case measure => first | omega | (simp [intOf]; omega)
        · rw [show min c (gF L (i + 1)) = gF L (i + 1) by omega] at hA
          have hmin : min c (gF L (i + 1)) = gF L (i + 1) := by omega
          by_cases hx : gF L (i + 1) - gF L i ≤ 0
          · have l2 : decide (gF L (i + 1) - gF L i ≤ 0) = true := decide_eq_true hx
            have HX := Lib.hid hA
            clear hA
            go_wp2
            go_ret2
            exact ⟨_, i, rfl, own_mono_i2 HO.out B3.size, hi, HP.out, .inr (by rw [HX.out]; exact hx), below_step B3 B2 B3.size⟩
          · have l2 : decide (gF L (i + 1) - gF L i ≤ 0) = false := decide_eq_false hx
            have pt := fun w => part_ok (gF L (i + 1) - gF L i) (gR L i) w (amtB_mk (by omega) (by omega)) (rateB_mk rr.1 rr.2)
            have HX := Lib.hid hA
            have HPN : Hid (∀ j, j < i + 1 → 0 < amt L c j) := Lib.hid fun j hj => by
              by_cases e : j = i
              · subst e; rw [HX.out]; omega
              · exact HP.out j (by omega)
            have HSN : Hid (shr L c i = (gR L i, gF L (i + 1) - gF L i, (gF L (i + 1) - gF L i) * gR L i)) := Lib.hid (by rw [HS.out, HX.out])
            clear hA
            go_wp2_with (fail)
            with_reducible refine (pt _).mono ?_
            rintro e w4 ⟨rfl, hb4⟩
            have B4 := below_step B2 hb4 B2.size
            replace HO := Lib.hid (own_below HO.out hb4)
            replace K2 := K2.below hb4
            clear pt f0 f1
            have f1 := K2.cell (i := 1) rfl
            generalize (gF L (i + 1) - gF L i) * gR L i = tx at *
            have hln := HLN.out
            have hc3 : (shrL L c i).length + 1 ≤ maxLen := by unfold maxLen; omega
            have hc4 : ((shrL L c i).length + 1) * 24 ≤ 140737488355328 := by omega
            clear hln
            have hc1 := cell_three_new w4 (.int .i64 (gR L i)) (.int .i64 (gF L (i + 1) - gF L i)) (.int .i64 tx) 76 w4.heap.size rfl
            have hc2 : ∀ v ∈ [Value.int .i64 (gR L i), Value.int .i64 (gF L (i + 1) - gF L i), Value.int .i64 tx], v.oneCell' = true := by simp [Value.oneCell']
            have hc5 : w3.heap.size ≤ (w4.alloc (.cells #[.int .i64 (gR L i), .int .i64 (gF L (i + 1) - gF L i), .int .i64 tx] 76)).heap.size := by have := B4.size; simp; omega
            have hb5 := B4.alloc B4.size (Obj.cells #[.int .i64 (gR L i), .int .i64 (gF L (i + 1) - gF L i), .int .i64 tx] 76)
            go_wp2_with (at_builtin; refine wpList_append_own_at _ rfl _ _ 72 rfl w3.heap.size 76 i0 (.agg #[.int .i64 0, .int .i64 0, .int .i64 0]) 3 24 Tryd.underlying72 Hi.out Hz.out hz1 hz2 rfl (by decide) _ _ _ rfl (HO.out.alloc _) ⟨w4.heap.size, 0, none⟩ 1 1 [.int .i64 (gR L i), .int .i64 (gF L (i + 1) - gF L i), .int .i64 tx] rfl rfl hc1 hc2 hc3 hc4 hc5 ?_; intro v' w5 hown2 hg2 _ hob2)
            have hb6 := hb5.grown hg2 hc5 (fun k hk => (HO.out.lt k hk).1)
            have hown3 : Sw w5 w3.heap.size v' (shrL L c (i + 1)) := by
              show w5.ownsRow w3.heap.size 76 3 v' (shrL L c (i + 1)).length (cl (shrL L c (i + 1)))
              rw [HN.out, HSN.out, List.length_append, cl_app]
              exact hown2
            clear hown2 hg2 hob2 hb5 hc1 hc2 hc3 hc4 hc5
            go_wp2
            go_roundw
            case rel => exact ⟨i + 1, by omega, by go_num, hown3, HPN.out, hb6⟩
            case measure => first | omega | (simp [intOf]; omega)
      · rw [if_neg hl] at hA
        have l1 : decide ((i : Int) + 1 < (L.length : Int)) = false := decide_eq_false (by omega)
        by_cases hx : c - gF L i ≤ 0
        · have l2 : decide (c - gF L i ≤ 0) = true := decide_eq_true hx
          have HX := Lib.hid hA
          clear hA
          go_wp2
          go_ret2
          exact ⟨_, i, rfl, own_mono_i2 HO.out B3.size, hi, HP.out, .inr (by rw [HX.out]; exact hx), below_step B3 B2 B3.size⟩
        · have l2 : decide (c - gF L i ≤ 0) = false := decide_eq_false hx
          have pt := fun w => part_ok (c - gF L i) (gR L i) w (amtB_mk (by omega) (by omega)) (rateB_mk rr.1 rr.2)
          have HX := Lib.hid hA
          have HPN : Hid (∀ j, j < i + 1 → 0 < amt L c j) := Lib.hid fun j hj => by
            by_cases e : j = i
            · subst e; rw [HX.out]; omega
            · exact HP.out j (by omega)
          have HSN : Hid (shr L c i = (gR L i, c - gF L i, (c - gF L i) * gR L i)) := Lib.hid (by rw [HS.out, HX.out])
          clear hA
          go_wp2_with (fail)
          with_reducible refine (pt _).mono ?_
          rintro e w4 ⟨rfl, hb4⟩
          have B4 := below_step B2 hb4 B2.size
          replace HO := Lib.hid (own_below HO.out hb4)
          replace K2 := K2.below hb4
          clear pt f0 f1
          have f1 := K2.cell (i := 1) rfl
          generalize (c - gF L i) * gR L i = tx at *
          have hln := HLN.out
          have hc3 : (shrL L c i).length + 1 ≤ maxLen := by unfold maxLen; omega
          have hc4 : ((shrL L c i).length + 1) * 24 ≤ 140737488355328 := by omega
          clear hln
          have hc1 := cell_three_new w4 (.int .i64 (gR L i)) (.int .i64 (c - gF L i)) (.int .i64 tx) 76 w4.heap.size rfl
          have hc2 : ∀ v ∈ [Value.int .i64 (gR L i), Value.int .i64 (c - gF L i), Value.int .i64 tx], v.oneCell' = true := by simp [Value.oneCell']
          have hc5 : w3.heap.size ≤ (w4.alloc (.cells #[.int .i64 (gR L i), .int .i64 (c - gF L i), .int .i64 tx] 76)).heap.size := by have := B4.size; simp; omega
          have hb5 := B4.alloc B4.size (Obj.cells #[.int .i64 (gR L i), .int .i64 (c - gF L i), .int .i64 tx] 76)
          go_wp2_with (at_builtin; refine wpList_append_own_at _ rfl _ _ 72 rfl w3.heap.size 76 i0 (.agg #[.int .i64 0, .int .i64 0, .int .i64 0]) 3 24 Tryd.underlying72 Hi.out Hz.out hz1 hz2 rfl (by decide) _ _ _ rfl (HO.out.alloc _) ⟨w4.heap.size, 0, none⟩ 1 1 [.int .i64 (gR L i), .int .i64 (c - gF L i), .int .i64 tx] rfl rfl hc1 hc2 hc3 hc4 hc5 ?_; intro v' w5 hown2 hg2 _ hob2)
          have hb6 := hb5.grown hg2 hc5 (fun k hk => (HO.out.lt k hk).1)
          have hown3 : Sw w5 w3.heap.size v' (shrL L c (i + 1)) := by
            show w5.ownsRow w3.heap.size 76 3 v' (shrL L c (i + 1)).length (cl (shrL L c (i + 1)))
            rw [HN.out, HSN.out, List.length_append, cl_app]
            exact hown2
          clear hown2 hg2 hob2 hb5 hc1 hc2 hc3 hc4 hc5
          go_wp2
          go_roundw
          case rel => exact ⟨i + 1, by omega, by go_num, hown3, HPN.out, hb6⟩
          case measure => first | omega | (simp [intOf]; omega)
    · obtain rfl : i = L.length := by omega
      have HO := Lib.hid O
      have HP := Lib.hid hp
      clear O hp
      go_wp2
      go_ret2
      exact ⟨_, L.length, rfl, own_mono_i2 HO.out B3.size, Nat.le_refl _, HP.out, .inl rfl, below_step B3 hbX B3.size⟩

/-- the average, or why there is none -/
def avgT (T : TB) (s k a f y n d : Int) : Int × Int :=
  if (exactT T s k a f y n d).2 ≠ 0 then (0, (exactT T s k a f y n d).2) else if y ≤ 0 then (0, 0) else ((exactT T s k a f y n d).1 / y, 0)
theorem average_tab (T : TB) (s k a f : Int) (x : Bool) (y n d : Int) (w : World) (h : SchM w T.AS T.nS T.S) (hT : TG T) (ha : -9223372036854775808 ≤ a) (ha2 : a ≤ 9223372036854775807) :
    Calls Tryd.prog 30 #[.agg #[.slice T.AS T.nS T.cS, .slice T.AC T.nC T.cC, .slice T.AK T.nK T.cK, .int .i64 T.L, .int .i64 T.W], .agg #[.int .i64 s, .int .i64 k, .int .i64 a, .int .i64 f, .bool x], .int .i64 y, .int .i64 n, .int .i64 d] w fun e w' => e = .returned (.tuple #[.int .i64 (avgT T s k a f y n d).1, .int .i64 (avgT T s k a f y n d).2]) ∧ Below w.heap.size w w' := by
  have K1 : Bx ((w.alloc (.cells #[.slice T.AS T.nS T.cS, .slice T.AC T.nC T.cC, .slice T.AK T.nK T.cK, .int .i64 T.L, .int .i64 T.W] 26)).alloc (.cells #[.int .i64 s, .int .i64 k, .int .i64 a, .int .i64 f, .bool x] 28)) w.heap.size 26 [.slice T.AS T.nS T.cS, .slice T.AC T.nC T.cC, .slice T.AK T.nK T.cK, .int .i64 T.L, .int .i64 T.W] := (bx_new w [.slice T.AS T.nS T.cS, .slice T.AC T.nC T.cC, .slice T.AK T.nK T.cK, .int .i64 T.L, .int .i64 T.W] 26).alloc _
  have K2 : Bx ((w.alloc (.cells #[.slice T.AS T.nS T.cS, .slice T.AC T.nC T.cC, .slice T.AK T.nK T.cK, .int .i64 T.L, .int .i64 T.W] 26)).alloc (.cells #[.int .i64 s, .int .i64 k, .int .i64 a, .int .i64 f, .bool x] 28)) (w.heap.size + 1) 28 [.int .i64 s, .int .i64 k, .int .i64 a, .int .i64 f, .bool x] := bx_at _ [.int .i64 s, .int .i64 k, .int .i64 a, .int .i64 f, .bool x] 28 (by simp)
  have B : Below w.heap.size w ((w.alloc (.cells #[.slice T.AS T.nS T.cS, .slice T.AC T.nC T.cC, .slice T.AK T.nK T.cK, .int .i64 T.L, .int .i64 T.W] 26)).alloc (.cells #[.int .i64 s, .int .i64 k, .int .i64 a, .int .i64 f, .bool x] 28)) := ((Below.refl _ _).alloc (Nat.le_refl _) _).alloc (by simp) _
  have ex := fun w h => exact_tab T s k a f x y n d w h hT.z hT.ok ha ha2
  have bd := exactT_bd hT.ok s k a f y n d
  have h2 := h.below (show Below w.heap.size w ((w.alloc (.cells #[.slice T.AS T.nS T.cS, .slice T.AC T.nC T.cC, .slice T.AK T.nK T.cK, .int .i64 T.L, .int .i64 T.W] 26)).alloc (.cells #[.int .i64 s, .int .i64 k, .int .i64 a, .int .i64 f, .bool x] 28)) from B)
  clear h hT
  unfold avgT
  by_cases he : (exactT T s k a f y n d).2 = 0
  · rw [if_neg (by simpa using he)]
    rw [he] at ex
    generalize (exactT T s k a f y n d).1 = v at *
    clear he
    by_cases hy : y ≤ 0
    · rw [if_pos hy]
      have q : decide (y ≤ 0) = true := decide_eq_true hy
      clear bd hy
      have t0 := K1.cell (i := 0) rfl
      have t1 := K1.cell (i := 1) rfl
      have t2 := K1.cell (i := 2) rfl
      have t3 := K1.cell (i := 3) rfl
      have t4 := K1.cell (i := 4) rfl
      have c0 := K2.cell (i := 0) rfl
      have c1 := K2.cell (i := 1) rfl
      have c2 := K2.cell (i := 2) rfl
      have c3 := K2.cell (i := 3) rfl
      have c4 := K2.cell (i := 4) rfl
      go_enter Tryd.func30, Tryd.ntmps30
      go_wp2_with (fail)
      with_reducible refine (ex _ h2).mono ?_
      rintro e w1 ⟨rfl, hb⟩
      have B1 := below_step B hb B.size
      go_wp2
      go_ret2
      exact ⟨rfl, B1⟩
    · rw [if_neg hy]
      have q : decide (y ≤ 0) = false := decide_eq_false hy
      have q0 : (y == 0) = false := beq_eq_false_iff_ne.2 (by omega)
      have hv : v.tdiv y = v / y := Int.tdiv_eq_ediv_of_nonneg bd.1
      have hb0 := Int.ediv_nonneg bd.1 (show 0 ≤ y by omega)
      have hb1 := Int.ediv_le_self y bd.1
      dsimp only
      generalize v / y = g at *
      have hw : wrap64 g = g := IntWalk.wrap64_in _ (by omega)
      have HV : Hid (wrap64 (v.tdiv y) = g) := Lib.hid (by rw [hv, hw])
      have hy2 : 0 < y := by omega
      have hy3 : ¬ y = 0 := by omega
      clear hb0 hb1 bd
      have t0 := K1.cell (i := 0) rfl
      have t1 := K1.cell (i := 1) rfl
      have t2 := K1.cell (i := 2) rfl
      have t3 := K1.cell (i := 3) rfl
      have t4 := K1.cell (i := 4) rfl
      have c0 := K2.cell (i := 0) rfl
      have c1 := K2.cell (i := 1) rfl
      have c2 := K2.cell (i := 2) rfl
      have c3 := K2.cell (i := 3) rfl
      have c4 := K2.cell (i := 4) rfl
      go_enter Tryd.func30, Tryd.ntmps30
      go_wp2_with (fail)
      with_reducible refine (ex _ h2).mono ?_
      rintro e w1 ⟨rfl, hb⟩
      have B1 := below_step B hb B.size
      go_wp2
      go_ret2
      exact ⟨ret_ii hw rfl, B1⟩
  · rw [if_pos he]
    dsimp only
    have he1 : ((exactT T s k a f y n d).2 != 0) = true := by simpa using he
    generalize (exactT T s k a f y n d).1 = v at *
    generalize (exactT T s k a f y n d).2 = E at *
    clear he
    have t0 := K1.cell (i := 0) rfl
    have t1 := K1.cell (i := 1) rfl
    have t2 := K1.cell (i := 2) rfl
    have t3 := K1.cell (i := 3) rfl
    have t4 := K1.cell (i := 4) rfl
    have c0 := K2.cell (i := 0) rfl
    have c1 := K2.cell (i := 1) rfl
    have c2 := K2.cell (i := 2) rfl
    have c3 := K2.cell (i := 3) rfl
    have c4 := K2.cell (i := 4) rfl
    go_enter Tryd.func30, Tryd.ntmps30
    go_wp2_with (fail)
    with_reducible refine (ex _ h2).mono ?_
    rintro e w1 ⟨rfl, hb⟩
    have B1 := below_step B hb B.size
    go_wp2
    go_ret2
    exact ⟨rfl, B1⟩
theorem sw_any {w : World} {B : Nat} {v : Value} {L : List Bd} (h : Sw w B v L) : ∃ A cap, v = .slice A L.length cap ∧ ∀ i, i < L.length → ∃ g, A = some ⟨g, 0, none⟩ ∧ w.cell? ⟨g, i * 3, none⟩ = some (.int .i64 (L.getD i z3).1) ∧ w.cell? ⟨g, i * 3 + 1, none⟩ = some (.int .i64 (L.getD i z3).2.1) ∧ w.cell? ⟨g, i * 3 + 2, none⟩ = some (.int .i64 (L.getD i z3).2.2) := by
  rcases h.2 with ⟨h1, h0⟩ | ⟨g, cap, cur, hv, _⟩
  · exact ⟨none, 0, by rw [h0]; exact h1, fun i hi => absurd hi (by omega)⟩
  · subst hv
    refine ⟨_, cap, rfl, fun i hi => ⟨g, rfl, ?_⟩⟩
    obtain ⟨a, b, c⟩ := cl_get L i _ (get_some L hi)
    exact ⟨(h.cellAt _ (by have := h.1; omega)).trans a, (h.cellAt _ (by have := h.1; omega)).trans b, (h.cellAt _ (by have := h.1; omega)).trans c⟩
theorem shrL_get {L : List Bd} {c : Int} {m i : Nat} (h : i < m) : (shrL L c m).getD i z3 = shr L c i := by
  rw [List.getD_eq_getElem?_getD]
  simp [shrL, List.getElem?_map, List.getElem?_range h]
end Go.Proofs.YtgekojbmlppmdaaDoor
