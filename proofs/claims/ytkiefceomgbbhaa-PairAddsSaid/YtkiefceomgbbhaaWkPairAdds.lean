/- The walk of the law PairAdds. -/
import Derived.Test.YtkiefceomgbbhaaPairF
import Derived.Test.YtkiefceomgbbhaaWkPairSides
namespace Go.Proofs.Ytkiefceomgbbhaa
open Go.RowKit Go.Sort
set_option linter.unusedVariables false

theorem okS_less {X Y : Nat → Int} {n : Nat} (h : okS X Y n = true) : ∀ {k : Nat}, k ≤ n → okS X Y k = true := by
  intro k hk
  cases hc : okS X Y k
  · rcases k with _ | k
    · exact hc.symm.trans rfl
    · by_cases e : k + 1 = n
      · subst e; rw [h] at hc; exact hc.symm
      · have := okS_stop (n := n) (show k < n by omega) hc
        rw [this] at h
        exact h
  · rfl
theorem cxs_own {w : World} {base : Nat} {e : TypeId} {v : Value} {n : Nat} {zx zy : Nat → Nat} (h : w.ownsRow base e 1 v n ((List.range n).map fun j => Value.complex .f64 (zx j) (zy j))) :
    ∃ A c, v = .slice A n c ∧ Cxs w A n zx zy := by
  rcases h.2 with ⟨rfl, hn⟩ | ⟨g, cap, cur, rfl, _⟩
  · subst hn
    exact ⟨none, 0, rfl, fun h0 => absurd h0 (Nat.lt_irrefl 0)⟩
  · refine ⟨_, _, rfl, fun _ => ⟨g, 0, rfl, fun i hi => ?_⟩⟩
    have := h.cells (g := g) rfl i (.complex .f64 (zx i) (zy i)) (by simp [hi])
    rw [Nat.zero_add]
    unfold Addr.add at this
    split at this
    · rename_i hz
      rw [hz] at this
      rw [hz]
      exact this
    · simpa using this
theorem own_more {w : World} {base : Nat} {e : TypeId} {v : Value} {i : Nat} {f : Nat → Value} (h : w.ownsRow base e 1 v (i + 1) ((List.range i).map f ++ [f i])) :
    w.ownsRow base e 1 v (i + 1) ((List.range (i + 1)).map f) := by
  rw [List.range_succ, List.map_append]
  exact h
theorem pair_info : (Try.prog.info? 48).map (fun i => (i.zero, i.size, i.bytes)) = some (some (.complex .f64 0 0), 1, 16) := by kernel_rfl
def fo (X : Nat → Int) (i : Nat) : Nat := floatOfInt .f64 (X i)

set_option maxHeartbeats 8000000 in
set_option maxRecDepth 100000 in
theorem wPairAdds (A : Option Addr) (n c : Nat) (X Y : Nat → Int) (w : World) (h : Shs w A n X Y) (hn : n ≤ 9223372036854775807) (hf : ∀ i, i < n → (-9223372036854775808 ≤ X i ∧ X i ≤ 9223372036854775807) ∧ (-9223372036854775808 ≤ Y i ∧ Y i ≤ 9223372036854775807)) :
    Calls Try.prog 9 #[.slice A n c] w fun e w' => e = .returned (.bool true) ∧ Below w.heap.size w w' := by
  have sm := both_any w
  have o0 := order_00
  by_cases h50 : 50 < n
  · have t1 : decide (50 < (n : Int)) = true := by simp; omega
    clear h hf
    go_enter Try.func9, Try.ntmps9
    go_wp2_with (fail)
    with_reducible refine sm.mono ?_
    rintro e w1 ⟨rfl, hb1⟩
    go_wp2
    go_ret
    exact ⟨rfl, hb1⟩
  · have t1 : decide (50 < (n : Int)) = false := by simp; omega
    have hn50 : n ≤ 50 := by omega
    obtain ⟨i0, hi0, hz0, hz1, hz2⟩ := info_parts pair_info
    have Hi := Lib.hid hi0
    have Hz := Lib.hid hz0
    clear h50 hn hi0 hz0 hf
    go_enter Try.func9, Try.ntmps9
    go_wp2_with (fail)
    with_reducible refine sm.mono ?_
    rintro e w1 ⟨rfl, hb1⟩
    have h_1 := h.below hb1
    clear sm h
    go_wp2
    go_loopw [3, 31] (fun l k W => ∃ i : Nat, i ≤ n ∧ k = .int .i64 i ∧ (∀ j, j < i → sdB (X j) = true ∧ sdB (Y j) = true) ∧ W.ownsRow w1.heap.size 48 1 l i ((List.range i).map fun j => .complex .f64 (fo X j) (fo Y j)) ∧ Below w1.heap.size w1 W) (fun _ k _ => n - (intOf k).toNat)
    case atStart => exact ⟨0, Nat.zero_le _, rfl, fun j hj => absurd hj (Nat.not_lt_zero _), World.ownsRow_nil _ _ _ _, Below.refl _ _⟩
    case round =>
      obtain ⟨i, hi, rfl, hsd, hown, hb⟩ := hrel
      have hbw := hb1.trans (hb.mono hb1.size)
      by_cases hlt : i < n
      · obtain ⟨b, o, rfl, hc⟩ := h_1 (by omega)
        obtain ⟨x0, x1⟩ := hc i hlt
        have d0 := cell_later hb x0
        have d1 := cell_later hb x1
        have hbx := hb.alloc hb.size (.cells #[.int .i64 (X i), .int .i64 (Y i)] 59)
        have hbwx := hbw.alloc hbw.size (.cells #[.int .i64 (X i), .int .i64 (Y i)] 59)
        have hpx := P2.new wr (X i) (Y i) 59
        obtain ⟨v0, v1, _, _, vz⟩ := hpx
        have HSD := Lib.hid hsd
        clear hc x0 x1 hsd h_1
        cases hs : sdB (X i) && sdB (Y i)
        · have cO := of_bad2 (X i) (Y i) hs
          clear hs hown
          generalize X i = xi at *
          generalize Y i = yi at *
          go_wp2_with (fail)
          with_reducible refine (cO _).mono ?_
          rintro e w' ⟨rfl, rfl⟩
          go_wp2
          go_ret
          exact ⟨rfl, hbwx⟩
        · obtain ⟨s1, s2⟩ := Bool.and_eq_true_iff.1 hs
          have cO := of_ok2 (X i) (Y i) s1 s2
          have HS := Lib.hid (And.intro s1 s2)
          have hc1 := cell_one_new (wr.alloc (.cells #[.int .i64 (X i), .int .i64 (Y i)] 59)) (.complex .f64 (fo X i) (fo Y i)) 48
          have hc2 : ∀ u ∈ [Value.complex .f64 (fo X i) (fo Y i)], u.oneCell' = true := by simp [Value.oneCell']
          have hc3 : i + 1 ≤ maxLen := by unfold maxLen; omega
          have hc4 : (i + 1) * 16 ≤ 140737488355328 := by omega
          have hc5 : w1.heap.size ≤ ((wr.alloc (.cells #[.int .i64 (X i), .int .i64 (Y i)] 59)).alloc (.cells #[.complex .f64 (fo X i) (fo Y i)] 48)).heap.size := by have := hb.size; simp; omega
          have hb2 := hbx.alloc hbx.size (Obj.cells #[.complex .f64 (fo X i) (fo Y i)] 48)
          rw [show (wr.alloc (Obj.cells #[.int .i64 (X i), .int .i64 (Y i)] 59)).heap.size = wr.heap.size + 1 by simp] at hc1
          have HO : Hid (∀ (w2 : World) (v' : Value), w2.ownsRow w1.heap.size 48 1 v' (i + 1) (((List.range i).map fun j => Value.complex .f64 (fo X j) (fo Y j)) ++ [Value.complex .f64 (fo X i) (fo Y i)]) → w2.ownsRow w1.heap.size 48 1 v' (i + 1) ((List.range (i + 1)).map fun j => Value.complex .f64 (fo X j) (fo Y j))) := Lib.hid fun w2 v' hh => own_more (f := fun j => Value.complex .f64 (fo X j) (fo Y j)) hh
          change ∀ W, Calls _ _ _ W fun e w' => e = .returned (.tuple #[.complex .f64 (fo X i) (fo Y i), .int .i64 0]) ∧ W = w' at cO
          clear hs s1 s2
          generalize hL : ((List.range i).map fun j => Value.complex .f64 (fo X j) (fo Y j)) = L at *
          generalize fo X i = fx at *
          generalize fo Y i = fy at *
          have HXY : Hid (∀ j, j < i + 1 → sdB (X j) = true ∧ sdB (Y j) = true) := Lib.hid fun j hj => by
            rcases Nat.lt_or_ge j i with hj2 | hj2
            · exact HSD.out j hj2
            · obtain rfl : j = i := by omega
              exact HS.out
          clear hL
          generalize X i = xi at *
          generalize Y i = yi at *
          go_wp2_with (fail)
          with_reducible refine (cO _).mono ?_
          rintro e w' ⟨rfl, rfl⟩
          go_wp2_with (at_builtin; refine wpList_append_own _ rfl _ _ 58 rfl w1.heap.size 48 i0 (.complex .f64 0 0) 1 16 Try.underlying58 Hi.out Hz.out hz1 hz2 rfl (by decide) _ _ _ rfl ((hown.alloc _).alloc _) ⟨wr.heap.size + 1, 0, none⟩ 1 1 [.complex .f64 fx fy] rfl rfl hc1 hc2 hc3 hc4 hc5 ?_; intro v' w2 hown2 hg2 _)
          have hb3 := hb2.grown hg2 hc5 (fun k hk => (hown.lt k hk).1)
          have hown3 := HO.out w2 v' hown2
          clear hown2 hg2 hc1 hc2
          go_wp2
          go_roundw
          case rel => exact ⟨i + 1, by omega, by go_num, HXY.out, hown3, hb3⟩
          case measure => first | omega | (simp [intOf]; omega)
      · obtain rfl : i = n := by omega
        obtain ⟨A2, c2, rfl, hrow⟩ := cxs_own hown
        have hX : ∀ j, j < i → Is (fo X j) (X j) ∧ Is (fo Y j) (Y j) ∧ sdB (X j) = true ∧ sdB (Y j) = true := fun j hj => by
          obtain ⟨s1, s2⟩ := hsd j hj
          have := sdB_yes s1
          have := sdB_yes s2
          exact ⟨of_is _ (by omega), of_is _ (by omega), s1, s2⟩
        have cA := padd_any A2 i c2 wr X Y (fo X) (fo Y) hrow hX (by omega)
        have h_2 := h_1.below hb
        have HX := Lib.hid hX
        have HSD := Lib.hid hsd
        clear hown hX hsd h_1 hlt
        cases hok : okS X Y i
        · rw [← addV_no hok] at cA
          have HOK := Lib.hid hok
          clear hok hrow
          go_wp2_with (fail)
          with_reducible refine cA.mono ?_
          rintro e w' ⟨rfl, rfl⟩
          clear cA
          go_wp2
          generalize wr = w3 at *
          go_loopw [10, 11, 57] (fun a b v W => ∃ k : Nat, k ≤ i ∧ v = .int .i64 k ∧ a = .int .i64 (tsm X k) ∧ b = .int .i64 (tsm Y k) ∧ okS X Y k = true ∧ Below w3.heap.size w3 W) (fun _ _ v _ => i - (intOf v).toNat)
          case atStart => exact ⟨0, Nat.zero_le _, rfl, rfl, rfl, rfl, Below.refl _ _⟩
          case round =>
            obtain ⟨k, hk, rfl, rfl, rfl, hokk, hb2⟩ := hrel
            have hbw2 := hbw.trans (hb2.mono hbw.size)
            obtain ⟨am1, am2⟩ := okS_sd hokk
            by_cases hlt : k < i
            · obtain ⟨b, o, rfl, hc⟩ := h_2 (by omega)
              obtain ⟨x0, x1⟩ := hc k hlt
              have d0 := cell_later hb2 x0
              have d1 := cell_later hb2 x1
              have hbx := hb2.alloc hb2.size (.cells #[.int .i64 (X k), .int .i64 (Y k)] 59)
              have hbwx := hbw2.alloc hbw2.size (.cells #[.int .i64 (X k), .int .i64 (Y k)] 59)
              obtain ⟨v0, v1, _, _, vz⟩ := P2.new wr (X k) (Y k) 59
              obtain ⟨s1, s2⟩ := sdB_yes am1
              obtain ⟨s3, s4⟩ := sdB_yes am2
              obtain ⟨f1', f2'⟩ := HSD.out k hlt
              obtain ⟨f1, f2⟩ := sdB_yes f1'
              obtain ⟨f3, f4⟩ := sdB_yes f2'
              have HSU : Hid (okS X Y (k + 1) = (sdB (tsm X k + X k) && sdB (tsm Y k + Y k))) := Lib.hid (by show (okS X Y k && _) = _; rw [hokk]; rfl)
              have HT : Hid (tsm X (k + 1) = tsm X k + X k ∧ tsm Y (k + 1) = tsm Y k + Y k) := Lib.hid ⟨rfl, rfl⟩
              clear hc x0 x1 am1 am2 hokk f1' f2'
              generalize tsm X k = p at *
              generalize tsm Y k = q at *
              generalize X k = xi at *
              generalize Y k = yi at *
              have wp1 : IntKind.i64.wrap (p + xi) = p + xi := IntWalk.i64_in _ (by omega)
              have wq1 : IntKind.i64.wrap (q + yi) = q + yi := IntWalk.i64_in _ (by omega)
              have lp1 : -9223372036854775808 ≤ p + xi := by omega
              have lp2 : p + xi ≤ 9223372036854775807 := by omega
              have lq1 : -9223372036854775808 ≤ q + yi := by omega
              have lq2 : q + yi ≤ 9223372036854775807 := by omega
              have HNX := Lib.hid (show sdB (p + xi) = false ∨ (sdB (p + xi) = true ∧ sdB (q + yi) = false) ∨ (sdB (p + xi) = true ∧ sdB (q + yi) = true) by cases sdB (p + xi) <;> cases sdB (q + yi) <;> simp)
              rcases HNX.out with k1 | ⟨k1, k2⟩ | ⟨k1, k2⟩
              · have r1 := lright_b (p + xi) false k1
                clear k1
                go_wp2
                go_quiet (fail)
                go_wp2_with (fail)
                with_reducible refine (r1 _).mono ?_
                rintro e w' ⟨rfl, rfl⟩
                go_wp2
                go_ret
                exact ⟨rfl, below_drewN hbwx _⟩
              · have r1 := lright_b (p + xi) true k1
                have r2 := lright_b (q + yi) false k2
                clear k1 k2
                go_wp2
                go_quiet (fail)
                go_wp2_with (fail)
                with_reducible refine (r1 _).mono ?_
                rintro e w' ⟨rfl, rfl⟩
                go_wp2_with (fail)
                with_reducible refine (r2 _).mono ?_
                rintro e w' ⟨rfl, rfl⟩
                go_wp2
                go_ret
                exact ⟨rfl, below_drewN hbwx _⟩
              · have r1 := lright_b (p + xi) true k1
                have r2 := lright_b (q + yi) true k2
                have HY := Lib.hid (HSU.out.trans (Bool.and_eq_true_iff.2 ⟨k1, k2⟩))
                clear k1 k2
                go_wp2
                go_quiet (fail)
                go_wp2_with (fail)
                with_reducible refine (r1 _).mono ?_
                rintro e w' ⟨rfl, rfl⟩
                go_wp2_with (fail)
                with_reducible refine (r2 _).mono ?_
                rintro e w' ⟨rfl, rfl⟩
                go_wp2
                go_roundw
                case rel => exact ⟨k + 1, by omega, by go_num, by rw [HT.out.1], by rw [HT.out.2], HY.out, below_drewN hbx _⟩
                case measure => first | omega | (simp [intOf]; omega)
            · obtain rfl : k = i := by omega
              have := HOK.out
              rw [hokk] at this
              simp at this
        · have HOK := Lib.hid hok
          obtain ⟨is1, is2⟩ := rs_is HX.out (Nat.le_refl i) hok
          obtain ⟨sm1, sm2⟩ := okS_sd hok
          rw [← addV_yes hok] at cA
          have cS := sides_ok _ _ _ _ is1 is2 sm1 sm2
          have HT0 : Hid (tsm X i = tsm X i ∧ tsm Y i = tsm Y i) := Lib.hid ⟨rfl, rfl⟩
          generalize rs (fo X) i = rx at *
          generalize rs (fo Y) i = ry at *
          clear hok is1 is2 sm1 sm2
          go_wp2_with (fail)
          with_reducible refine cA.mono ?_
          rintro e w' ⟨rfl, rfl⟩
          clear cA
          go_wp2
          generalize wr = w3 at *
          go_loopw [10, 11, 57] (fun a b v W => ∃ k : Nat, k ≤ i ∧ v = .int .i64 k ∧ a = .int .i64 (tsm X k) ∧ b = .int .i64 (tsm Y k) ∧ okS X Y k = true ∧ Below w3.heap.size w3 W) (fun _ _ v _ => i - (intOf v).toNat)
          case atStart => exact ⟨0, Nat.zero_le _, rfl, rfl, rfl, rfl, Below.refl _ _⟩
          case round =>
            obtain ⟨k, hk, rfl, rfl, rfl, hokk, hb2⟩ := hrel
            have hbw2 := hbw.trans (hb2.mono hbw.size)
            obtain ⟨am1, am2⟩ := okS_sd hokk
            by_cases hlt : k < i
            · have hyk := okS_less HOK.out (k := k + 1) hlt
              obtain ⟨b, o, rfl, hc⟩ := h_2 (by omega)
              obtain ⟨x0, x1⟩ := hc k hlt
              have d0 := cell_later hb2 x0
              have d1 := cell_later hb2 x1
              have hbx := hb2.alloc hb2.size (.cells #[.int .i64 (X k), .int .i64 (Y k)] 59)
              have hbwx := hbw2.alloc hbw2.size (.cells #[.int .i64 (X k), .int .i64 (Y k)] 59)
              obtain ⟨v0, v1, _, _, vz⟩ := P2.new wr (X k) (Y k) 59
              obtain ⟨s1, s2⟩ := sdB_yes am1
              obtain ⟨s3, s4⟩ := sdB_yes am2
              obtain ⟨f1', f2'⟩ := HSD.out k hlt
              obtain ⟨f1, f2⟩ := sdB_yes f1'
              obtain ⟨f3, f4⟩ := sdB_yes f2'
              have HSU : Hid (okS X Y (k + 1) = (sdB (tsm X k + X k) && sdB (tsm Y k + Y k))) := Lib.hid (by show (okS X Y k && _) = _; rw [hokk]; rfl)
              have HT : Hid (tsm X (k + 1) = tsm X k + X k ∧ tsm Y (k + 1) = tsm Y k + Y k) := Lib.hid ⟨rfl, rfl⟩
              clear hc x0 x1 am1 am2 hokk f1' f2'
              generalize tsm X k = p at *
              generalize tsm Y k = q at *
              generalize X k = xi at *
              generalize Y k = yi at *
              have wp1 : IntKind.i64.wrap (p + xi) = p + xi := IntWalk.i64_in _ (by omega)
              have wq1 : IntKind.i64.wrap (q + yi) = q + yi := IntWalk.i64_in _ (by omega)
              have lp1 : -9223372036854775808 ≤ p + xi := by omega
              have lp2 : p + xi ≤ 9223372036854775807 := by omega
              have lq1 : -9223372036854775808 ≤ q + yi := by omega
              have lq2 : q + yi ≤ 9223372036854775807 := by omega
              obtain ⟨k1, k2⟩ := Bool.and_eq_true_iff.1 (HSU.out.symm.trans hyk)
              have r1 := lright_b (p + xi) true k1
              have r2 := lright_b (q + yi) true k2
              have HY := Lib.hid hyk
              clear k1 k2 hyk
              go_wp2
              go_quiet (fail)
              go_wp2_with (fail)
              with_reducible refine (r1 _).mono ?_
              rintro e w' ⟨rfl, rfl⟩
              go_wp2_with (fail)
              with_reducible refine (r2 _).mono ?_
              rintro e w' ⟨rfl, rfl⟩
              go_wp2
              go_roundw
              case rel => exact ⟨k + 1, by omega, by go_num, by rw [HT.out.1], by rw [HT.out.2], HY.out, below_drewN hbx _⟩
              case measure => first | omega | (simp [intOf]; omega)
            · obtain rfl : k = i := by omega
              have h_3 := h_2.below hb2
              have hrow2 := hrow.below hb2
              clear h_2 hrow hokk hlt am1 am2
              generalize tsm X k = p at *
              generalize tsm Y k = q at *
              by_cases h2 : k < 2
              · have t2 : decide ((k : Int) < 2) = true := by simp; omega
                clear h2 h_3 hrow2
                go_wp2_with (fail)
                with_reducible refine (cS _).mono ?_
                rintro e w' ⟨rfl, rfl⟩
                go_wp2
                go_ret
                exact ⟨rfl, hbw2⟩
              · have t2 : decide ((k : Int) < 2) = false := by simp; omega
                obtain ⟨b, o, rfl, hc⟩ := h_3 (by omega)
                obtain ⟨b2, o2, rfl, hc2⟩ := hrow2 (by omega)
                obtain ⟨g00, g01⟩ := hc 0 (by omega)
                obtain ⟨g10, g11⟩ := hc 1 (by omega)
                have l0 := hc2 0 (by omega)
                have l1 := hc2 1 (by omega)
                simp only [Nat.zero_mul, Nat.one_mul, Nat.add_zero] at g00 g01 g10 g11 l0 l1
                obtain ⟨ia, ib, sa, sb⟩ := HX.out 0 (by omega)
                obtain ⟨ic, id, sc, sd⟩ := HX.out 1 (by omega)
                have pS := psub_any _ _ _ _ _ _ _ _ ia ib ic id sa sb sc sd
                have hk2 : 2 ≤ k := by omega
                have i1 : (0 : Int) < (k : Int) := by omega
                have i2 : (1 : Int) < (k : Int) := by omega
                have vno := subV_no (c := X 1) (d := Y 1) (x := fo X 0) (y := fo Y 0) (u := fo X 1) (v := fo Y 1) sa sb
                have vyes := subV_yes ia ib ic id sa sb sc sd
                obtain ⟨a1, a2⟩ := sdB_yes sa
                obtain ⟨a3, a4⟩ := sdB_yes sb
                obtain ⟨a5, a6⟩ := sdB_yes sc
                obtain ⟨a7, a8⟩ := sdB_yes sd
                have VNO := Lib.hid vno
                have VYES := Lib.hid vyes
                clear hc hc2 ia ib ic id sa sb sc sd h2 vno vyes
                generalize subV (X 0) (Y 0) (X 1) (Y 1) (fo X 0) (fo Y 0) (fo X 1) (fo Y 1) = V at *
                generalize fo X 0 = f0 at *
                generalize fo Y 0 = f1 at *
                generalize fo X 1 = f2 at *
                generalize fo Y 1 = f3 at *
                generalize X 0 = xa at *
                generalize Y 0 = ya at *
                generalize X 1 = xb at *
                generalize Y 1 = yb at *
                have m1 : -9223372036854775808 ≤ xa - xb := by omega
                have m2 : xa - xb ≤ 9223372036854775807 := by omega
                have m3 : -9223372036854775808 ≤ ya - yb := by omega
                have m4 : ya - yb ≤ 9223372036854775807 := by omega
                have wl1 : IntKind.i64.wrap (xa - xb) = xa - xb := IntWalk.i64_in _ (by omega)
                have wl2 : IntKind.i64.wrap (ya - yb) = ya - yb := IntWalk.i64_in _ (by omega)
                have k0 := fun d os => cell_regrown l0 d os
                have k1 := fun d os => cell_regrown l1 d os
                have k2 := fun d os => cell_regrown g00 d os
                have k3 := fun d os => cell_regrown g01 d os
                have k4 := fun d os => cell_regrown g10 d os
                have k5 := fun d os => cell_regrown g11 d os
                cases hz : sdB (xa - xb) && sdB (ya - yb)
                · have hV := VNO.out hz
                  rw [hV] at pS
                  have cB := fun (d : Nat) (os : Array Obj) => Calls.regrown_of (d := d) (os := os) (w := wr) (pS (grow (redrawn wr d) os))
                  have HZ := Lib.hid (show sdB (xa - xb) = false ∨ (sdB (xa - xb) = true ∧ sdB (ya - yb) = false) by revert hz; cases sdB (xa - xb) <;> cases sdB (ya - yb) <;> simp)
                  clear hz hV pS VNO VYES
                  go_wp2_with (fail)
                  with_reducible refine (cS _).mono ?_
                  rintro e w' ⟨rfl, rfl⟩
                  go_wp2_with (fail)
                  refine wp_region_quiet_below mixedAll (by kernel_rfl) ?_
                  iterate 6 (go_big_quiet_step (fail))
                  go_big_quiet_step (exact cB _ _)
                  repeat (go_big_quiet_step (fail))
                  refine wpQuiet_nil ?_
                  intro _ hw'
                  obtain ⟨⟨dq, osq⟩, hw''⟩ := hw'
                  subst hw''
                  have hb5 := hbw2.trans ((below_regrown wr dq osq).mono hbw2.size)
                  have g00' := k2 dq osq
                  have g01' := k3 dq osq
                  have g10' := k4 dq osq
                  have g11' := k5 dq osq
                  generalize grow (redrawn wr dq) osq = W5 at *
                  clear cB k0 k1 k2 k3 k4 k5 l0 l1 g00 g01 g10 g11
                  rcases HZ.out with z1 | ⟨z1, z2⟩
                  · have r1 := lright_b _ false z1
                    clear z1
                    go_wp2
                    go_quiet (fail)
                    go_wp2_with (fail)
                    with_reducible refine (r1 _).mono ?_
                    rintro e w' ⟨rfl, rfl⟩
                    go_wp2
                    go_ret
                    exact ⟨rfl, below_drewN hb5 _⟩
                  · have r1 := lright_b _ true z1
                    have r2 := lright_b _ false z2
                    clear z1 z2
                    go_wp2
                    go_quiet (fail)
                    go_wp2_with (fail)
                    with_reducible refine (r1 _).mono ?_
                    rintro e w' ⟨rfl, rfl⟩
                    go_wp2_with (fail)
                    with_reducible refine (r2 _).mono ?_
                    rintro e w' ⟨rfl, rfl⟩
                    go_wp2
                    go_ret
                    exact ⟨rfl, below_drewN hb5 _⟩
                · obtain ⟨sx, sy, hV, isx, isy⟩ := VYES.out hz
                  obtain ⟨z1, z2⟩ := Bool.and_eq_true_iff.1 hz
                  have cZ := sides_ok sx sy _ _ isx isy z1 z2
                  have r1 := lright_b _ true z1
                  have r2 := lright_b _ true z2
                  rw [hV] at pS
                  have cB := fun (d : Nat) (os : Array Obj) => Calls.regrown_of (d := d) (os := os) (w := wr) (pS (grow (redrawn wr d) os))
                  clear hz hV pS VNO VYES z1 z2 isx isy
                  go_wp2_with (fail)
                  with_reducible refine (cS _).mono ?_
                  rintro e w' ⟨rfl, rfl⟩
                  go_wp2_with (fail)
                  refine wp_region_quiet_below mixedAll (by kernel_rfl) ?_
                  iterate 6 (go_big_quiet_step (fail))
                  go_big_quiet_step (exact cB _ _)
                  repeat (go_big_quiet_step (fail))
                  refine wpQuiet_nil ?_
                  intro _ hw'
                  obtain ⟨⟨dq, osq⟩, hw''⟩ := hw'
                  subst hw''
                  have hb5 := hbw2.trans ((below_regrown wr dq osq).mono hbw2.size)
                  have g00' := k2 dq osq
                  have g01' := k3 dq osq
                  have g10' := k4 dq osq
                  have g11' := k5 dq osq
                  generalize grow (redrawn wr dq) osq = W5 at *
                  clear cB k0 k1 k2 k3 k4 k5 l0 l1 g00 g01 g10 g11
                  go_wp2
                  go_quiet (fail)
                  go_wp2_with (fail)
                  with_reducible refine (r1 _).mono ?_
                  rintro e w' ⟨rfl, rfl⟩
                  go_wp2_with (fail)
                  with_reducible refine (r2 _).mono ?_
                  rintro e w' ⟨rfl, rfl⟩
                  go_wp2_with (fail)
                  with_reducible refine (cZ _).mono ?_
                  rintro e w' ⟨rfl, rfl⟩
                  go_wp2
                  go_ret
                  exact ⟨rfl, below_drewN hb5 _⟩
end Go.Proofs.Ytkiefceomgbbhaa
