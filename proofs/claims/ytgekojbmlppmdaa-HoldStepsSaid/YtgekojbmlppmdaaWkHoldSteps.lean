/- The law HoldSteps, put together of its cases. -/
import Derived.Test.YtgekojbmlppmdaaWkHoldStepsC
import Derived.Test.YtgekojbmlppmdaaOpenS
namespace Go.Proofs.Ytgekojbmlppmdaa
open Go.RowKit Go.Sort
set_option linter.unusedVariables false
theorem wHoldSteps (r W S : Int) (f : Py) (w : World) (hr : -9223372036854775808 ≤ r ∧ r ≤ 9223372036854775807) (hW : fits W) (hS : fits S) (hf : pyF f) :
    Calls Try.prog 3 #[.int .i64 r, .agg #[.int .i64 W, .int .i64 S], .agg #[.int .i64 f.c, .int .i64 f.D, .bool f.b]] w fun e w' => e = .returned (.bool true) ∧ Below w.heap.size w w' := by
  cases h : amtB W && amtB S && amtB f.c && amtB f.D
  · exact hs_10 r W S f w hr hW hS hf.1 hf.2 h
  by_cases h0 : r < 0
  · exact hs_50a r W S f w hr hW hS hf.1 hf.2 h h0
  by_cases h1 : 10000 < r
  · exact hs_50b r W S f w hr hW hS hf.1 hf.2 h h1
  have hR : rateB r = true := rateB_mk (by omega) (by omega)
  obtain ⟨⟨⟨hW1, hS1⟩, hc1⟩, hD1⟩ : ((amtB W = true ∧ amtB S = true) ∧ amtB f.c = true) ∧ amtB f.D = true := by simpa only [Bool.and_eq_true] using h
  have hW2 := amtB_yes hW1
  have hc2 := amtB_yes hc1
  have hD2 := amtB_yes hD1
  have lr := fun (w : World) n hn => lright4 W S f.c f.D w 2 true h n hn
  have hlw := lim_walk (r := r) (c := f.c) (by omega) (by omega) hc2
  have hlb := limV_bd (L := r) (c := f.c) (by omega) (by omega) hc2.2
  cases hn : amtB (f.D - W)
  · have st := fun w => step_n none none none 0 0 0 0 0 0 r 0 W S f.c f.D f.b w h hR hn
    have lq := fun a b (w : World) n hn' => lright3 (f.D - W) a b w 2 false (by rw [hn]; rfl) n hn'
    by_cases q1 : limV r f.c < f.D - W
    · exact hs_n_a r W S f.c f.D _ f.b w (by omega) (by omega) hW2 hc2 hD2 hlw hlb.1 hlb.2.1 q1 st lr (lq _ _)
    · by_cases q2 : 0 ≤ f.D - W
      · exact hs_n_b r W S f.c f.D _ f.b w (by omega) (by omega) hW2 hc2 hD2 hlw hlb.1 hlb.2.1 (by omega) q2 st lr (lq _ _)
      · obtain ⟨c, D, b⟩ := f
        cases b
        · exact hs_n_d r W S c D _ w (by omega) (by omega) hW2 hc2 hD2 hlw hlb.1 hlb.2.1 (by dsimp only at *; omega) (by dsimp only at *; omega) st lr (lq _ _)
        · exact hs_n_c r W S c D _ w (by omega) (by omega) hW2 hc2 hD2 hlw hlb.1 hlb.2.1 (by dsimp only at *; omega) (by dsimp only at *; omega) st lr (lq _ _)
  · have st := fun w => step_ok none none none 0 0 0 0 0 0 r 0 W S f.c f.D f.b w h hR hn
    have hnb := amtB_yes hn
    have lq := fun a b (ha : amtB a = true) (hb : amtB b = true) (w : World) n hn' => lright3 (f.D - W) a b w 2 true (by rw [hn, ha, hb]; rfl) n hn'
    have du := fun u v (hu : u + v = f.D) w => due_any u v w (by omega) (by omega)
    by_cases q1 : limV r f.c < f.D - W
    · have hx : stepH r W f.c f.D f.b = limV r f.c := by
        unfold stepH partV
        rw [show min (f.D - W) (limV r f.c) = limV r f.c by omega, if_neg (by omega)]
      rw [hx] at st
      have d := du (W + limV r f.c) (f.D - W - limV r f.c) (by omega)
      rw [show W + limV r f.c + (f.D - W - limV r f.c) = f.D by omega] at d
      exact hs_ok_a r W S f.c f.D _ f.b w (by omega) (by omega) hW2 hc2 hD2 hlw hlb.1 hlb.2.1 q1 st lr (lq _ _ (amtB_mk (by omega) (by omega)) (amtB_mk (by omega) (by omega))) d
    · by_cases q2 : 0 ≤ f.D - W
      · have hx : stepH r W f.c f.D f.b = f.D - W := by
          unfold stepH partV
          rw [show min (f.D - W) (limV r f.c) = f.D - W by omega, if_neg (by omega)]
        rw [hx, show f.D - W - (f.D - W) = 0 by omega] at st
        have d := du (W + (f.D - W)) 0 (by omega)
        rw [show W + (f.D - W) + 0 = f.D by omega] at d
        exact hs_ok_b r W S f.c f.D _ f.b w (by omega) (by omega) hW2 hc2 hD2 hlw hlb.1 hlb.2.1 (by omega) q2 st lr (lq _ _ (amtB_mk (by omega) (by omega)) (amtB_mk (by omega) (by omega))) d
      · obtain ⟨c, D, b⟩ := f
        dsimp only at *
        cases b
        · have hx : stepH r W c D false = 0 := by
            unfold stepH partV
            rw [show min (D - W) (limV r c) = D - W by omega, if_pos ⟨by omega, rfl⟩]
          rw [hx, show W + 0 = W by omega, show D - W - 0 = D - W by omega] at st
          have d := du W (D - W) (by omega)
          rw [show W + (D - W) = D by omega] at d
          exact hs_ok_d r W S c D _ w (by omega) (by omega) hW2 hc2 hD2 hlw hlb.1 hlb.2.1 (by omega) (by omega) st lr (lq _ _ (amtB_mk (by omega) (by omega)) (amtB_mk (by omega) (by omega))) d
        · have hx : stepH r W c D true = D - W := by
            unfold stepH partV
            rw [show min (D - W) (limV r c) = D - W by omega, if_neg (by simp)]
          rw [hx, show D - W - (D - W) = 0 by omega] at st
          have d := du (W + (D - W)) 0 (by omega)
          rw [show W + (D - W) + 0 = D by omega] at d
          exact hs_ok_c r W S c D _ w (by omega) (by omega) hW2 hc2 hD2 hlw hlb.1 hlb.2.1 (by omega) (by omega) st lr (lq _ _ (amtB_mk (by omega) (by omega)) (amtB_mk (by omega) (by omega))) d
end Go.Proofs.Ytgekojbmlppmdaa
