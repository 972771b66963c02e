/- What the whole's own test of a table's size answers: yes or no; nothing that was there has changed. -/
import Derived.Test.YtffihnbpjcgicaaTabE
import Derived.Test.YtffihnbpjcgicaaBox
namespace Go.Proofs.Ytffihnbpjcgicaa
open Go.RowKit
set_option linter.unusedVariables false
set_option linter.unusedSimpArgs false

def LtP (e : Ending) : Prop := ∃ b : Bool, e = .returned (.bool b)
set_option maxRecDepth 100000 in
set_option maxHeartbeats 4000000 in
theorem light_any (T : TB) (w : World) (h : Tm w T) :
    Calls Try.prog 6 #[.agg #[.slice T.AS T.nS T.cS, .slice T.AC T.nC T.cC, .slice T.AK T.nK T.cK, .int .i64 T.L, .int .i64 T.W]] w fun e w' => LtP e ∧ Below w.heap.size w w' := by
  have K := bx_new w [.slice T.AS T.nS T.cS, .slice T.AC T.nC T.cC, .slice T.AK T.nK T.cK, .int .i64 T.L, .int .i64 T.W] 26
  have B := below_new w (.cells #[.slice T.AS T.nS T.cS, .slice T.AC T.nC T.cC, .slice T.AK T.nK T.cK, .int .i64 T.L, .int .i64 T.W] 26)
  replace h := h.below B
  have k_0 := K.cell (i := 0) rfl
  have k_1 := K.cell (i := 1) rfl
  have k_2 := K.cell (i := 2) rfl
  have k_3 := K.cell (i := 3) rfl
  have k_4 := K.cell (i := 4) rfl
  have HS := Lib.hid h.1
  have HC := Lib.hid h.2.1
  clear h
  have nS := T.nS
  clear nS
  generalize T.AS = AS at *
  generalize T.AC = AC at *
  generalize T.AK = AK at *
  by_cases h1 : 20 < T.nS
  · have t1 : decide ((20 : Int) < (T.nS : Int)) = true := decide_eq_true (by omega)
    clear h1 HS HC K
    go_enter Try.func6, Try.ntmps6
    go_wp2
    go_ret
    exact ⟨⟨_, rfl⟩, B⟩
  have t1 : decide ((20 : Int) < (T.nS : Int)) = false := decide_eq_false (by omega)
  by_cases h2 : 20 < T.nC
  · have t2 : decide ((20 : Int) < (T.nC : Int)) = true := decide_eq_true (by omega)
    clear h1 h2 HS HC K
    go_enter Try.func6, Try.ntmps6
    go_wp2
    go_ret
    exact ⟨⟨_, rfl⟩, B⟩
  have t2 : decide ((20 : Int) < (T.nC : Int)) = false := decide_eq_false (by omega)
  by_cases h3 : 30 < T.nK
  · have t3 : decide ((30 : Int) < (T.nK : Int)) = true := decide_eq_true (by omega)
    clear h1 h2 h3 HS HC K
    go_enter Try.func6, Try.ntmps6
    go_wp2
    go_ret
    exact ⟨⟨_, rfl⟩, B⟩
  have t3 : decide ((30 : Int) < (T.nK : Int)) = false := decide_eq_false (by omega)
  have H1 := Lib.hid h1
  have H2 := Lib.hid h2
  clear h1 h2 h3
  go_enter Try.func6, Try.ntmps6
  go_wp2
  go_loop [26] (fun j => ∃ i : Nat, i ≤ T.nS ∧ j = .int .i64 i) (fun j => T.nS - (intOf j).toNat)
  case atStart => exact ⟨0, Nat.zero_le _, rfl⟩
  case round =>
    obtain ⟨i, hi, rfl⟩ := hrel
    by_cases hlt : i < T.nS
    · have hil : (i : Int) < (T.nS : Int) := by omega
      obtain ⟨b, o, rfl, hc⟩ := HS.out (by omega)
      have x := (hc i hlt).1
      have hi2 := H1.out
      clear hc
      by_cases hb : 20 < (T.S i).n
      · have t4 : decide ((20 : Int) < ((T.S i).n : Int)) = true := decide_eq_true (by omega)
        clear hb
        generalize (T.S i).n = sn at *
        generalize (T.S i).A = sA at *
        generalize (T.S i).c = sc at *
        go_wp2
        go_ret
        exact ⟨⟨_, rfl⟩, B⟩
      · have t4 : decide ((20 : Int) < ((T.S i).n : Int)) = false := decide_eq_false (by omega)
        clear hb
        generalize (T.S i).n = sn at *
        generalize (T.S i).A = sA at *
        generalize (T.S i).c = sc at *
        go_wp2
        refine ⟨⟨i + 1, by omega, by go_num⟩, ?_⟩
        simp [intOf]; omega
    · obtain rfl : i = T.nS := by omega
      have hnl : ¬ (T.nS : Int) < (T.nS : Int) := by omega
      clear hlt hi
      go_wp2
      have Bw := B
      go_loopw [37] (fun j X => ∃ i : Nat, i ≤ T.nC ∧ j = .int .i64 i ∧ Below (w.alloc (.cells #[.slice AS T.nS T.cS, .slice AC T.nC T.cC, .slice AK T.nK T.cK, .int .i64 T.L, .int .i64 T.W] 26)).heap.size (w.alloc (.cells #[.slice AS T.nS T.cS, .slice AC T.nC T.cC, .slice AK T.nK T.cK, .int .i64 T.L, .int .i64 T.W] 26)) X) (fun j _ => T.nC - (intOf j).toNat)
      case atStart => exact ⟨0, Nat.zero_le _, rfl, Below.refl _ _⟩
      case round =>
        clear Bw
        obtain ⟨i, hi, rfl, hbX⟩ := hrel
        have BX := below_step B hbX B.size
        by_cases hlt : i < T.nC
        · have hil : (i : Int) < (T.nC : Int) := by omega
          obtain ⟨b, o, rfl, hc⟩ := HC.out (by omega)
          obtain ⟨x0, x1, x2, x3, x4, x5, _⟩ := hc i hlt
          replace x0 := cell_later hbX x0
          replace x1 := cell_later hbX x1
          replace x2 := cell_later hbX x2
          replace x3 := cell_later hbX x3
          replace x4 := cell_later hbX x4
          replace x5 := cell_later hbX x5
          have hi2 := H2.out
          clear hc
          generalize (T.C i).N = cN at *
          generalize (T.C i).B = cB at *
          generalize (T.C i).b.A = cA at *
          generalize (T.C i).b.n = cn at *
          generalize (T.C i).b.c = cc at *
          generalize (T.C i).P = cP at *
          generalize (T.C i).Y = cY at *
          generalize (T.C i).W = cW at *
          have KX := bx_new wr [.string cN, .int .i64 cB, .slice cA cn cc, .int .i64 cP, .int .i64 cY, .int .i64 cW] 58
          have NX := below_new wr (.cells #[.string cN, .int .i64 cB, .slice cA cn cc, .int .i64 cP, .int .i64 cY, .int .i64 cW] 58)
          have B2 := below_step BX NX BX.size
          have hb2 := below_step hbX NX hbX.size
          have kx_0 := KX.cell (i := 0) rfl
          have kx_1 := KX.cell (i := 1) rfl
          have kx_2 := KX.cell (i := 2) rfl
          have kx_3 := KX.cell (i := 3) rfl
          have kx_4 := KX.cell (i := 4) rfl
          have kx_5 := KX.cell (i := 5) rfl
          clear hbX BX
          by_cases h4 : 20 < cn
          · have t4 : decide ((20 : Int) < (cn : Int)) = true := decide_eq_true (by omega)
            clear h4
            go_wp2
            go_ret
            exact ⟨⟨_, rfl⟩, B2⟩
          have t4 : decide ((20 : Int) < (cn : Int)) = false := decide_eq_false (by omega)
          by_cases h5 : 60 < cN.size
          · have t5 : decide ((60 : Int) < (cN.size : Int)) = true := decide_eq_true (by omega)
            clear h4 h5
            go_wp2
            go_ret
            exact ⟨⟨_, rfl⟩, B2⟩
          have t5 : decide ((60 : Int) < (cN.size : Int)) = false := decide_eq_false (by omega)
          clear h4 h5
          go_wp2
          refine ⟨⟨i + 1, by omega, by go_num, hb2⟩, ?_⟩
          simp [intOf]; omega
        · obtain rfl : i = T.nC := by omega
          have hnl : ¬ (T.nC : Int) < (T.nC : Int) := by omega
          clear hlt hi
          go_wp2
          go_ret
          exact ⟨⟨_, rfl⟩, BX⟩
end Go.Proofs.Ytffihnbpjcgicaa
