/- The law TaxYear, as far as it asks whether it asks at all. -/
import Derived.Test.YtfnjhalpedccaaaDoorTaxYZ
import Derived.Test.YtfnjhalpedccaaaDoorTaxD
import Derived.Test.YtfnjhalpedccaaaDoorOpenX
import Derived.BigQuiet
namespace Go.Proofs.YtfnjhalpedccaaaDoor
open Go.RowKit Go.Sort
set_option linter.unusedVariables false
set_option linter.unusedSimpArgs false

theorem Tm.s {w : World} {T : TB} (h : Tm w T) : SchM w T.AS T.nS T.S := And.left h
theorem tsz_of {T : TB} (h : TFits T) : Tsz T := ⟨h.2.1.1, h.2.2.1.1, fun _ i hi => (h.2.2.2.2.2.1 i hi).1.1, fun _ i hi => (h.2.2.2.2.2.2.1 i hi).2.2.2.2.2.1.1⟩
theorem yrB_23 : yrB 2023 4 6 = true := by decide +kernel
theorem due_err {T : TB} {s k a f y n d : Int} (h : fitsV T s k a f ≠ 0) : (dueT T s k a f y n d).2 = fitsV T s k a f := by
  have e : (exactT T s k a f y n d).2 = fitsV T s k a f := by unfold exactT; rw [if_pos h]
  unfold dueT
  rw [e, if_pos h]
set_option maxRecDepth 100000 in
set_option maxHeartbeats 4000000 in
theorem ty_freq (T : TB) (f : Int) (A : Option Addr) (m q : Nat) (g : Nat → St) (w : World) (h : Tm w T) (hF : TFits T) (hK : Kinds w) (hA : Sts w A m g) (hg : ∀ i, i < m → (g i).F) (hm : m ≤ 9223372036854775807) (hf : f < 1 ∨ 4 < f) :
    Calls Tryd.prog 3 #[.agg #[.slice T.AS T.nS T.cS, .slice T.AC T.nC T.cC, .slice T.AK T.nK T.cK, .int .i64 T.L, .int .i64 T.W], .int .i64 f, .slice A m q] w fun e w' => e = .returned (.bool true) ∧ Below w.heap.size w w' := by
  have K := bx_new w [.slice T.AS T.nS T.cS, .slice T.AC T.nC T.cC, .slice T.AK T.nK T.cK, .int .i64 T.L, .int .i64 T.W] 26
  have B := below_new w (.cells #[.slice T.AS T.nS T.cS, .slice T.AC T.nC T.cC, .slice T.AK T.nK T.cK, .int .i64 T.L, .int .i64 T.W] 26)
  have du := dues_any (w.alloc (.cells #[.slice T.AS T.nS T.cS, .slice T.AC T.nC T.cC, .slice T.AK T.nK T.cK, .int .i64 T.L, .int .i64 T.W] 26)) (hK.below B)
  replace h := h.below B
  replace hK := hK.below B
  replace hA := hA.below B
  have z0 : (w.alloc (.cells #[.slice T.AS T.nS T.cS, .slice T.AC T.nC T.cC, .slice T.AK T.nK T.cK, .int .i64 T.L, .int .i64 T.W] 26)).heap.size = w.heap.size + 1 := by simp
  clear z0
  go_enter Tryd.func3, Tryd.ntmps3
  go_wp2_with (fail)
  with_reducible refine du.mono ?_
  rintro e w1 ⟨rfl, hb⟩
  replace K := K.below hb
  replace h := h.below hb
  replace hK := hK.below hb
  replace hA := hA.below hb
  replace B := below_step B hb B.size
  clear hb du
  have cN := new_freq f 2023 4 6 hf
  clear hf hg
  go_wp2_with (fail)
  with_reducible refine (cN _).mono ?_
  rintro e w2 ⟨rfl, hb⟩
  replace B := below_step B hb B.size
  clear hb
  go_wp2
  go_ret
  exact ⟨rfl, B⟩
set_option maxRecDepth 100000 in
set_option maxHeartbeats 4000000 in
theorem ty_big (T : TB) (f : Int) (A : Option Addr) (m q : Nat) (g : Nat → St) (w : World) (h : Tm w T) (hF : TFits T) (hK : Kinds w) (hA : Sts w A m g) (hg : ∀ i, i < m → (g i).F) (hm : m ≤ 9223372036854775807) (hf : 1 ≤ f) (hf' : f ≤ 4) (h20 : 20 < T.nS) :
    Calls Tryd.prog 3 #[.agg #[.slice T.AS T.nS T.cS, .slice T.AC T.nC T.cC, .slice T.AK T.nK T.cK, .int .i64 T.L, .int .i64 T.W], .int .i64 f, .slice A m q] w fun e w' => e = .returned (.bool true) ∧ Below w.heap.size w w' := by
  have t1 : decide ((20 : Int) < (T.nS : Int)) = true := decide_eq_true (by omega)
  have K := bx_new w [.slice T.AS T.nS T.cS, .slice T.AC T.nC T.cC, .slice T.AK T.nK T.cK, .int .i64 T.L, .int .i64 T.W] 26
  have B := below_new w (.cells #[.slice T.AS T.nS T.cS, .slice T.AC T.nC T.cC, .slice T.AK T.nK T.cK, .int .i64 T.L, .int .i64 T.W] 26)
  have du := dues_any (w.alloc (.cells #[.slice T.AS T.nS T.cS, .slice T.AC T.nC T.cC, .slice T.AK T.nK T.cK, .int .i64 T.L, .int .i64 T.W] 26)) (hK.below B)
  replace h := h.below B
  replace hK := hK.below B
  replace hA := hA.below B
  have z0 : (w.alloc (.cells #[.slice T.AS T.nS T.cS, .slice T.AC T.nC T.cC, .slice T.AK T.nK T.cK, .int .i64 T.L, .int .i64 T.W] 26)).heap.size = w.heap.size + 1 := by simp
  clear z0
  go_enter Tryd.func3, Tryd.ntmps3
  go_wp2_with (fail)
  with_reducible refine du.mono ?_
  rintro e w1 ⟨rfl, hb⟩
  replace K := K.below hb
  replace h := h.below hb
  replace hK := hK.below hb
  replace hA := hA.below hb
  replace B := below_step B hb B.size
  clear hb du
  go_wp2_with (fail)
  with_reducible refine (new_ok f 2023 4 6 hf hf' yrB_23 _ hK).mono ?_
  rintro e w2 ⟨p, rfl, hp, hY, hb⟩
  replace K := K.below hb
  replace h := h.below hb
  replace hA := hA.below hb
  replace B := below_step B hb B.size
  clear hb hK
  clear hF hg h20
  have k_0 := K.cell (i := 0) rfl
  have k_1 := K.cell (i := 1) rfl
  have k_2 := K.cell (i := 2) rfl
  have k_3 := K.cell (i := 3) rfl
  have k_4 := K.cell (i := 4) rfl
  go_wp2
  go_ret
  exact ⟨rfl, B⟩
set_option maxRecDepth 100000 in
set_option maxHeartbeats 4000000 in
theorem ty_chk (T : TB) (f : Int) (A : Option Addr) (m q : Nat) (g : Nat → St) (w : World) (h : Tm w T) (hF : TFits T) (hK : Kinds w) (hA : Sts w A m g) (hg : ∀ i, i < m → (g i).F) (hm : m ≤ 9223372036854775807) (hf : 1 ≤ f) (hf' : f ≤ 4) (h20 : T.nS ≤ 20) (hc : T.chk ≠ 0) :
    Calls Tryd.prog 3 #[.agg #[.slice T.AS T.nS T.cS, .slice T.AC T.nC T.cC, .slice T.AK T.nK T.cK, .int .i64 T.L, .int .i64 T.W], .int .i64 f, .slice A m q] w fun e w' => e = .returned (.bool true) ∧ Below w.heap.size w w' := by
  have t1 : decide ((20 : Int) < (T.nS : Int)) = false := decide_eq_false (by omega)
  have t2 : (T.chk != 0) = true := by simp [hc]
  have hz := tsz_of hF
  clear hF hg h20 hc
  have K := bx_new w [.slice T.AS T.nS T.cS, .slice T.AC T.nC T.cC, .slice T.AK T.nK T.cK, .int .i64 T.L, .int .i64 T.W] 26
  have B := below_new w (.cells #[.slice T.AS T.nS T.cS, .slice T.AC T.nC T.cC, .slice T.AK T.nK T.cK, .int .i64 T.L, .int .i64 T.W] 26)
  have du := dues_any (w.alloc (.cells #[.slice T.AS T.nS T.cS, .slice T.AC T.nC T.cC, .slice T.AK T.nK T.cK, .int .i64 T.L, .int .i64 T.W] 26)) (hK.below B)
  replace h := h.below B
  replace hK := hK.below B
  replace hA := hA.below B
  have z0 : (w.alloc (.cells #[.slice T.AS T.nS T.cS, .slice T.AC T.nC T.cC, .slice T.AK T.nK T.cK, .int .i64 T.L, .int .i64 T.W] 26)).heap.size = w.heap.size + 1 := by simp
  clear z0
  go_enter Tryd.func3, Tryd.ntmps3
  go_wp2_with (fail)
  with_reducible refine du.mono ?_
  rintro e w1 ⟨rfl, hb⟩
  replace K := K.below hb
  replace h := h.below hb
  replace hK := hK.below hb
  replace hA := hA.below hb
  replace B := below_step B hb B.size
  clear hb du
  go_wp2_with (fail)
  with_reducible refine (new_ok f 2023 4 6 hf hf' yrB_23 _ hK).mono ?_
  rintro e w2 ⟨p, rfl, hp, hY, hb⟩
  replace K := K.below hb
  replace h := h.below hb
  replace hA := hA.below hb
  replace B := below_step B hb B.size
  clear hb hK
  have k_0 := K.cell (i := 0) rfl
  have k_1 := K.cell (i := 1) rfl
  have k_2 := K.cell (i := 2) rfl
  have k_3 := K.cell (i := 3) rfl
  have k_4 := K.cell (i := 4) rfl
  have ck : Calls Tryd.prog 7 #[.agg #[.slice T.AS T.nS T.cS, .slice T.AC T.nC T.cC, .slice T.AK T.nK T.cK, .int .i64 T.L, .int .i64 T.W]] w2 fun e w' => e = .returned (.int .i64 T.chk) ∧ Below w2.heap.size w2 w' := check_tab w2 T h hz
  go_wp2_with (fail)
  with_reducible refine ck.mono ?_
  rintro e w3 ⟨rfl, hb⟩
  clear k_0 k_1 k_2 k_3 k_4
  replace K := K.below hb
  replace h := h.below hb
  replace hA := hA.below hb
  replace hY := hY.below hb
  replace B := below_step B hb B.size
  clear hb ck
  clear hz
  generalize T.chk = E1 at *
  go_wp2
  go_ret
  exact ⟨rfl, B⟩
set_option maxRecDepth 100000 in
set_option maxHeartbeats 4000000 in
theorem ty_many (T : TB) (f : Int) (A : Option Addr) (m q : Nat) (g : Nat → St) (w : World) (h : Tm w T) (hF : TFits T) (hK : Kinds w) (hA : Sts w A m g) (hg : ∀ i, i < m → (g i).F) (hm : m ≤ 9223372036854775807) (hf : 1 ≤ f) (hf' : f ≤ 4) (h20 : T.nS ≤ 20) (hc : T.chk = 0) (h60 : 60 < m) :
    Calls Tryd.prog 3 #[.agg #[.slice T.AS T.nS T.cS, .slice T.AC T.nC T.cC, .slice T.AK T.nK T.cK, .int .i64 T.L, .int .i64 T.W], .int .i64 f, .slice A m q] w fun e w' => e = .returned (.bool true) ∧ Below w.heap.size w w' := by
  have t1 : decide ((20 : Int) < (T.nS : Int)) = false := decide_eq_false (by omega)
  have t3 : decide ((60 : Int) < (m : Int)) = true := decide_eq_true (by omega)
  have hz := tsz_of hF
  clear hF hg h20 h60
  have K := bx_new w [.slice T.AS T.nS T.cS, .slice T.AC T.nC T.cC, .slice T.AK T.nK T.cK, .int .i64 T.L, .int .i64 T.W] 26
  have B := below_new w (.cells #[.slice T.AS T.nS T.cS, .slice T.AC T.nC T.cC, .slice T.AK T.nK T.cK, .int .i64 T.L, .int .i64 T.W] 26)
  have du := dues_any (w.alloc (.cells #[.slice T.AS T.nS T.cS, .slice T.AC T.nC T.cC, .slice T.AK T.nK T.cK, .int .i64 T.L, .int .i64 T.W] 26)) (hK.below B)
  replace h := h.below B
  replace hK := hK.below B
  replace hA := hA.below B
  have z0 : (w.alloc (.cells #[.slice T.AS T.nS T.cS, .slice T.AC T.nC T.cC, .slice T.AK T.nK T.cK, .int .i64 T.L, .int .i64 T.W] 26)).heap.size = w.heap.size + 1 := by simp
  clear z0
  go_enter Tryd.func3, Tryd.ntmps3
  go_wp2_with (fail)
  with_reducible refine du.mono ?_
  rintro e w1 ⟨rfl, hb⟩
  replace K := K.below hb
  replace h := h.below hb
  replace hK := hK.below hb
  replace hA := hA.below hb
  replace B := below_step B hb B.size
  clear hb du
  go_wp2_with (fail)
  with_reducible refine (new_ok f 2023 4 6 hf hf' yrB_23 _ hK).mono ?_
  rintro e w2 ⟨p, rfl, hp, hY, hb⟩
  replace K := K.below hb
  replace h := h.below hb
  replace hA := hA.below hb
  replace B := below_step B hb B.size
  clear hb hK
  have k_0 := K.cell (i := 0) rfl
  have k_1 := K.cell (i := 1) rfl
  have k_2 := K.cell (i := 2) rfl
  have k_3 := K.cell (i := 3) rfl
  have k_4 := K.cell (i := 4) rfl
  have ck : Calls Tryd.prog 7 #[.agg #[.slice T.AS T.nS T.cS, .slice T.AC T.nC T.cC, .slice T.AK T.nK T.cK, .int .i64 T.L, .int .i64 T.W]] w2 fun e w' => e = .returned (.int .i64 T.chk) ∧ Below w2.heap.size w2 w' := check_tab w2 T h hz
  go_wp2_with (fail)
  with_reducible refine ck.mono ?_
  rintro e w3 ⟨rfl, hb⟩
  clear k_0 k_1 k_2 k_3 k_4
  replace K := K.below hb
  replace h := h.below hb
  replace hA := hA.below hb
  replace hY := hY.below hb
  replace B := below_step B hb B.size
  clear hb ck
  clear hz
  rw [hc]
  go_wp2
  go_ret
  exact ⟨rfl, B⟩
set_option maxRecDepth 100000 in
set_option maxHeartbeats 4000000 in
theorem ty_long (T : TB) (f : Int) (A : Option Addr) (m q : Nat) (g : Nat → St) (w : World) (h : Tm w T) (hF : TFits T) (hK : Kinds w) (hA : Sts w A m g) (hg : ∀ i, i < m → (g i).F) (hm : m ≤ 9223372036854775807) (hf : 1 ≤ f) (hf' : f ≤ 4) (h20 : T.nS ≤ 20) (hc : T.chk = 0) (h60 : m ≤ 60) (hl : cnt f 2023 4 6 < m) :
    Calls Tryd.prog 3 #[.agg #[.slice T.AS T.nS T.cS, .slice T.AC T.nC T.cC, .slice T.AK T.nK T.cK, .int .i64 T.L, .int .i64 T.W], .int .i64 f, .slice A m q] w fun e w' => e = .returned (.bool true) ∧ Below w.heap.size w w' := by
  have t1 : decide ((20 : Int) < (T.nS : Int)) = false := decide_eq_false (by omega)
  have t3 : decide ((60 : Int) < (m : Int)) = false := decide_eq_false (by omega)
  have t4 : decide (cnt f 2023 4 6 < (m : Int)) = true := decide_eq_true hl
  have hz := tsz_of hF
  clear hF hg h20 h60
  have K := bx_new w [.slice T.AS T.nS T.cS, .slice T.AC T.nC T.cC, .slice T.AK T.nK T.cK, .int .i64 T.L, .int .i64 T.W] 26
  have B := below_new w (.cells #[.slice T.AS T.nS T.cS, .slice T.AC T.nC T.cC, .slice T.AK T.nK T.cK, .int .i64 T.L, .int .i64 T.W] 26)
  have du := dues_any (w.alloc (.cells #[.slice T.AS T.nS T.cS, .slice T.AC T.nC T.cC, .slice T.AK T.nK T.cK, .int .i64 T.L, .int .i64 T.W] 26)) (hK.below B)
  replace h := h.below B
  replace hK := hK.below B
  replace hA := hA.below B
  have z0 : (w.alloc (.cells #[.slice T.AS T.nS T.cS, .slice T.AC T.nC T.cC, .slice T.AK T.nK T.cK, .int .i64 T.L, .int .i64 T.W] 26)).heap.size = w.heap.size + 1 := by simp
  clear z0
  go_enter Tryd.func3, Tryd.ntmps3
  go_wp2_with (fail)
  with_reducible refine du.mono ?_
  rintro e w1 ⟨rfl, hb⟩
  replace K := K.below hb
  replace h := h.below hb
  replace hK := hK.below hb
  replace hA := hA.below hb
  replace B := below_step B hb B.size
  clear hb du
  go_wp2_with (fail)
  with_reducible refine (new_ok f 2023 4 6 hf hf' yrB_23 _ hK).mono ?_
  rintro e w2 ⟨p, rfl, hp, hY, hb⟩
  replace K := K.below hb
  replace h := h.below hb
  replace hA := hA.below hb
  replace B := below_step B hb B.size
  clear hb hK
  have k_0 := K.cell (i := 0) rfl
  have k_1 := K.cell (i := 1) rfl
  have k_2 := K.cell (i := 2) rfl
  have k_3 := K.cell (i := 3) rfl
  have k_4 := K.cell (i := 4) rfl
  have ck : Calls Tryd.prog 7 #[.agg #[.slice T.AS T.nS T.cS, .slice T.AC T.nC T.cC, .slice T.AK T.nK T.cK, .int .i64 T.L, .int .i64 T.W]] w2 fun e w' => e = .returned (.int .i64 T.chk) ∧ Below w2.heap.size w2 w' := check_tab w2 T h hz
  go_wp2_with (fail)
  with_reducible refine ck.mono ?_
  rintro e w3 ⟨rfl, hb⟩
  clear k_0 k_1 k_2 k_3 k_4
  replace K := K.below hb
  replace h := h.below hb
  replace hA := hA.below hb
  replace hY := hY.below hb
  replace B := below_step B hb B.size
  clear hb ck
  have k_0 := K.cell (i := 0) rfl
  have k_1 := K.cell (i := 1) rfl
  have k_2 := K.cell (i := 2) rfl
  have k_3 := K.cell (i := 3) rfl
  have k_4 := K.cell (i := 4) rfl
  clear hz
  rw [hc]
  go_wp2_with (fail)
  with_reducible refine (tyear_long T p f 2023 4 6 A m q w3 hY yrB_23 hf hf' hl).mono ?_
  rintro e w4 ⟨rfl, hb⟩
  replace hY := hY.below hb
  replace B := below_step B hb B.size
  clear hb
  clear k_0 k_1 k_2 k_3 k_4
  have cC := count_any p f 2023 4 6 _ hY yrB_23 hf hf'
  generalize cnt f 2023 4 6 = cn at *
  clear hl
  go_wp2_with (fail)
  with_reducible refine cC.mono ?_
  rintro e w5 ⟨rfl, hb⟩
  replace B := below_step B hb B.size
  clear hb
  go_wp2
  go_ret
  exact ⟨rfl, B⟩
end Go.Proofs.YtfnjhalpedccaaaDoor
