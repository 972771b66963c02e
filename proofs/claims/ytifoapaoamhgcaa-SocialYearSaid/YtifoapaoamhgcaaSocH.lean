/- The laws' own test of a table, and what the document's own answer of a contribution is. -/
import Derived.Test.YtifoapaoamhgcaaSocG
import Derived.Test.YtifoapaoamhgcaaRefBand
import Derived.Test.YtifoapaoamhgcaaRndR
import Derived.Test.YtifoapaoamhgcaaOpenT
namespace Go.Proofs.Ytifoapaoamhgcaa
open Go.RowKit Go.Sort
set_option linter.unusedVariables false
set_option linter.unusedSimpArgs false

theorem tsz_of {T : TB} (h : TFits T) : Tsz T := ⟨h.2.1.1, h.2.2.1.1, fun _ i hi => (h.2.2.2.2.2.1 i hi).1.1, fun _ i hi => (h.2.2.2.2.2.2.1 i hi).2.2.2.2.2.1.1⟩
/-- may a table be, of a size with which this is tried? -/
def lfB (T : TB) : Bool := decide (T.nS ≤ 20) && decide (T.nC ≤ 20) && decide (T.nK ≤ 30) && (T.chk == 0)
theorem lf_tc {T : TB} (h : lfB T = true) : TC T := by
  unfold lfB at h
  simp only [Bool.and_eq_true, beq_iff_eq] at h
  exact tc_of h.2
set_option maxRecDepth 100000 in
theorem lfits_any (T : TB) (w : World) (h : Tm w T) (hF : TFits T) :
    Calls Try.prog 9 #[.agg #[.slice T.AS T.nS T.cS, .slice T.AC T.nC T.cC, .slice T.AK T.nK T.cK, .int .i64 T.L, .int .i64 T.W]] w fun e w' => e = .returned (.bool (lfB T)) ∧ Below w.heap.size w w' := by
  have K1 := bx_new w [.slice T.AS T.nS T.cS, .slice T.AC T.nC T.cC, .slice T.AK T.nK T.cK, .int .i64 T.L, .int .i64 T.W] 26
  have B1 := below_new w (.cells #[.slice T.AS T.nS T.cS, .slice T.AC T.nC T.cC, .slice T.AK T.nK T.cK, .int .i64 T.L, .int .i64 T.W] 26)
  have cC := check_tab _ T (h.below B1) (tsz_of hF)
  have HB : Hid (lfB T = (decide (T.nS ≤ 20) && decide (T.nC ≤ 20) && decide (T.nK ≤ 30) && (T.chk == 0))) := Lib.hid rfl
  dsimp only [TB.v] at cC
  have k0 := K1.cell (i := 0) rfl
  have k1 := K1.cell (i := 1) rfl
  have k2 := K1.cell (i := 2) rfl
  have k3 := K1.cell (i := 3) rfl
  have k4 := K1.cell (i := 4) rfl
  generalize T.chk = v at *
  generalize lfB T = r at *
  clear h hF K1
  by_cases h1 : T.nS ≤ 20
  · by_cases h2 : T.nC ≤ 20
    · by_cases h3 : T.nK ≤ 30
      · have h1' : decide ((T.nS : Int) ≤ 20) = true := decide_eq_true (by omega)
        have h2' : decide ((T.nC : Int) ≤ 20) = true := decide_eq_true (by omega)
        have h3' : decide ((T.nK : Int) ≤ 30) = true := decide_eq_true (by omega)
        have HR : Hid (r = (v == 0)) := Lib.hid (by rw [HB.out]; simp [h1, h2, h3])
        go_enter Try.func9, Try.ntmps9
        go_wp2_with (fail)
        with_reducible refine cC.mono ?_
        rintro e w1 ⟨rfl, hb⟩
        have B2 := below_step B1 hb B1.size
        go_wp2
        go_ret
        exact ⟨ret_b HR.out.symm, B2⟩
      · have h1' : decide ((T.nS : Int) ≤ 20) = true := decide_eq_true (by omega)
        have h2' : decide ((T.nC : Int) ≤ 20) = true := decide_eq_true (by omega)
        have h3' : decide ((T.nK : Int) ≤ 30) = false := decide_eq_false (by omega)
        have HR : Hid (r = false) := Lib.hid (by rw [HB.out]; simp [h3])
        go_enter Try.func9, Try.ntmps9
        go_wp2
        go_ret
        exact ⟨ret_b HR.out.symm, B1⟩
    · have h1' : decide ((T.nS : Int) ≤ 20) = true := decide_eq_true (by omega)
      have h2' : decide ((T.nC : Int) ≤ 20) = false := decide_eq_false (by omega)
      have HR : Hid (r = false) := Lib.hid (by rw [HB.out]; simp [h2])
      go_enter Try.func9, Try.ntmps9
      go_wp2
      go_ret
      exact ⟨ret_b HR.out.symm, B1⟩
  · have h1' : decide ((T.nS : Int) ≤ 20) = false := decide_eq_false (by omega)
    have HR : Hid (r = false) := Lib.hid (by rw [HB.out]; simp [h1])
    go_enter Try.func9, Try.ntmps9
    go_wp2
    go_ret
    exact ⟨ret_b HR.out.symm, B1⟩
theorem refx_any (x : Int) (A : Option Addr) (n c : Nat) (w : World) (F R E : Nat → Int) (h : Bds w A n F R E) (hok : Okb F R E n) (hx : amtB x = true) :
    Calls Try.prog 14 #[.int .i64 x, .slice A n c, .bool false] w fun e w' => e = .returned (.int .i64 (exactV F R n x)) ∧ w = w' := by
  have := refexact_any x A n c false w F R E R h rfl hok (amtB_yes hx).2 (amtB_yes hx).1
  rwa [← exact_ref hok.1 hok.2.2.1 hok.2.2.2.1] at this
theorem refy_any (x : Int) (A : Option Addr) (n c : Nat) (w : World) (F R E : Nat → Int) (h : Bds w A n F R E) (hok : Okb F R E n) (hx : amtB x = true) :
    Calls Try.prog 14 #[.int .i64 x, .slice A n c, .bool true] w fun e w' => e = .returned (.int .i64 (exactV F E n x)) ∧ w = w' := by
  have := refexact_any x A n c true w F R E E h rfl hok (amtB_yes hx).2 (amtB_yes hx).1
  rwa [← exact_ref hok.1 hok.2.2.1 hok.2.2.2.1] at this
set_option maxRecDepth 100000 in
set_option maxHeartbeats 4000000 in
theorem ldue_any (c : CB) (x : Int) (w : World) (h : Bds w c.b.A c.b.n c.b.F c.b.R c.b.E) (hok : Okb c.b.F c.b.R c.b.E c.b.n) (hm : modeB c.W = true) (hx : amtB x = true) :
    Calls Try.prog 13 #[.agg #[.string c.N, .int .i64 c.B, .slice c.b.A c.b.n c.b.c, .int .i64 c.P, .int .i64 c.Y, .int .i64 c.W], .int .i64 x] w fun e w' => e = .returned (.agg #[.int .i64 (dueA c x), .int .i64 (dueB c x)]) ∧ Below w.heap.size w w' := by
  have hxx := amtB_yes hx
  have eA := exact_bd hok.1 hok.2.2.1 hok.2.2.2.1 hok.2.2.2.2.1 hxx.2
  have eB := exact_bd hok.1 hok.2.2.1 hok.2.2.2.1 hok.2.2.2.2.2 hxx.2
  have cA := fun W hW => refx_any x c.b.A c.b.n c.b.c W c.b.F c.b.R c.b.E hW hok hx
  have cB := fun W hW => refy_any x c.b.A c.b.n c.b.c W c.b.F c.b.R c.b.E hW hok hx
  have hA : dueA c x = rnd (exactV c.b.F c.b.R c.b.n x) 10000 c.W := rfl
  have hB : dueB c x = rnd (exactV c.b.F c.b.E c.b.n x) 10000 c.W := rfl
  generalize exactV c.b.F c.b.R c.b.n x = u at *
  generalize exactV c.b.F c.b.E c.b.n x = v at *
  have rA := fun W => rround_any u c.W W eA.1 eA.2 hm
  have rB := fun W => rround_any v c.W W eB.1 eB.2 hm
  rw [← hA] at rA
  rw [← hB] at rB
  generalize dueA c x = da at *
  generalize dueB c x = db at *
  have K1 := (bx_new w [.string c.N, .int .i64 c.B, .slice c.b.A c.b.n c.b.c, .int .i64 c.P, .int .i64 c.Y, .int .i64 c.W] 31).alloc (.cells #[.int .i64 0, .int .i64 0] 33)
  have K2 := bx_at (w.alloc (.cells #[.string c.N, .int .i64 c.B, .slice c.b.A c.b.n c.b.c, .int .i64 c.P, .int .i64 c.Y, .int .i64 c.W] 31)) [.int .i64 0, .int .i64 0] 33 (n := w.heap.size + 1) (by simp)
  have B1 := (below_new w (.cells #[.string c.N, .int .i64 c.B, .slice c.b.A c.b.n c.b.c, .int .i64 c.P, .int .i64 c.Y, .int .i64 c.W] 31)).alloc (by simp) (.cells #[.int .i64 0, .int .i64 0] 33)
  have hbd := h.below (show Below w.heap.size w _ from B1)
  clear hok hm hx hxx eA eB hA hB h
  go_enter Try.func13, Try.ntmps13
  go_wp2_with (fail)
  generalize (w.alloc (.cells #[.string c.N, .int .i64 c.B, .slice c.b.A c.b.n c.b.c, .int .i64 c.P, .int .i64 c.Y, .int .i64 c.W] 31)).alloc (.cells #[.int .i64 0, .int .i64 0] 33) = W1 at *
  have cA1 := cA W1.drew hbd
  have cB1 := cB W1.drew hbd
  have rA1 := rA W1.drew
  have rB1 := rB W1.drew
  have S1 : W1.drew.cell? ⟨w.heap.size, 2, none⟩ = some (.slice c.b.A c.b.n c.b.c) ∧ W1.drew.cell? ⟨w.heap.size, 5, none⟩ = some (.int .i64 c.W) := ⟨K1.cell rfl, K1.cell rfl⟩
  have z0 : W1.drew.cell? ⟨w.heap.size + 1, 0, none⟩ = some (.int .i64 0) := K2.cell rfl
  have z1 : W1.drew.cell? ⟨w.heap.size + 1, 1, none⟩ = some (.int .i64 0) := K2.cell rfl
  have f0 : W1.drew.frozen? ⟨w.heap.size + 1, 0, none⟩ = false := K2.fr 0
  have f1 : W1.drew.frozen? ⟨w.heap.size + 1, 1, none⟩ = false := K2.fr 1
  have y0 := K2.cell (i := 0) rfl
  have y1 := K2.cell (i := 1) rfl
  have y2 := K2.fr 0
  have y3 := K2.fr 1
  have Z := (K2.set 0 (.int .i64 da)).set 1 (.int .i64 db)
  have Y := K2.set 0 (.int .i64 da)
  have ZK := ((Bx.other (show Bx W1.drew _ _ _ from K1) (q := w.heap.size + 1) (by omega) 0 (.int .i64 da)).other (q := w.heap.size + 1) (by omega) 1 (.int .i64 db))
  have S2 : ((W1.drew.setCell ⟨w.heap.size + 1, 0, none⟩ (.int .i64 da)).setCell ⟨w.heap.size + 1, 1, none⟩ (.int .i64 db)).cell? ⟨w.heap.size, 2, none⟩ = some (.slice c.b.A c.b.n c.b.c) ∧ ((W1.drew.setCell ⟨w.heap.size + 1, 0, none⟩ (.int .i64 da)).setCell ⟨w.heap.size + 1, 1, none⟩ (.int .i64 db)).cell? ⟨w.heap.size, 5, none⟩ = some (.int .i64 c.W) := ⟨ZK.cell rfl, ZK.cell rfl⟩
  clear cA cB rA rB hbd K1 K2 ZK
  go_region_held3 (fun X => X.cell? ⟨w.heap.size, 2, none⟩ = some (.slice c.b.A c.b.n c.b.c) ∧ X.cell? ⟨w.heap.size, 5, none⟩ = some (.int .i64 c.W))
    ((first | exact S1 | assumption | exact S2))
    (first
      | (go_at_call 14; with_reducible refine cA1.mono ?_; rintro e w6 ⟨rfl, hw⟩; subst hw)
      | (go_at_call 14; with_reducible refine cB1.mono ?_; rintro e w6 ⟨rfl, hw⟩; subst hw)
      | (go_at_call 38; with_reducible refine rA1.mono ?_; rintro e w6 ⟨rfl, hw⟩; subst hw)
      | (go_at_call 38; with_reducible refine rB1.mono ?_; rintro e w6 ⟨rfl, hw⟩; subst hw))
  all_goals
    have zz0 := Z.cell (i := 0) rfl
    have zz1 := Z.cell (i := 1) rfl
    have zz2 := Y.cell (i := 0) rfl
    go_wp2
    exact bodyPost_ret (v := .agg #[.int .i64 da, .int .i64 db]) (by simp [results, Try.results13, go_sem, zz0, zz1, zz2]) rfl ⟨rfl, ((B1.setCell (p := ⟨w.heap.size + 1, 0, none⟩) (by show w.heap.size ≤ w.heap.size + 1; omega) _).setCell (p := ⟨w.heap.size + 1, 1, none⟩) (by show w.heap.size ≤ w.heap.size + 1; omega) _).drew⟩
end Go.Proofs.Ytifoapaoamhgcaa
