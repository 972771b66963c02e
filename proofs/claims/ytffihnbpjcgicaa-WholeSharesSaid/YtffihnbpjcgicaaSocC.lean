/- What social.Period answers of a table that may be. -/
import Derived.Test.YtffihnbpjcgicaaSocB
import Derived.Lib.QuietBelow
import Derived.BigQuiet
import Derived.OwnWalk
import Derived.Maps.AppendAt
namespace Go.Proofs.Ytffihnbpjcgicaa
open Go.RowKit Go.Sort
set_option linter.unusedVariables false
set_option linter.unusedSimpArgs false

/-- what is known of a table's contributions -/
structure TC (T : TB) : Prop where
  ok : TOk T
  c : ∀ i, i < T.nC → modeB (T.C i).W = true ∧ (0 ≤ (T.C i).P ∧ (T.C i).P ≤ 100000000000) ∧ 0 ≤ (T.C i).Y ∧ (T.C i).Y ≤ 100000000000
theorem tc_of {T : TB} (h : T.chk = 0) : TC T := by
  refine ⟨tok_of h, fun i hi => ?_⟩
  unfold TB.chk chkT at h
  have hh : headE T.L T.W = 0 := by
    split at h
    · assumption
    · exact h
  rw [if_pos hh] at h
  have hs : schsE T.S T.nS = 0 := by
    split at h
    · assumption
    · exact h
  rw [if_pos hs] at h
  have hc : consE T.C T.nC = 0 := by
    split at h
    · assumption
    · exact h
  unfold consE at hc
  have hc1 : firstE (conE T.C T.nC) T.nC = 0 := by
    split at hc
    · omega
    · exact hc
  have h1 := first_zero hc1 i hi
  unfold conE at h1
  have hn : nm (T.C i).N (decide (conI T.C (T.C i).N T.nC < i)) = 0 := by
    split at h1
    · assumption
    · exact h1
  rw [if_pos hn] at h1
  have hb : (baseB (T.C i).B && modeB (T.C i).W && ceilB (T.C i).P && ceilB (T.C i).Y) = true := by
    cases hx : baseB (T.C i).B && modeB (T.C i).W && ceilB (T.C i).P && ceilB (T.C i).Y
    · rw [hx] at h1; simp at h1
    · rfl
  simp only [Bool.and_eq_true, ceilB, decide_eq_true_eq] at hb
  obtain ⟨⟨⟨_, h2⟩, h3, h4⟩, h5, h6⟩ := hb
  exact ⟨h2, ⟨h3, (amtB_yes h4).2⟩, h5, (amtB_yes h6).2⟩
theorem on_bd {B t s : Int} (ht : t ≤ 100000000000) (hs : s ≤ 100000000000) : 0 ≤ onV B t s ∧ onV B t s ≤ 100000000000 := by
  unfold onV; split <;> omega
theorem und_bd {P Y x a : Int} (hx : 0 ≤ x) : 0 ≤ undV P Y x a ∧ undV P Y x a ≤ x := by
  unfold undV undP
  split <;> split <;> omega
/-- how much of a base counts -/
def cntV (T : TB) (t s : Int) (a : Nat → Int) (i : Nat) : Int := undV (T.C i).P (T.C i).Y (onV (T.C i).B t s) (a i)
theorem cnt_bd (T : TB) {t s : Int} (a : Nat → Int) (i : Nat) (ht : t ≤ 100000000000) (hs : s ≤ 100000000000) : 0 ≤ cntV T t s a i ∧ cntV T t s a i ≤ 100000000000 := by
  have h := on_bd (B := (T.C i).B) ht hs
  have h2 := und_bd (P := (T.C i).P) (Y := (T.C i).Y) (a := a i) h.1
  unfold cntV
  omega
/-- what is wrong with a contribution's sum -/
def perE (T : TB) (t s : Int) (a : Nat → Int) (i : Nat) : Int := if amtB (a i + cntV T t s a i) = true then 0 else 10
def shc (L : List (Int × Int)) : List Value := L.flatMap fun p => [.int .i64 p.1, .int .i64 p.2]
theorem shc_app (L M : List (Int × Int)) : shc (L ++ M) = shc L ++ shc M := by simp [shc]
theorem shc_len (L : List (Int × Int)) : (shc L).length = L.length * 2 := by
  induction L with
  | nil => rfl
  | cons p L ih => rw [show p :: L = [p] ++ L from rfl, shc_app, List.length_append, ih]; simp [shc]; omega
def ivs (L : List Int) : List Value := L.map (Value.int .i64)
theorem ivs_app (L M : List Int) : ivs (L ++ M) = ivs L ++ ivs M := by simp [ivs]
def rowL (T : TB) (t s : Int) (a : Nat → Int) (n : Nat) : List (Int × Int) := (List.range n).map fun i => (dueA (T.C i) (cntV T t s a i), dueB (T.C i) (cntV T t s a i))
def behL (T : TB) (t s : Int) (a : Nat → Int) (n : Nat) : List Int := (List.range n).map fun i => a i + cntV T t s a i
theorem rowL_succ (T : TB) (t s : Int) (a : Nat → Int) (n : Nat) : shc (rowL T t s a (n + 1)) = shc (rowL T t s a n) ++ [.int .i64 (dueA (T.C n) (cntV T t s a n)), .int .i64 (dueB (T.C n) (cntV T t s a n))] := by
  unfold rowL
  rw [List.range_succ, List.map_append, shc_app]; rfl
theorem behL_succ (T : TB) (t s : Int) (a : Nat → Int) (n : Nat) : ivs (behL T t s a (n + 1)) = ivs (behL T t s a n) ++ [.int .i64 (a n + cntV T t s a n)] := by
  unfold behL
  rw [List.range_succ, List.map_append, ivs_app]; rfl
theorem infoSh : (Try.prog.info? 47).map (fun i => (i.zero, i.size, i.bytes)) = some (some (.agg #[.int .i64 0, .int .i64 0]), 2, 16) := by kernel_rfl
theorem infoI : (Try.prog.info? 2).map (fun i => (i.zero, i.size, i.bytes)) = some (some (.int .i64 0), 1, 8) := by kernel_rfl
theorem bx_add {W : World} {p : Nat} {t : TypeId} {l : List Value} (h : Bx W p t l) : ∀ j u, l[j]? = some u → W.cell? ((⟨p, 0, none⟩ : Addr).add j) = some u := fun j u hu => by
  rw [Go.WideShapes.add_plain, Nat.zero_add]
  exact h.cell hu
theorem row_later {w w' : World} {A : Option Addr} {n : Nat} {g : Nat → Value} (h : rowAt w A n g) (hb : Below w.heap.size w w') : rowAt w' A n g := fun h0 => by
  obtain ⟨b, o, hA, hc⟩ := h h0
  exact ⟨b, o, hA, fun i hi => cell_later hb (hc i hi)⟩
abbrev PerG (T : TB) (x t s : Int) (A : Option Addr) (n c : Nat) (w : World) (Q : Value → World → Prop) : Prop :=
  Calls Try.prog 28 #[.agg #[.slice T.AS T.nS T.cS, .slice T.AC T.nC T.cC, .slice T.AK T.nK T.cK, .int .i64 T.L, .int .i64 T.W], .agg #[.int .i64 x, .int .i64 t, .int .i64 s], .slice A n c] w fun e w' => ∃ v, e = .returned v ∧ Q v w'
set_option maxRecDepth 100000 in
theorem per_len (T : TB) (x t s : Int) (A : Option Addr) (n c : Nat) (w : World) (hn : n ≠ T.nC) :
    PerG T x t s A n c w fun v w' => v = .tuple #[.slice none 0 0, .slice none 0 0, .int .i64 3] ∧ Below w.heap.size w w' := by
  have B1 := (below_new w (.cells #[.slice T.AS T.nS T.cS, .slice T.AC T.nC T.cC, .slice T.AK T.nK T.cK, .int .i64 T.L, .int .i64 T.W] 26)).alloc (by simp) (.cells #[.int .i64 x, .int .i64 t, .int .i64 s] 39)
  have q : ((n : Int) != (T.nC : Int)) = true := by simp; omega
  unfold PerG
  go_enter Try.func28, Try.ntmps28
  go_wp2
  go_ret3
  exact ⟨_, rfl, rfl, B1⟩
set_option maxRecDepth 100000 in
theorem per_bad (T : TB) (x t s : Int) (A : Option Addr) (n c : Nat) (w : World) (a : Nat → Int) (hr : rowAt w A n fun i => .int .i64 (a i)) (hn : n = T.nC) (hnm : n ≤ 1000000) (hq : (amtB x && amtB t && amtB s && allB a n) = false) :
    PerG T x t s A n c w fun v w' => v = .tuple #[.slice none 0 0, .slice none 0 0, .int .i64 10] ∧ Below w.heap.size w w' := by
  have B1 := (below_new w (.cells #[.slice T.AS T.nS T.cS, .slice T.AC T.nC T.cC, .slice T.AK T.nK T.cK, .int .i64 T.L, .int .i64 T.W] 26)).alloc (by simp) (.cells #[.int .i64 x, .int .i64 t, .int .i64 s] 39)
  have q : ((n : Int) != (T.nC : Int)) = false := by simp; omega
  have hr1 := row_later hr (show Below w.heap.size w _ from B1)
  cases hb : amtB x && amtB t && amtB s
  · have cb := fun w => bright_any x t s w false hb
    clear hq hb hr hr1 hn
    unfold PerG
    go_enter Try.func28, Try.ntmps28
    go_wp2_with (fail)
    with_reducible refine (cb _).mono ?_
    rintro e w1 ⟨rfl, hb⟩
    have B2 := below_step B1 hb B1.size
    go_wp2
    go_ret3
    exact ⟨_, rfl, rfl, B2⟩
  · have cb := fun w => bright_any x t s w true hb
    rw [hb] at hq
    have hall : allB a n = false := by simpa using hq
    have cr := fun w h => right_any A n c w a h (by omega)
    rw [hall] at cr
    clear hq hb hr hn hall
    unfold PerG
    go_enter Try.func28, Try.ntmps28
    go_wp2_with (fail)
    with_reducible refine (cb _).mono ?_
    rintro e w1 ⟨rfl, hb⟩
    have B2 := below_step B1 hb B1.size
    have hr2 := row_later hr1 hb
    clear hr1 hb B1
    go_wp2_with (fail)
    with_reducible refine (cr _ hr2).mono ?_
    rintro e w' ⟨rfl, rfl⟩
    go_wp2
    go_ret3
    exact ⟨_, rfl, rfl, B2⟩
/-- what the loop holds of both rows -/
def PerI (B : Nat) (T : TB) (t s : Int) (a : Nat → Int) (i : Nat) (u v : Value) (X : World) : Prop :=
  X.ownsRow B 47 2 u i (shc (rowL T t s a i)) ∧ X.ownsRow B 2 1 v i (ivs (behL T t s a i)) ∧ ∀ j, u.ownBlock = some j → v.ownBlock ≠ some j
set_option maxRecDepth 100000 in
set_option maxHeartbeats 8000000 in
theorem per_any (T : TB) (x t s : Int) (A : Option Addr) (n c : Nat) (w : World) (h : Tm w T) (hT : TC T) (a : Nat → Int) (hr : rowAt w A n fun i => .int .i64 (a i)) (hn : n = T.nC) (hx : amtB x = true) (ht : amtB t = true) (hs : amtB s = true) (ha : allB a n = true) :
    PerG T x t s A n c w fun v w' => (firstE (perE T t s a) n = 0 → ∃ v1 v2, v = .tuple #[v1, v2, .int .i64 0] ∧ PerI w.heap.size T t s a n v1 v2 w') ∧ (firstE (perE T t s a) n ≠ 0 → v = .tuple #[.slice none 0 0, .slice none 0 0, .int .i64 10]) ∧ Below w.heap.size w w' := by
  have h6 : n ≤ 6 := by have := hT.ok.c6; omega
  have hat := allB_true ha
  have t2 := (amtB_yes ht).2
  have s2 := (amtB_yes hs).2
  have B1 : Below w.heap.size w ((w.alloc (.cells #[.slice T.AS T.nS T.cS, .slice T.AC T.nC T.cC, .slice T.AK T.nK T.cK, .int .i64 T.L, .int .i64 T.W] 26)).alloc (.cells #[.int .i64 x, .int .i64 t, .int .i64 s] 39)) := (below_new w (.cells #[.slice T.AS T.nS T.cS, .slice T.AC T.nC T.cC, .slice T.AK T.nK T.cK, .int .i64 T.L, .int .i64 T.W] 26)).alloc (by simp) (.cells #[.int .i64 x, .int .i64 t, .int .i64 s] 39)
  have K1 := (bx_new w [.slice T.AS T.nS T.cS, .slice T.AC T.nC T.cC, .slice T.AK T.nK T.cK, .int .i64 T.L, .int .i64 T.W] 26).alloc (.cells #[.int .i64 x, .int .i64 t, .int .i64 s] 39)
  have K2 := bx_at (w.alloc (.cells #[.slice T.AS T.nS T.cS, .slice T.AC T.nC T.cC, .slice T.AK T.nK T.cK, .int .i64 T.L, .int .i64 T.W] 26)) [.int .i64 x, .int .i64 t, .int .i64 s] 39 (n := w.heap.size + 1) (by simp)
  have q : ((n : Int) != (T.nC : Int)) = false := by simp; omega
  have hr1 := row_later hr (show Below w.heap.size w _ from B1)
  have MC := h.2.1.below (show Below w.heap.size w _ from B1)
  have cb := fun w => bright_any x t s w true (by rw [hx, ht, hs]; rfl)
  have cr := fun w h => right_any A n c w a h (by omega)
  rw [ha] at cr
  have HT := Lib.hid hT
  have HAT := Lib.hid hat
  have HNC := Lib.hid hn
  obtain ⟨i0, hi0, hz0, hz1, hz2⟩ := info_parts infoSh
  obtain ⟨j0, hj0, hy0, hy1, hy2⟩ := info_parts infoI
  have Hi := Lib.hid hi0
  have Hz := Lib.hid hz0
  have Hj := Lib.hid hj0
  have Hy := Lib.hid hy0
  clear hi0 hz0 hj0 hy0 hn hat ha hx ht hs hr h hT
  unfold PerG
  go_enter Try.func28, Try.ntmps28
  go_wp2_with (fail)
  with_reducible refine (cb _).mono ?_
  rintro e w1 ⟨rfl, hb⟩
  have B2 := below_step B1 hb B1.size
  have hr2 := row_later hr1 hb
  replace K1 := K1.below hb
  replace K2 := K2.below hb
  replace MC := MC.below hb
  clear hr1 hb B1
  have k1_1 := K1.cell (i := 1) rfl
  go_wp2_with (fail)
  with_reducible refine (cr _ hr2).mono ?_
  rintro e w' ⟨rfl, rfl⟩
  have Bw := Below.refl w1.heap.size w1
  go_wp2
  go_loopw [9, 10, 34] (fun u v k X => ∃ i : Nat, i ≤ n ∧ k = .int .i64 i ∧ PerI w1.heap.size T t s a i u v X ∧ firstE (perE T t s a) i = 0 ∧ Below w1.heap.size w1 X) (fun _ _ k _ => n - (intOf k).toNat)
  case atStart => exact ⟨0, Nat.zero_le _, rfl, ⟨World.ownsRow_nil _ _ _ _, World.ownsRow_nil _ _ _ _, fun j hj => by simp [Value.ownBlock] at hj⟩, rfl, Bw⟩
  case round =>
    clear Bw
    obtain ⟨i, hi, rfl, ⟨OA, OB, hsep⟩, hz, hbX⟩ := hrel
    by_cases hlt : i < n
    · have hlt2 : (i : Int) < (T.nC : Int) := by have := HNC.out; omega
      obtain ⟨b, o, hA, hcc⟩ := id (MC (by omega))
      obtain ⟨b2, o2, rfl, hc2⟩ := id (hr2 (by omega))
      obtain ⟨g0, g1, g2, g3, g4, g5, hbd⟩ := hcc i (by omega)
      have ga : wr.cell? ⟨b2, o2 + i, none⟩ = some (.int .i64 (a i)) := cell_later hbX (hc2 i hlt)
      have okc := HT.out.ok.c i (by omega)
      obtain ⟨mw, ⟨p0, p1⟩, y0, y1⟩ := HT.out.c i (by omega)
      have hai := amtB_yes (HAT.out i hlt)
      have cbd := cnt_bd T a i t2 s2
      have HCN : Hid (cntV T t s a i = undV (T.C i).P (T.C i).Y (onV (T.C i).B t s) (a i)) := Lib.hid rfl
      have HPE : Hid (perE T t s a i = if amtB (a i + cntV T t s a i) = true then 0 else 10) := Lib.hid rfl
      have HRL := Lib.hid (rowL_succ T t s a i)
      have HBL := Lib.hid (behL_succ T t s a i)
      have cO := fun w => on_any (T.C i) x t s w
      have cU := fun w => under_any (T.C i) (onV (T.C i).B t s) (a i) w (by omega) (by omega) (by omega)
      have cD := fun w h => sdue_ok (T.C i) (cntV T t s a i) w h okc mw (amtB_mk (by omega) (by omega))
      rw [← HCN.out] at cU
      have HZ := Lib.hid hz
      have HSEP := Lib.hid hsep
      have HO := Lib.hid OA
      have HOB := Lib.hid OB
      clear hz hsep OA OB hcc hc2 okc mw p0 p1 y0 y1 k1_1
      replace g0 := cell_later hbX g0
      replace g1 := cell_later hbX g1
      replace g2 := cell_later hbX g2
      replace g3 := cell_later hbX g3
      replace g4 := cell_later hbX g4
      replace g5 := cell_later hbX g5
      replace hbd := hbd.below hbX
      have J1 := K1.below hbX
      have J2 := K2.below hbX
      have k1_1 := J1.cell (i := 1) rfl
      generalize T.AC = AC at *
      subst hA
      generalize cntV T t s a i = cn at *
      generalize dueA (T.C i) cn = da at *
      generalize dueB (T.C i) cn = db at *
      generalize onV (T.C i).B t s = ov at *
      generalize a i = ai at *
      generalize T.C i = ci at *
      obtain ⟨N, cB, ⟨cA, cn2, cc, F, R, E⟩, cP, cY, cW⟩ := ci
      dsimp only [CB.v] at *
      have K3 := bx_new wr [.string N, .int .i64 cB, .slice cA cn2 cc, .int .i64 cP, .int .i64 cY, .int .i64 cW] 58
      have NB := below_new wr (.cells #[.string N, .int .i64 cB, .slice cA cn2 cc, .int .i64 cP, .int .i64 cY, .int .i64 cW] 58)
      replace J1 := J1.below NB
      replace J2 := J2.below NB
      replace ga := cell_later NB ga
      replace hbd := hbd.below NB
      have B3 := below_step hbX NB hbX.size
      have O3 := own_below HO.out NB
      have P3 := own_below HOB.out NB
      clear NB HO HOB
      have hin : (i : Int) < (n : Int) := by omega
      go_wp2_with (fail)
      clear k1_1 g0 g1 g2 g3 g4 g5
      generalize wr.alloc (.cells #[.string N, .int .i64 cB, .slice cA cn2 cc, .int .i64 cP, .int .i64 cY, .int .i64 cW] 58) = W4 at *
      generalize wr.heap.size = pN at *
      have cA2 := fun (d : Nat) (os : Array Obj) => Calls.regrown_of (d := d) (os := os) (w := W4) (cO (grow (redrawn W4 d) os))
      have cB2 := fun (d : Nat) (os : Array Obj) => Calls.regrown_of (d := d) (os := os) (w := W4) (cU (grow (redrawn W4 d) os))
      have e0 := fun d os => cell_regrown (K3.cell (i := 0) rfl) d os
      have e1 := fun d os => cell_regrown (K3.cell (i := 1) rfl) d os
      have e2 := fun d os => cell_regrown (K3.cell (i := 2) rfl) d os
      have e3 := fun d os => cell_regrown (K3.cell (i := 3) rfl) d os
      have e4 := fun d os => cell_regrown (K3.cell (i := 4) rfl) d os
      have e5 := fun d os => cell_regrown (K3.cell (i := 5) rfl) d os
      have f0 := fun d os => cell_regrown (J2.cell (i := 0) rfl) d os
      have f1 := fun d os => cell_regrown (J2.cell (i := 1) rfl) d os
      have f2 := fun d os => cell_regrown (J2.cell (i := 2) rfl) d os
      have ea := fun d os => cell_regrown ga d os
      refine wp_region_quiet_below mixedAll (by kernel_rfl) ?_
      iterate 3 (go_big_quiet_step (fail))
      go_big_quiet_step (exact cA2 _ _)
      iterate 4 (go_big_quiet_step (fail))
      go_big_quiet_step (exact cB2 _ _)
      repeat (go_big_quiet_step (fail))
      refine wpQuiet_nil ?_
      intro _ hw'
      obtain ⟨⟨dq, osq⟩, hw''⟩ := hw'
      subst hw''
      have NB := below_regrown W4 dq osq
      clear cA2 cB2 e0 e1 e2 e3 e4 e5 f0 f1 f2 ea cO cU
      generalize grow (redrawn W4 dq) osq = W5 at *
      replace J1 := J1.below NB
      replace K3 := K3.below NB
      replace ga := cell_later NB ga
      replace hbd := hbd.below NB
      have B5 := below_step B3 NB B3.size
      have O5 := own_below O3 NB
      have P5 := own_below P3 NB
      clear NB B3 O3 P3
      have k3_0 := K3.cell (i := 0) rfl
      have k3_1 := K3.cell (i := 1) rfl
      have k3_2 := K3.cell (i := 2) rfl
      have k3_3 := K3.cell (i := 3) rfl
      have k3_4 := K3.cell (i := 4) rfl
      have k3_5 := K3.cell (i := 5) rfl
      go_wp2_with (fail)
      with_reducible refine (cD _ hbd).mono ?_
      rintro e W6 ⟨rfl, NB⟩
      replace J1 := J1.below NB
      replace ga := cell_later NB ga
      have B6 := below_step B5 NB B5.size
      have O6 := own_below O5 NB
      have P6 := own_below P5 NB
      clear NB B5 O5 P5 k3_0 k3_1 k3_2 k3_3 k3_4 k3_5 hbd K3 cD
      have K7 := bx_new W6 [.int .i64 da, .int .i64 db] 47
      have NB := below_new W6 (.cells #[.int .i64 da, .int .i64 db] 47)
      replace J1 := J1.below NB
      replace ga := cell_later NB ga
      have B7 := below_step B6 NB B6.size
      have O7 := own_below O6 NB
      have P7 := own_below P6 NB
      clear NB B6 O6 P6
      cases hq : amtB (ai + cn)
      · have cAd := fun w => add_bad ai cn w (by rw [hq]; simp)
        have hf := first_stop (n := n) hlt HZ.out (by rw [HPE.out, hq]; simp)
        rw [HPE.out, hq] at hf
        have HF := Lib.hid hf
        clear hq hf
        go_wp2_with (fail)
        with_reducible refine (cAd _).mono ?_
        rintro e w8 ⟨rfl, hb⟩
        have B8 := below_step (below_step B2 B7 B2.size) hb (by have := B7.size; have := B2.size; omega)
        go_wp2
        go_ret3
        refine ⟨_, rfl, fun h0 => ?_, fun _ => rfl, B8⟩
        exfalso; rw [HF.out] at h0; simp at h0
      · have cAd := fun w => add_ok ai cn w (by rw [amtB_mk hai.1 hai.2, amtB_mk (by omega) (by omega)]; rfl) hq
        have HZN : Hid (firstE (perE T t s a) (i + 1) = 0) := Lib.hid (first_succ HZ.out (by rw [HPE.out, hq]; rfl))
        clear hq
        have k7_0 := K7.cell (i := 0) rfl
        have k7_1 := K7.cell (i := 1) rfl
        go_wp2_with (fail)
        with_reducible refine (cAd _).mono ?_
        rintro e W8 ⟨rfl, NB⟩
        clear k7_0 k7_1
        replace J1 := J1.below NB
        replace K7 := K7.below NB
        have B8 := below_step B7 NB B7.size
        have HO := Lib.hid (own_below O7 NB)
        have HOB := Lib.hid (own_below P7 NB)
        clear NB B7 O7 P7 ga cAd
        have k1_1 := J1.cell (i := 1) rfl
        have k7_0 := K7.cell (i := 0) rfl
        have k7_1 := K7.cell (i := 1) rfl
        have hc3 : i + 1 ≤ maxLen := by unfold maxLen; omega
        have hc4 : (i + 1) * 16 ≤ 140737488355328 := by omega
        have hd4 : (i + 1) * 8 ≤ 140737488355328 := by omega
        have hcA := bx_add (bx_new W8 [.int .i64 da, .int .i64 db] 47)
        have hc2 : ∀ v ∈ ([.int .i64 da, .int .i64 db] : List Value), v.oneCell' = true := by simp [Value.oneCell']
        have hd2 : ∀ v ∈ ([.int .i64 (ai + cn)] : List Value), v.oneCell' = true := by simp [Value.oneCell']
        have hc5 : w1.heap.size ≤ (W8.alloc (.cells #[.int .i64 da, .int .i64 db] 47)).heap.size := by have := B8.size; simp; omega
        have Bc := B8.alloc B8.size (.cells #[.int .i64 da, .int .i64 db] 47)
        go_wp2_with (at_builtin; first
          | (refine wpList_append_own_at _ rfl _ _ 33 rfl w1.heap.size 47 i0 (.agg #[.int .i64 0, .int .i64 0]) 2 16 Try.underlying33 Hi.out Hz.out hz1 hz2 rfl (by decide) _ _ _ rfl (HO.out.alloc _) ⟨W8.heap.size, 0, none⟩ 1 1 [.int .i64 da, .int .i64 db] rfl rfl hcA hc2 hc3 hc4 hc5 ?_
             intro va wa hownA hgA _ hobA
             have sepA : ∀ j, va.ownBlock = some j → u10.ownBlock ≠ some j := fun j hj hb => by
               rcases hobA with h | h
               · exact HSEP.out j (h.symm.trans hj) hb
               · have h2 := (HOB.out.lt j hb).2
                 rw [h] at hj
                 simp at hj
                 omega
             have OB2 : wa.ownsRow w1.heap.size 2 1 u10 i (ivs (behL T t s a i)) := (HOB.out.alloc _).kept hgA (by
               cases hub : u10.ownBlock with
               | none => exact .inl rfl
               | some j => exact .inr fun e => HSEP.out j e.symm hub)
             have Ba := Bc.grown hgA hc5 (fun k hk => (HO.out.lt k hk).1)
             have OA2 : wa.ownsRow w1.heap.size 47 2 va (i + 1) (shc (rowL T t s a (i + 1))) := by rw [HRL.out]; exact hownA
             have hcB := bx_add (bx_new wa [.int .i64 (ai + cn)] 2)
             have hd5 : w1.heap.size ≤ (wa.alloc (.cells #[.int .i64 (ai + cn)] 2)).heap.size := by have := Ba.size; simp; omega
             clear hownA hgA hobA hcA hc2 hc4 hc5 HO HOB k1_1 k7_0 k7_1
             have HOB := Lib.hid OB2
             have HSA := Lib.hid sepA
             have HOA := Lib.hid OA2
             clear OB2 sepA OA2)
          | (refine wpList_append_own_at _ rfl _ _ 63 rfl w1.heap.size 2 j0 (.int .i64 0) 1 8 Try.underlying63 Hj.out Hy.out hy1 hy2 rfl (by decide) _ _ _ rfl (HOB.out.alloc _) ⟨wa.heap.size, 0, none⟩ 1 1 [.int .i64 (ai + cn)] rfl rfl hcB hd2 hc3 hd4 hd5 ?_
             intro vb wb hownB hgB _ hobB
             have OB3 : wb.ownsRow w1.heap.size 2 1 vb (i + 1) (ivs (behL T t s a (i + 1))) := by rw [HBL.out]; exact hownB
             have OA3 : wb.ownsRow w1.heap.size 47 2 va (i + 1) (shc (rowL T t s a (i + 1))) := (HOA.out.alloc _).kept hgB (by
                 cases hva : va.ownBlock with
                 | none => exact .inl rfl
                 | some j => exact .inr fun e => HSA.out j hva e.symm)
             have sepB : ∀ j, va.ownBlock = some j → vb.ownBlock ≠ some j := fun j hj hb => by
               rcases hobB with h | h
               · exact HSA.out j hj (h.symm.trans hb)
               · have h2 := (HOA.out.lt j hj).2
                 rw [h] at hb
                 simp at hb
                 omega
             have Bb := (Ba.alloc Ba.size (Obj.cells #[.int .i64 (ai + cn)] 2)).grown hgB hd5 (fun k hk => (HOB.out.lt k hk).1)
             clear hownB hgB hobB hcB hd2 hd4 hd5 HOB HOA))
        refine ⟨⟨i + 1, by omega, by go_num, ⟨OA3, OB3, sepB⟩, HZN.out, Bb⟩, ?_⟩
        simp [intOf]; omega
    · obtain rfl : i = n := by omega
      have B8 := below_step B2 hbX B2.size
      have O8 := own_mono OA B2.size
      have P8 := own_mono OB B2.size
      have HZ := Lib.hid hz
      clear OA OB hz MC hr2 K1 K2
      have hnl : decide ((i : Int) < (T.nC : Int)) = false := decide_eq_false (by have := HNC.out; omega)
      have hnl2 : ¬ i < T.nC := by have := HNC.out; omega
      go_wp2
      go_ret3
      exact ⟨_, rfl, fun _ => ⟨_, _, rfl, O8, P8, hsep⟩, fun h0 => absurd HZ.out h0, B8⟩
end Go.Proofs.Ytffihnbpjcgicaa
